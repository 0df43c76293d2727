import PyProof.Rows.All
import Wide.All
import OpenK.AllK
import Wide.FinOn
import Lean
import PyProof.EqAt
import PyProof.EqKinds
import PyProof.TupleCall
import PyProof.StrWalks
import PyProof.FString5
import PyProof.Draws
import PyProof.EnumMake
import PySem.SetTable
import PyProof.TupleKey
import OpenK.KRaise
import OpenK.KOwn
import PyProof.Rows.TopTwo
import PyProof.RulesAs
import PyProof.RulesDel
import PyProof.ExcArgsOwn
import PyProof.ExcAttrAll.ValueError
import PyProof.Rows.CountFlat
import PyProof.SumWalk
import PyProof.Rows.SeqCalls
import KE.KEqDict
import PyProof.DictWalks
import PyProof.ZipIter
import KE.KRevIter
import PyProof.CollectIter
import PyProof.TupleOfGen
import PyProof.ListRange
import PyProof.WalkInts
import PyProof.AttrMissHeap
import KE.KDictOf
import KE.KDictSum
import PyProof.Rows.SortStr
import PyProof.Rows.StrNews
import PyProof.MeetsStr
import PyProof.StrBlockL
import PyProof.StrLawsTight
import PyProof.StrLawsChain
import PyProof.StrLawsNeg
import PyProof.TableCode
import PySem.Challenge.RW_floorfits_k90_whole_texts
set_option compiler.extract_closed false
set_option bootstrap.genMatcherCode false
set_option genSizeOf false
def yaA:=@decide_eq_true_eq
def yaE:=@of_decide_eq_true
def yaJ:=@decide_eq_true
def yaW:=@decide_eq_false
def ybC:=@if_false
def ybD:=@beq_self_eq_true
def ybK:=@if_true
def ycc:=@decide_eq_false_iff_not
def ycu:=@beq_eq_false_iff_ne
def ycz:=@ne_true_of_eq_false
def ycK:=@beq_iff_eq
open PySem renaming wpAny_bind→yaa,wpAny_pure→yaf,mem_of_lookup→yaz,wpAny_truthy_bool→ya7,wpAny_holding→yba,wpAny_callSpecial?_slot→ybb,wpAny_newObj_type→ybf,wpAny_mono→ybk,wpAny_loadPart_at→ybn,wpAny_call_entry→ybq,wpAny_field→ybw,wpAny_seqItems→ybx,call_meets→ybE,tupleKind_room_in1→ybG,codeAny_builtin→ybN,wpAny_setState_of→ybQ,typeIs_str→yb0,wpAny_pyIter_tuple→yb3,wpAny_passesOwn→yb4,wpAny_Call_Name_kw→yb5,wpAny_setField_rec→yca,wpAny_typeOf→yci,codeAny_call_builtin→ycs,wpAny_execs_nil→ycv,codeAny_mono→ycF,wpAny_pyIter_list→ycJ,wpAny_standAt→ycP,sizeLine_eq→ycQ,wpAny_rule→ycV
open Bool renaming and_eq_true→yab,false_eq_true→yaK,false_ne_true→yaU,not_eq_true'→ya8,or_eq_true→ycx,not_true→ycS,true_and→ycT,and_self→ycU
open List renaming length_map→yac,mem_map→yad,mem_cons_of_mem→yag,mem_cons_self→yah,size_toArray→yai,getElem?_eq_getElem→yaj,getElem?_eq_some_iff→yam,length_cons→yan,mem_cons→yao,map_map→yaq,length_append→yar,map_cons→yas,getElem?_map→yav,getElem?_set_self→yay,mem_append_right→yaC,mem_singleton→yaD,lookup_cons→yaF,map_congr_left→yaH,length_set→yaI,length_replicate→yaL,getElem?_set_ne→yaN,mem_append→yaR,all_eq_true→yaS,mem_of_getElem?→yaT,map_eq_nil_iff→ya0,flatten_cons→ya1,getD_eq_getElem?_getD→ya2,getElem?_append_left→ya4,all_cons→ya5,replicate_succ→ya6,length_take→ybd,getElem?_append_right→ybe,append_assoc→ybg,mem_map_of_mem→ybh,append_nil→ybj,pairwise_cons→ybm,nodup_cons→ybo,take_length→ybr,isEmpty_iff→ybs,mem_filterMap→ybt,mem_range→ybv,foldl_cons→yby,getElem?_replicate→ybB,getElem?_drop→ybH,length_singleton→ybL,find?_cons→ybM,length_range→ybP,take_add_one→ybR,getElem?_of_mem→ybU,mem_iff_getElem→ybV,not_mem_nil→ybX,filterMap_cons→ybY,contains_cons→yb9,take_of_length_le→yce,map_id→ych,take_append_drop→ycl,getElem?_toArray→ycn,length_drop→yco,cons_ne_nil→ycp,mem_append_left→ycq,mem_of_mem_take→yct,forIn_cons→ycw,map_append→ycB,flatten_append→ycC,drop_zero→ycI,nodup_append→ycN,foldl_append→ycO,any_cons→ycR
open PySem.Heap renaming get?_push_of_some→yae,lt_size→yap,get?_push_size→yat,size_push→ybi,get?_update_self→yck
open Nat renaming le_refl→yak,lt_of_lt_of_le→yal,ne_of_lt→yau,le_trans→yaw,zero_le→yaP,ne_of_gt→yaX,lt_irrefl→ya9,le_of_lt→ybI,lt_of_le_of_lt→yb7,le_succ→ycf,lt_succ_of_lt→ycg,add_le_add_left→ycA,lt_trans→ycG,lt_or_eq_of_le→ycH,le_of_succ_le→ycL
open Option renaming map_eq_some_iff→yax,some_ne_none→yaG,isSome_map→ycM
open Array renaming getElem?_eq_getElem→yaB,length_toList→yaM,getElem?_eq_some_iff→yaQ,getElem?_toList→yaZ,mem_toList_iff→ya3,mem_of_getElem?→ybu
open PyProof.Rows renaming slot_tuple_getitem→yaO,callWith_type1→ybJ,assignInOrder_cons→ycD
open PySem.W renaming mg_of→yaV,kia_one→yaY
open Int renaming eq_ofNat_of_zero_le→ybc,emod_lt_of_pos→ybl,toNat_natCast→ybz,emod_nonneg→ybA
open PySem.F renaming slot_tuple_iterator_next→ybp,slot_str_split→ybF,called_set→ybO,excBase_ValueError→ybT,args_tuple_add_2→ybZ,slot_list_getattribute→yb1,args_str_split_2→yb2,entry_tuple_add→yb6,plainAttrs_list→yb8,entry_str_split→ycb,slot_tuple_add→ycd,slot_dict_get→ycj,typeOf_object_class→ycm,slot_zip_next→ycy
open PySem.Str renaming length_append→ybS
open PySem.Around renaming under_plainId→ybW
open PySem.Calls renaming evalArgs_plain→ycr,spliced_cons→ycE
noncomputable section
set_option Elab.async false
set_option linter.all false
set_option maxRecDepth 100000
set_option maxHeartbeats 4000000
abbrev Z1:=Nat->Nat->Option Int
abbrev Z2:=List (List Int)
abbrev Z3:=List (PySem.Addr×PySem.Obj)
abbrev Z4:=List (Option Int)
abbrev Z5:=PySem.Value->PySem.Shared->Prop
abbrev Z6:=PySem.Str->Option PySem.Value
def S2.bdI{c k:Nat}(h:c<=k)(hk:k<=1000000):-1000000<=(c:Int)/\(c:Int)<=1000000:=⟨Int.le_trans (by decide) (Int.natCast_nonneg c),Int.ofNat_le.mpr (yaw h hk)⟩
def S2.bdN{c k:Nat}(h:c<=k)(hk:k<=1000000):0<=(c:Int)/\(c:Int)<=1000000:=⟨Int.natCast_nonneg c,Int.ofNat_le.mpr (yaw h hk)⟩
local macro_rules | `(tactic| omega) => `(tactic| first | assumption | exact yaw (by assumption) (by decide) | exact yal (by assumption) (by assumption) | exact yal (by assumption) (by decide) | exact ybI (by assumption) | exact S2.bdI (by assumption) (by decide) | exact yaw (by assumption) (by assumption) | omega +splitDisjunctions)
namespace L2
open PySem PySem.Spec PyProof.Rows
noncomputable abbrev Key:=Sum Int Str
noncomputable def zig:Key->Value->Bool
 | .inl k,v=>Value.isInt k v
 | .inr x,v=>Value.isStrOf x v
noncomputable def zv8(w:World):Key->Int
 | .inl k=>hashInt k
 | .inr x=>hashStr w x
theorem zaD:∀{k:Key} {v:Value},zig k v=true->(∃i t,k=Sum.inl i/\v=Value.int i t)\/(∃x t,k=Sum.inr x/\v=Value.str x t)
 | .inl i,v,h=>by
  obtain ⟨t,e⟩:=Value.isInt_shape (k:=i) (v:=v) h;exact .inl ⟨i,t,rfl,e⟩
 | .inr x,v,h=>by
  obtain ⟨t,e⟩:=Value.isStrOf_shape (x:=x) (v:=v) h;exact .inr ⟨x,t,rfl,e⟩
def zjE(i:Int)(t:Tok):zig (.inl i) (.int i t)=true:=by simp [zig,Value.isInt]
def zjD(x:Str)(t:Tok):zig (.inr x) (.str x t)=true:=by simp [zig,Value.isStrOf]
def zqY(a b:Int):decide ((Sum.inl a:Key)=Sum.inl b)=(a == b):=by
 by_cases e:a=b
 ·subst e;simp
 ·have h:¬ (Sum.inl a:Key)=Sum.inl b:=fun q=>e (Sum.inl.inj q)
  rw [yaW h];exact (ycu.mpr e).symm
def zqV(a b:Str):decide ((Sum.inr a:Key)=Sum.inr b)=decide (a=b):=by
 by_cases e:a=b
 ·subst e;simp
 ·have h:¬ (Sum.inr a:Key)=Sum.inr b:=fun q=>e (Sum.inr.inj q)
  rw [yaW h,yaW e]
def zqX(a:Int)(b:Str):decide ((Sum.inl a:Key)=Sum.inr b)=false:=yaW (fun q=>nomatch q)
def zqW(a:Str)(b:Int):decide ((Sum.inr a:Key)=Sum.inl b)=false:=yaW (fun q=>nomatch q)
def zap(prog:Program)(w:World):PySem.KeyKind prog w Key where
 is:=zig
 hash:=zv8 w
 inj:=fun v a b ha hb=>by
  rcases zaD ha with ⟨i,t,rfl,rfl⟩ | ⟨x,t,rfl,rfl⟩
  ·rcases zaD hb with ⟨j,u,rfl,e⟩ | ⟨y,u,rfl,e⟩
   ·injection e with e1 _;rw [e1]
   ·exact nomatch e
  ·rcases zaD hb with ⟨j,u,rfl,e⟩ | ⟨y,u,rfl,e⟩
   ·exact nomatch e
   ·injection e with e1 _;rw [e1]
 byValue:=fun k v h=>by
  rcases zaD h with ⟨i,t,rfl,rfl⟩ | ⟨x,t,rfl,rfl⟩<;>rfl
 pyHash:=fun hv h=>by
  rcases zaD hv with ⟨i,t,rfl,rfl⟩ | ⟨x,t,rfl,rfl⟩
  ·exact wpAny_pyHash_int h
  ·exact wpAny_pyHash_str h
 eqBool:=fun hu hv h=>by
  rcases zaD hu with ⟨i,t,rfl,rfl⟩ | ⟨x,t,rfl,rfl⟩
  ·rcases zaD hv with ⟨j,u,rfl,rfl⟩ | ⟨y,u,rfl,rfl⟩
   ·rw [zqY] at h;exact wpAny_eqBool_int h
   ·rw [zqX] at h;exact SeqAt.EqAt.int_str i t y u _ _ _ _ h
  ·rcases zaD hv with ⟨j,u,rfl,rfl⟩ | ⟨y,u,rfl,rfl⟩
   ·rw [zqW] at h;exact SeqAt.EqAt.str_int x t j u _ _ _ _ h
   ·rw [zqV] at h;exact wpAny_eqBool_str h
 «strs»:=fun k x t v h=>by
  rcases zaD h with ⟨i,u,rfl,e⟩ | ⟨y,u,rfl,e⟩
  ·exact nomatch e
  ·injection e with e1 _
   subst e1
   cases v<;>rfl
def zgJ(prog:Program)(w:World)(i:Int)(t:Tok):(zap prog w).is (.inl i) (.int i t)=true:=zjE i t
def zgI(prog:Program)(w:World)(x:Str)(t:Tok):(zap prog w).is (.inr x) (.str x t)=true:=zjD x t
inductive V where
 | non | bl (b:Bool) | int (i:Int) | str (x:Str) | byt (b:Array UInt8) | flt (b:UInt64) | ref (a:Addr) | ty (n:String)
 deriving DecidableEq
noncomputable def zaI:V->Value->Prop
 | .non,u=>u=Value.none
 | .bl b,u=>u=Value.bool b
 | .int i,u=>∃t,u=Value.int i t
 | .str x,u=>∃t,u=Value.str x t
 | .byt b,u=>∃t,u=Value.bytes b t
 | .flt b,u=>∃t,u=Value.float b t
 | .ref a,u=>u=Value.ref a
 | .ty n,u=>u=Value.type n
noncomputable abbrev Vals:List V->List Value->Prop:=Paired zaI
theorem Vals.length(r:Vals xs us):xs.length=us.length:=Paired.length r
theorem Vals.get:∀{xs:List V} {us:List Value} {i:Nat} {x:V},Vals xs us->xs[i]?=some x->∃u,us[i]?=some u/\zaI x u
 | _,_,_,_,.nil,e=>by simp at e
 | _,_,0,_,.cons r _,e=>by simp at e;subst e;exact ⟨_,rfl,r⟩
 | _,_,i+1,x,.cons _ t,e=>by
  obtain ⟨u,h1,h2⟩:=Vals.get (i:=i) (x:=x) t (by simpa using e);exact ⟨u,by simpa using h1,h2⟩
theorem Vals.append:∀{xs ys:List V} {us ws:List Value},Vals xs us->Vals ys ws->Vals (xs++ys) (us++ws)
 | _,_,_,_,.nil,s=>s
 | _,_,_,_,.cons r t,s=>.cons r (Vals.append t s)
theorem Vals.take:∀{xs:List V} {us:List Value} (n:Nat),Vals xs us->Vals (xs.take n) (us.take n)
 | _,_,0,_=>.nil
 | _,_,_+1,.nil=>.nil
 | _,_,n+1,.cons r t=>.cons r (Vals.take n t)
theorem Vals.drop:∀{xs:List V} {us:List Value} (n:Nat),Vals xs us->Vals (xs.drop n) (us.drop n)
 | _,_,0,r=>r
 | _,_,_+1,.nil=>.nil
 | _,_,n+1,.cons _ t=>Vals.drop n t
noncomputable def zix:Option V->Option Value->Prop
 | some v,some u=>zaI v u
 | none,none=>True
 | _,_=>False
noncomputable def KV{κ:Type}:List (κ×V)->List (κ×Value)->Prop:=Paired fun (p:κ×V) (q:κ×Value)=>p.1=q.1/\zaI p.2 q.2
noncomputable def kV:Key->V
 | .inl i=>.int i
 | .inr x=>.str x
inductive HO where
 | lst (xs:List V)
 | tup (xs:List V)
 | dK (kvs:List (Key×V)) | dT (kvs:List (List Key×V))
 | set (S:Int->Bool) (n:Nat)
 | ins (C dx:Addr) (fs:List (Str×V))
 | own (x:Addr)
 | xd (fs:List (Str×V))
 | met (f x:Addr)
 | rng (lo hi:Int)
 | frz (o:Obj) (u:HO)
 | tbl (ps:Array Value)
 | ext (φ:Heap->Prop)
noncomputable abbrev Hp:=Addr->Option HO
noncomputable def upd(H:Hp)(a:Addr)(o:HO):Hp:=fun b=>if b=a then some o else H b
def zaL:upd H a o a=some o:=by unfold upd;rw [if_pos rfl]
def zah(h:b≠a):upd H a o b=H b:=by unfold upd;rw [if_neg h]
def zmZ{H:Hp}{a:Addr}{o u:HO}:upd (upd H a o) a u=upd H a u:=by
 funext b;unfold upd;split<;>rfl
def ztd{H:Hp}{a b:Addr}{o u:HO}(h:H a=some o)(h':H b=some u)(d:o≠u):a≠b:=by
 intro e;subst e;rw [h] at h';exact d (Option.some.inj h')
def zaH{H:Hp}{a b:Addr}{o:HO}(h:H a=some o)(h':H b=none):a≠b:=by
 intro e;subst e;rw [h] at h';cases h'
noncomputable def zmU(h:Heap)(a:Addr)(items:Array Value):Prop:=∃o,h.get? a=some o/\o.cls=.type "tuple" /\ ∃n,o.data=.seq items n/\o.dict=none
theorem zmU.t{h:Heap}{a:Addr}{items:Array Value}:zmU h a items->IsTup h a items | ⟨o,e,c,n,d,_⟩=>⟨o,e,c,n,d⟩
def zmU.new(h:Heap)(items:Array Value):zmU (h.push { cls:=.type "tuple",data:=.seq items }) h.objs.size items:=⟨_,yat _ rfl,rfl,_,rfl,rfl⟩
section
variable(P:Program)(w:World)
def zaG(H:Hp)(h:Heap)(a:Addr):HO->Prop
 | .lst xs=>xs.length<=sizeLine/\∃(its:List Value) (n:Nat),Vals xs its/\h.get? a=some { cls:=.type "list",data:=.seq its.toArray n }
 | .tup xs=>xs.length<=sizeLine/\∃its:List Value,Vals xs its/\zmU h a its.toArray
 | .dK kvs=>kvs.length<=sizeLine/\(a == sysModules)=false/\∃vs,KV kvs vs/\h.DictOf (zap P w) a vs
 | .dT kvs=>kvs.length<=sizeLine/\(a == sysModules)=false/\∃xs:List (List Key×Addr×Value),
   Paired (fun (p:List Key×V) (q:List Key×Addr×Value)=>p.1=q.1/\H q.2.1=some (.tup (p.1.map kV))/\zaI p.2 q.2.2) kvs xs ∧
   ∃o es ep,h.get? a=some o/\o.ExactDict/\o.data=.dict es ep/\es.toList=xs.map (entryOfKey (tupleKind (zap P w)))/\(xs.map (·.1)).Nodup
 | .set S n=>h.SetOf (intKind P w) a S n
 | .ins C dx fs=>H dx=some (.own a)/\fs.length<=1000/\dx≠a/\h.get? a=some (PySem.W.instObj C dx) ∧
   ∃mA,h.Ns1 dx mA/\(∀f,zix (fs.lookup f) (mA f))/\PySem.Within mA (fs.map (·.1))
 | .own _=>∃o,h.get? a=some o
 | .xd fs=>∃mA,h.Ns1 a mA/\∀f,zix (fs.lookup f) (mA f)
 | .rng lo hi=>∃t u v,h.get? a=some { cls:=.type "range",data:=.fields #[.int lo t,.int hi u,.int 1 v] }
 | .frz o u=>h.get? a=some o/\zaG H h a u
 | .tbl ps=>h.get? a=some { cls:=.none,data:=.fields ps }
 | .met f x=>h.get? a=some (PySem.W.methodObj (.ref f) (.ref x))
 | .ext φ=>φ h/\(∃o,h.get? a=some o)/\∀h1 h2:Heap,φ h1->(∀o,h1.get? a=some o->h2.get? a=some o)->φ h2
noncomputable def HOk(H:Hp)(h:Heap):Prop:=∀a o,H a=some o->zaG P w H h a o
end
section
variable{P:Program}{w:World}{H H':Hp}{h h':Heap}{a:Addr}{o:HO}
theorem zaG.lt(x:zaG P w H h a o):a<h.objs.size:=by
 cases o with
 | lst xs=>obtain ⟨_,_,_,_,e⟩:=x;exact yap e
 | tup xs=>obtain ⟨_,_,_,p⟩:=x;exact p.t.lt
 | dK kvs=>obtain ⟨_,_,_,_,o,_,_,e,_⟩:=x;exact yap e
 | dT kvs=>obtain ⟨_,_,_,_,o,_,_,e,_⟩:=x;exact yap e
 | set S n=>obtain ⟨o,_,_,_,e,_⟩:=x;exact yap e
 | ins C dx fs=>obtain ⟨_,_,_,e,_⟩:=x;exact yap e
 | own y=>obtain ⟨_,e⟩:=x;exact yap e
 | xd fs=>obtain ⟨_,⟨_,_,_,e,_⟩,_⟩:=x;exact yap e
 | rng lo hi=>obtain ⟨_,_,_,e⟩:=x;exact yap e
 | frz ob u=>obtain ⟨e,_⟩:=x;exact yap e
 | tbl ps=>exact yap (show h.get? a=some _ from x)
 | met f y=>exact yap (show h.get? a=some _ from x)
 | ext φ=>obtain ⟨_,⟨_,e⟩,_⟩:=x;exact yap e
theorem Paired.mapP{α β:Type}{F G:α->β->Prop}:∀{l₁:List α} {l₂:List β},Paired F l₁ l₂->(∀a b,F a b->G a b)->Paired G l₁ l₂
 | _,_,.nil,_=>.nil
 | _,_,.cons r t,f=>.cons (f _ _ r) (Paired.mapP t f)
def zaG.stay(x:zaG P w H h a o)(k:∀b u,(b=a\/H b=some (.own a))->h.get? b=some u->h'.get? b=some u)
  (ho:∀b,H b=some (.own a)->H' b=some (.own a)) (ht:∀b xs,H b=some (.tup xs)->H' b=some (.tup xs)):zaG P w H' h' a o:=by
 induction o with
 | lst xs=>obtain ⟨z,its,n,r,e⟩:=x;exact ⟨z,its,n,r,k _ _ (.inl rfl) e⟩
 | tup xs=>obtain ⟨z,its,r,ob,e,c⟩:=x;exact ⟨z,its,r,ob,k _ _ (.inl rfl) e,c⟩
 | dK kvs=>obtain ⟨z,y,vs,r,ob,es,ep,e,c⟩:=x;exact ⟨z,y,vs,r,ob,es,ep,k _ _ (.inl rfl) e,c⟩
 | dT kvs =>
  obtain ⟨z,y,xs,r,ob,es,ep,e,c⟩:=x;exact ⟨z,y,xs,Paired.mapP r fun p q z=>⟨z.1,ht _ _ z.2.1,z.2.2⟩,ob,es,ep,k _ _ (.inl rfl) e,c⟩
 | set S n=>obtain ⟨ob,es,ep,t,e,c⟩:=x;exact ⟨ob,es,ep,t,k _ _ (.inl rfl) e,c⟩
 | ins C dx fs =>
  obtain ⟨d,z,ne,e,mA,⟨od,es,ep,e2,c⟩,r⟩:=x;exact ⟨ho _ d,z,ne,k _ _ (.inl rfl) e,mA,⟨od,es,ep,k _ _ (.inr d) e2,c⟩,r⟩
 | own y=>obtain ⟨ob,e⟩:=x;exact ⟨ob,k _ _ (.inl rfl) e⟩
 | xd fs=>obtain ⟨mA,⟨od,es,ep,e,c⟩,r⟩:=x;exact ⟨mA,⟨od,es,ep,k _ _ (.inl rfl) e,c⟩,r⟩
 | rng lo hi=>obtain ⟨t,u,v,e⟩:=x;exact ⟨t,u,v,k _ _ (.inl rfl) e⟩
 | frz ob u ih=>obtain ⟨e,q⟩:=x;exact ⟨k _ _ (.inl rfl) e,ih q⟩
 | tbl ps =>
  have e:h.get? a=some { cls:=.none,data:=.fields ps }:=x;show h'.get? a=some { cls:=.none,data:=.fields ps };exact k a _ (.inl rfl) e
 | met f y =>
  have e:h.get? a=some (PySem.W.methodObj (.ref f) (.ref y)):=x;show h'.get? a=some (PySem.W.methodObj (.ref f) (.ref y));exact k a _ (.inl rfl) e
 | ext φ=>obtain ⟨p,⟨o,e⟩,st⟩:=x;exact ⟨st _ _ p fun o q=>k _ _ (.inl rfl) q,⟨o,k _ _ (.inl rfl) e⟩,st⟩
theorem HOk.lt(x:HOk P w H h)(e:H a=some o):a<h.objs.size:=(x a o e).lt
def HOk.fresh(x:HOk P w H h)(e:h.objs.size<=a):H a=none:=by
 cases q:H a with
 | none=>rfl
 | some u=>exact absurd (yal (x.lt q) e) (ya9 _)
def HOk.kept(x:HOk P w H h)(k:∀b u,h.get? b=some u->h'.get? b=some u):HOk P w H h':=fun a o e =>
 (x a o e).stay (fun b u _ q=>k b u q) (fun _ q=>q) fun _ _ q=>q
def HOk.laid(x:HOk P w H h)(k:∀b u,h.get? b=some u->h'.get? b=some u)(hp:h.objs.size<=a)(new:zaG P w (upd H a o) h' a o):HOk P w (upd H a o) h':=fun b u e=>by
 have hn:=x.fresh hp
 by_cases hb:b=a
 ·subst hb;rw [zaL] at e;cases e;exact new
 ·rw [zah hb] at e
  exact (x b u e).stay (fun c v _ q=>k c v q) (fun c q=>by rw [zah (zaH q hn)];exact q) fun c xs q=>by rw [zah (zaH q hn)];exact q
end
noncomputable def Rd(H:Hp)(a:Addr)(u:HO):Prop:=H a=some u\/∃o,H a=some (.frz o u)
def Rd.ok(r:Rd H a u)(x:HOk P w H h):zaG P w H h a u:=by
 rcases r with r | ⟨o,r⟩
 ·exact x a u r
 ·obtain ⟨_,q⟩:=x a _ r;exact q
noncomputable def Mut:Option HO->Prop
 | some (.lst _)=>True
 | some (.dK _)=>True
 | some (.dT _)=>True
 | some (.set _ _)=>True
 | some (.ins _ _ _)=>True
 | some (.ext _)=>True
 | _=>False
section
variable{P:Program}{w:World}{H:Hp}{h h':Heap}{x e:Addr}{o':HO}
def HOk.write(ok:HOk P w H h)(mu:Mut (H x))(he:e=x\/H e=some (.own x))(k:∀b u,b≠e->h.get? b=some u->h'.get? b=some u)(heo:∃u,h'.get? e=some u)
  (new:zaG P w (upd H x o') h' x o'):HOk P w (upd H x o') h':=fun b u q=>by
 have nown:∀c y,H c=some (.own y)->c≠x:=fun c y r z=>by subst z;rwa [r] at mu
 have ntup:∀c xs,H c=some (.tup xs)->c≠x:=fun c xs r z=>by subst z;rwa [r] at mu
 by_cases hb:b=x
 ·subst hb;rw [zaL] at q;cases q;exact new
 ·rw [zah hb] at q
  by_cases hbe:b=e
  ·have q':H b=some (.own x):=by
    rcases he with z | z
    ·exact absurd (hbe.trans z) hb
    ·rw [hbe];exact z
   rw [q] at q';cases q';obtain ⟨v,hv⟩:=heo;exact ⟨v,by rw [hbe];exact hv⟩
  ·refine (ok b u q).stay (fun c v hc r=>k c v ?_ r) (fun c r=>by rw [zah (nown c b r)];exact r) fun c xs r=>by rw [zah (ntup c xs r)];exact r
   rcases hc with rfl | hc
   ·exact hbe
   ·rintro rfl
    rcases he with z | z
    ·exact nown c b hc z
    ·rw [hc] at z;cases z;exact hb rfl
end
structure Un(fs ex:List Addr)(H H':Hp)(h h':Heap):Prop where
 keep:∀b o,h.get? b=some o->H b=none->b ∉ fs->b ∉ ex->h'.get? b=some o
 slot:∀b o,h.get? b=some o->H b=none->b∈fs->b ∉ ex->∃sl,h'.get? b=some { o with slots:=sl }
 free:∀b o,h.get? b=some o->H b=none->b ∉ ex->H' b=none
 there:∀b o,h.get? b=some o->b ∉ ex->∃o',h'.get? b=some o'
 tups:∀b xs,H b=some (.tup xs)->H' b=some (.tup xs)
 frzs:∀b o u,H b=some (.frz o u)->H' b=some (.frz o u)
 tbls:∀b ps,H b=some (.tbl ps)->∃more,H' b=some (.tbl (ps++more))
section
variable{fs fs' ex ex':List Addr}{H H1 H2:Hp}{h h1 h2 h':Heap}{a x e:Addr}{o:HO}
def Un.any(u:Un fs ex H H1 h h1)(q:h.get? b=some ob)(n:H b=none)(hx:b ∉ ex):∃sl,h1.get? b=some { ob with slots:=sl }:=by
 by_cases hb:b∈fs
 ·exact u.slot b ob q n hb hx
 ·exact ⟨ob.slots,u.keep b ob q n hb hx⟩
def Un.kept(k:∀b u,h.get? b=some u->h'.get? b=some u):Un fs ex H H h h' :=
 ⟨fun b ob q _ _ _=>k b ob q,fun b ob q _ _ _=>⟨ob.slots,k b ob q⟩,fun _ _ _ n _=>n,fun b ob q _=>⟨ob,k b ob q⟩,fun _ _ q=>q,fun _ _ _ q=>q,fun _ ps q=>⟨#[],by rw [q];simp⟩⟩
def Un.refl:Un fs ex H H h h:=Un.kept fun _ _ q=>q
def Un.laid(k:∀b u,h.get? b=some u->h'.get? b=some u)(hp:h.objs.size<=a)(hn:H a=none):Un fs ex H (upd H a o) h h' where
 keep:=fun b u q _ _ _=>k b u q
 slot:=fun b u q _ _ _=>⟨u.slots,k b u q⟩
 free:=fun b u q n _=>by rw [zah (yau (yal (yap q) hp))];exact n
 there:=fun b u q _=>⟨u,k b u q⟩
 tups:=fun b xs q=>by rw [zah (zaH q hn)];exact q
 frzs:=fun b u xs q=>by rw [zah (zaH q hn)];exact q
 tbls:=fun b ps q=>⟨#[],by rw [zah (zaH q hn),q];simp⟩
def Un.write(mu:Mut (H x))(he:e=x\/H e=some (.own x))(k:∀b u,b≠e->h.get? b=some u->h'.get? b=some u)(heo:∃u,h'.get? e=some u):Un fs ex H (upd H x o) h h':=by
 have hx:∀b,H b=none->b≠x:=fun b n z=>by subst z;rwa [n] at mu
 have hb:∀b,H b=none->b≠e:=fun b n z=>by
  subst z
  rcases he with r | r
  ·exact hx b n r
  ·rw [n] at r;cases r
 have hm:∀b u,H b=some u->¬ Mut (some u)->b≠x:=fun b u q nm z=>by subst z;rw [q] at mu;exact nm mu
 refine ⟨fun b u q n _ _=>k b u (hb b n) q,fun b u q n _ _=>⟨u.slots,k b u (hb b n) q⟩,fun b u q n _=>by rw [zah (hx b n)];exact n,fun b u q _=>?_,
  fun b xs q=>by rw [zah (hm b _ q fun z=>z)];exact q,fun b u xs q=>by rw [zah (hm b _ q fun z=>z)];exact q,fun b ps q=>⟨#[],by rw [zah (hm b _ q fun z=>z),q];simp⟩⟩
 by_cases hbe:b=e
 ·subst hbe;exact heo
 ·exact ⟨u,k b u hbe q⟩
end
noncomputable def trk(h:Heap)(H:Hp):List Addr:=(List.range h.objs.size).filter fun a=>(H a).isSome
def zjU(h:Heap)(H:Hp):Heap:=PySem.W.hideAll h (trk h H)
def zjT(h:Heap)(H:Hp):(zjU h H).objs.size=h.objs.size:=PySem.W.hideAll_size _ _
def zlI(e:h.get? b=some o)(n:H b=none):(zjU h H).get? b=some o :=
 PySem.W.hideAll_get _ e fun hm=>by
  have q:(H b).isSome=true:=(List.mem_filter.mp hm).2;rw [n] at q;simp at q
def znW(e:(zjU h H).get? b=some o):h.get? b=some o/\H b=none:=by
 have e':h.get? b=some o:=PySem.W.of_hideAll (trk h H) e;refine ⟨e',?_⟩
 cases q:H b with
 | none=>rfl
 | some x =>
  have hm:b∈trk h H:=List.mem_filter.mpr ⟨ybv.mpr (yap e'),by simp [q]⟩;have z:(zjU h H).get? b=none:=PySem.W.hideAll_none (trk h H) hm;rw [z] at e;cases e
noncomputable def zoS(g h:Heap)(L:Addr):List (Addr×Obj):=(List.range h.objs.size).filterMap fun a=>if a=L\/(g.get? a).isSome=true then none else (h.get? a).map fun o=>(a,o)
def za0(g h:Heap)(L d:Addr):List (Addr×Obj):=(zoS g h L).filter fun p=>decide (p.1≠d)
structure Mod(K:PySem.W.Frag)(mg:Z6)(base:Heap):Prop where
 kin:K.In base
 glob:base.Ns mainGlobals mg
 blt:∃mb,base.Ns builtinsNs mb/\∀x:Str,x ≠ "__name__" -> mb x=bootBuiltins x
 nolimit:base.NoLimit
structure Cx where
 prog:Program
 w:World
 K:PySem.W.Frag
 mg:Str->Option Value
 base:Heap
 A:Around
 N:List Str
 s₀:Shared
 H₀:Hp
 env:Env
 outer:List Env
 stack:List Env
 ex:List Addr
 fn:Str->Bool
 calm:Bool
 pn:List (Addr×Obj)
 xe:Value->Shared->Prop
noncomputable def frs(l:List Env):List Addr:=l.filterMap (·.frame)
noncomputable abbrev Cx.fs(X:Cx):List Addr:=frs X.outer
noncomputable def Vis(sc:Scope)(x:Str):Prop:=sc.names.lookup x=some .local\/sc.names.lookup x=some .cell\/sc.names.lookup x=some .free
noncomputable def Loc(sc:Scope)(x:Str):Prop:=sc.names.lookup x=some .local\/sc.names.lookup x=some .cell
noncomputable def zwU(env:Env)(h:Heap)(m:Z6)(x:Str)(u:Value):Prop :=
 (env.kindOf x=some .local/\m x=some u)\/((env.kindOf x=some .cell\/env.kindOf x=some .free)/\∃c,env.cells.lookup x=some c/\h.IsCell c (some u))
structure Cx.Ok(X:Cx):Prop where
 mod:Mod X.K X.mg X.base
 kind:X.env.scope.kind=.function
 glob:X.env.globals=mainGlobals
 blt:X.env.builtins=builtinsNs
 above:X.s₀.heap.objs.size<=X.env.locals
 inj:∀x y c,X.env.cells.lookup x=some c->X.env.cells.lookup y=some c->x=y
 has:∀x,(X.env.kindOf x=some .cell\/X.env.kindOf x=some .free)->∃c,X.env.cells.lookup x=some c
 cab:∀x c,X.fn x=true->X.env.cells.lookup x=some c->X.s₀.heap.objs.size<=c
 hd:X.calm=true->X.A.handled=none
 frames:X.A.frames=some X.stack
 stk:X.stack=X.outer\/(X.stack=X.env::X.outer/\X.env.frame=some X.env.locals)
 exf:∀b∈X.ex,b≠X.env.locals/\∀x c,X.env.cells.lookup x=some c->c≠b
 bs:∀b o,X.base.get? b=some o->X.s₀.heap.get? b=some o/\X.H₀ b=none
 bsz:X.base.objs.size<=X.s₀.heap.objs.size
 noex:∀b o,X.base.get? b=some o->b ∉ X.ex
 exfs:∀b∈X.ex,b ∉ X.fs
 funs:X.s₀.heap.FunFrames X.base X.outer
 frf:∀b∈X.fs,X.H₀ b=none
structure Inv(X:Cx)(pins:Z3)(σ:List (Option V))(H:Hp)(s:Shared):Prop where
 ok:X.Ok
 os:s.os=X.s₀.os
 bare:AllBare s.gens
 base:Un X.fs X.ex X.H₀ H X.s₀.heap s.heap
 loc:∃m,s.heap.Ns X.env.locals m/\∀(i:Nat) (x:Str) (v:V),X.N[i]?=some x->σ[i]?=some (some v)->Vis X.env.scope x->∃u,zaI v u/\zwU X.env s.heap m x u
 cell:∀x c,X.env.cells.lookup x=some c->∃v,s.heap.IsCell c v
 free:H X.env.locals=none
 freeC:∀x c,X.env.cells.lookup x=some c->H c=none
 pin:∀p∈X.pn++pins,s.heap.get? p.1=some p.2/\H p.1=none/\p.1≠X.env.locals/\p.1 ∉ X.fs/\∀v,p.2.data≠.cell v
 hok:HOk X.prog X.w H s.heap
 len:σ.length=X.N.length
section
variable{X:Cx}{pins:Z3}{σ:List (Option V)}{H H':Hp}{s:Shared}{h':Heap}
def Cx.Ok.nofr(ok:X.Ok)(e:X.base.get? b=some o):b ∉ X.fs:=fun hb=>by
 have:=(ok.funs.mem hb).1;rw [e] at this;cases this
theorem Inv.bs(I:Inv X pins σ H s):∀b o,X.base.get? b=some o->s.heap.get? b=some o/\H b=none:=fun b o e =>
 ⟨I.base.keep b o (I.ok.bs b o e).1 (I.ok.bs b o e).2 (I.ok.nofr e) (I.ok.noex b o e),I.base.free b o (I.ok.bs b o e).1 (I.ok.bs b o e).2 (I.ok.noex b o e)⟩
def Inv.bk(I:Inv X pins σ H s):∀b o,X.base.get? b=some o->s.heap.get? b=some o:=fun b o e=>(I.bs b o e).1
theorem Inv.mod(I:Inv X pins σ H s):Mod X.K X.mg X.base:=I.ok.mod
def Inv.kIn(I:Inv X pins σ H s):X.K.In s.heap:=I.ok.mod.kin.keeps I.bk
theorem Inv.lt(I:Inv X pins σ H s):X.env.locals<s.heap.objs.size:=let ⟨_,hn,_⟩:=I.loc;hn.lt
def Inv.sz(I:Inv X pins σ H s):X.s₀.heap.objs.size<=s.heap.objs.size:=yaw I.ok.above (ybI I.lt)
def Inv.nofs(I:Inv X pins σ H s)(h:s.heap.objs.size<=a):a ∉ X.fs:=fun hb=>by
 obtain ⟨_,o,ho,_⟩:=I.ok.funs.mem hb;exact absurd (yal (yap ho) (yaw I.sz h)) (ya9 _)
def Inv.cne(I:Inv X pins σ H s):∀x c,X.env.cells.lookup x=some c->c≠X.env.locals:=fun x c e z=>by
 obtain ⟨v,o,ho,hd⟩:=I.cell x c e;obtain ⟨m,⟨o',es,ep,ho',hd',_⟩,_⟩:=I.loc;rw [z,ho'] at ho;cases ho;rw [hd'] at hd;cases hd
theorem Inv.funs(I:Inv X pins σ H s):s.heap.FunFrames X.base X.outer:=by
 have all:∀(l:List Env),(∀b∈frs l,b∈X.fs)->X.s₀.heap.FunFrames X.base l->s.heap.FunFrames X.base l:=by
  intro l
  induction l with
  | nil=>intro _ _;trivial
  | cons env r ih =>
   intro hs hl;obtain ⟨hk,⟨L,o,hf,hn,ho,hd⟩,hr⟩:=hl;have hL:L∈X.fs:=hs L (by unfold frs;rw [ybY,hf];exact yah);obtain ⟨sl,e⟩:=I.base.slot L o ho (I.ok.frf L hL) hL fun z=>I.ok.exfs L z hL
   exact ⟨hk,⟨L,_,hf,hn,e,hd⟩,ih (fun b hb=>hs b (by unfold frs;rw [ybY,hf];exact yag _ hb)) hr⟩
 exact all X.outer (fun _ hb=>hb) I.ok.funs
theorem Inv.stack(I:Inv X pins σ H s):s.heap.FunFrames X.base X.stack:=by
 rcases I.ok.stk with e | ⟨e,hf⟩
 ·rw [e];exact I.funs
 ·rw [e];obtain ⟨m,hn,_⟩:=I.loc;refine .cons (by rw [I.ok.kind];decide) hf hn ?_ I.funs;exact Heap.get?_none_of_le (yaw I.ok.bsz I.ok.above)
def Inv.stkSub(I:Inv X pins σ H s):∀b∈frs X.stack,b∈X.env.locals::X.fs:=fun b hb=>by
 rcases I.ok.stk with e | ⟨e,hf⟩
 ·rw [e] at hb;exact yag _ hb
 ·rw [e] at hb;unfold frs at hb;rwa [ybY,hf] at hb
def Inv.stkFree(I:Inv X pins σ H s):∀b∈frs X.stack,H b=none:=fun b hb=>by
 rcases yao.mp (I.stkSub b hb) with e | hb
 ·rw [e];exact I.free
 ·obtain ⟨_,o,ho,_⟩:=I.ok.funs.mem hb;exact I.base.free b o ho (I.ok.frf b hb) fun z=>I.ok.exfs b z hb
def Inv.step{g':Array GenState}{t':Nat}{d':Drawn}{ch:List Addr}(I:Inv X pins σ H s)
  (hch:∀b∈ch,(b∈X.ex\/X.s₀.heap.objs.size<=b)/\b≠X.env.locals/\(∀x c,X.env.cells.lookup x=some c->c≠b)/\∀p∈X.pn++pins,p.1≠b)
  (keep:∀b o,b≠X.env.locals->b ∉ X.fs->b ∉ ch->s.heap.get? b=some o->H b=none->h'.get? b=some o)
  (slot:∀b o,b≠X.env.locals->b∈X.fs->b ∉ ch->s.heap.get? b=some o->H b=none->∃sl,h'.get? b=some { o with slots:=sl }) (free:∀b o,b ∉ ch->s.heap.get? b=some o->H b=none->H' b=none)
  (there:∀b o,b ∉ ch->s.heap.get? b=some o->∃o',h'.get? b=some o')
  (tups:∀b xs,H b=some (.tup xs)->H' b=some (.tup xs)) (frzs:∀b o u,H b=some (.frz o u)->H' b=some (.frz o u)) (tbls:∀b ps,H b=some (.tbl ps)->∃more,H' b=some (.tbl (ps++more)))
  (ns:∀m,s.heap.Ns X.env.locals m->h'.Ns X.env.locals m) (hok:HOk X.prog X.w H' h') (hg:AllBare g') :
  Inv X pins σ H' { s with heap:=h',gens:=g',drawn:=d',toks:=t' }:=by
 have neL:∀b o,X.s₀.heap.get? b=some o->b≠X.env.locals:=fun b o e=>yau (yal (yap e) I.ok.above)
 have neC:∀b o,X.s₀.heap.get? b=some o->b ∉ X.ex->b ∉ ch:=fun b o e hx hb=>by
  rcases (hch b hb).1 with z | z
  ·exact hx z
  ·exact absurd (yal (yap e) z) (ya9 _)
 have cellK:∀x c,X.env.cells.lookup x=some c->∀v,s.heap.IsCell c v->h'.IsCell c v:=fun x c e v ⟨o,ho,hd⟩=>by
  have nch:c ∉ ch:=fun z=>(hch c z).2.2.1 x c e rfl
  by_cases hc:c∈X.fs
  ·obtain ⟨sl,q⟩:=slot c o (I.cne x c e) hc nch ho (I.freeC x c e);exact ⟨_,q,hd⟩
  ·exact ⟨o,keep c o (I.cne x c e) hc nch ho (I.freeC x c e),hd⟩
 refine ⟨I.ok,I.os,hg,⟨fun b o e n hb hx=>?_,fun b o e n hb hx=>?_,fun b o e n hx=>?_,fun b o e hx=>?_,fun b xs e=>tups b xs (I.base.tups b xs e),fun b o xs e=>frzs b o xs (I.base.frzs b o xs e),fun b ps e=>?_⟩,?_,fun x c e=>?_,?_,fun x c e=>?_,fun p hp=>?_,hok,I.len⟩
 ·exact keep b o (neL b o e) hb (neC b o e hx) (I.base.keep b o e n hb hx) (I.base.free b o e n hx)
 ·obtain ⟨sl,e1⟩:=I.base.slot b o e n hb hx;obtain ⟨sl',e2⟩:=slot b _ (neL b o e) hb (neC b o e hx) e1 (I.base.free b o e n hx);exact ⟨sl',e2⟩
 ·obtain ⟨o',e1⟩:=I.base.there b o e hx;exact free b o' (neC b o e hx) e1 (I.base.free b o e n hx)
 ·obtain ⟨o',e1⟩:=I.base.there b o e hx;exact there b o' (neC b o e hx) e1
 ·obtain ⟨m1,e1⟩:=I.base.tbls b ps e;obtain ⟨m2,e2⟩:=tbls b _ e1;exact ⟨m1++m2,by rw [e2,Array.append_assoc]⟩
 ·obtain ⟨m,hn,hl⟩:=I.loc;refine ⟨m,ns m hn,fun i x v e1 e2 e3=>?_⟩;obtain ⟨u,r,l⟩:=hl i x v e1 e2 e3;refine ⟨u,r,?_⟩
  rcases l with l | ⟨k,c,e,z⟩
  ·exact .inl l
  ·exact .inr ⟨k,c,e,cellK x c e _ z⟩
 ·obtain ⟨v,z⟩:=I.cell x c e;exact ⟨v,cellK x c e v z⟩
 ·obtain ⟨m,⟨o,_,_,ho,_⟩,_⟩:=I.loc;exact free _ o (fun z=>(hch _ z).2.1 rfl) ho I.free
 ·obtain ⟨v,o,ho,hd⟩:=I.cell x c e;exact free c o (fun z=>(hch c z).2.2.1 x c e rfl) ho (I.freeC x c e)
 ·obtain ⟨e,n,ne,nf,d⟩:=I.pin p hp;have nch:p.1 ∉ ch:=fun z=>(hch p.1 z).2.2.2 p hp rfl
  exact ⟨keep p.1 p.2 ne nf nch e n,free p.1 p.2 nch e n,ne,nf,d⟩
def Inv.un(I:Inv X pins σ H s)(u:Un X.fs [] H H' s.heap h')(hok:HOk X.prog X.w H' h'):Inv X pins σ H' { s with heap:=h',toks:=t' }:=by
 obtain ⟨m,⟨o,es,ep,ho,r⟩,_⟩:=id I.loc;obtain ⟨sl,hL⟩:=u.any ho I.free (by simp)
 exact I.step (g':=s.gens) (d':=s.drawn) (ch:=[]) (fun _ z=>nomatch z) (fun b o _ hb _ e n=>u.keep b o e n hb (by simp)) (fun b o _ hb _ e n=>u.slot b o e n hb (by simp)) (fun b o _ e n=>u.free b o e n (by simp)) (fun b o _ e=>u.there b o e (by simp)) u.tups u.frzs u.tbls (fun m' hm=>by
  obtain ⟨o',es',ep',ho',r'⟩:=hm;rw [ho] at ho';cases ho'
  exact ⟨_,es',ep',hL,r'⟩) hok I.bare
def Inv.call(I:Inv X pins σ H s)(u:Un (frs X.stack) ch H H' s.heap h')(hok:HOk X.prog X.w H' h')(hg:AllBare g')
  (hch:∀b∈ch,(b∈X.ex\/X.s₀.heap.objs.size<=b)/\b≠X.env.locals/\(∀x c,X.env.cells.lookup x=some c->c≠b)/\∀p∈X.pn++pins,p.1≠b) :
  Inv X pins σ H' { s with heap:=h',gens:=g',drawn:=d',toks:=t' }:=by
 obtain ⟨m,⟨o,es,ep,ho,r⟩,_⟩:=id I.loc;obtain ⟨sl,hL⟩:=u.any ho I.free fun z=>(hch _ z).2.1 rfl
 exact I.step (ch:=ch) hch (fun b o hL hb hc e n=>u.keep b o e n (fun z=>(yao.mp (I.stkSub b z)).elim hL hb) hc) (fun b o _ _ hc e n=>u.any e n hc) (fun b o hc e n=>u.free b o e n hc) (fun b o hc e=>u.there b o e hc) u.tups u.frzs u.tbls (fun m' hm=>by
  obtain ⟨o',es',ep',ho',r'⟩:=hm;rw [ho] at ho';cases ho'
  exact ⟨_,es',ep',hL,r'⟩) hok hg
def Inv.turned(I:Inv X pins σ H s)(k:∀b o,b≠it->s.heap.get? b=some o->h'.get? b=some o)(hn:H it=none)(hL:it≠X.env.locals)
  (h1:it∈X.ex\/X.s₀.heap.objs.size<=it) (h2:∀x c,X.env.cells.lookup x=some c->c≠it) (h3:∀p∈X.pn++pins,p.1≠it):Inv X pins σ H { s with heap:=h',toks:=t' }:=by
 have nit:∀b u,H b=some u->b≠it:=fun b u e z=>by rw [z,hn] at e;cases e
 refine I.step (g':=s.gens) (d':=s.drawn) (ch:=[it]) (fun b hb=>?_) (fun b o _ _ hc e _=>k b o (fun z=>hc (by simp [z])) e) (fun b o _ _ hc e _=>⟨o.slots,k b o (fun z=>hc (by simp [z])) e⟩) (fun _ _ _ _ n=>n)
  (fun b o hc e=>⟨o,k b o (fun z=>hc (by simp [z])) e⟩) (fun _ _ e=>e) (fun _ _ _ e=>e) (fun b ps e=>⟨#[],by rw [e];simp⟩) (fun m hm=>?_) (fun b u e=>?_) I.bare
 ·have e:b=it:=by simpa using hb
  subst e;exact ⟨h1,hL,h2,h3⟩
 ·obtain ⟨o,es,ep,ho,r⟩:=hm;exact ⟨o,es,ep,k _ o (Ne.symm hL) ho,r⟩
 ·refine (I.hok b u e).stay (fun c v hc q=>k c v ?_ q) (fun _ q=>q) fun _ _ q=>q
  rcases hc with z | z
  ·rw [z];exact nit b u e
  ·exact nit c _ z
def Inv.tok(I:Inv X pins σ H s)(t:Nat):Inv X pins σ H { s with toks:=t }:=I.un (h':=s.heap) (t':=t) Un.refl I.hok
theorem Inv.kept(I:Inv X pins σ H s)(k:∀b u,s.heap.get? b=some u->h'.get? b=some u):Inv X pins σ H { s with heap:=h',toks:=t' }:=I.un (Un.kept k) (I.hok.kept k)
theorem Inv.laid(I:Inv X pins σ H s)(k:∀b u,s.heap.get? b=some u->h'.get? b=some u)(hp:s.heap.objs.size<=a)(new:zaG X.prog X.w (upd H a o) h' a o) :
  Inv X pins σ (upd H a o) { s with heap:=h',toks:=t' }:=I.un (Un.laid k hp (I.hok.fresh hp)) (I.hok.laid k hp new)
theorem Inv.write(I:Inv X pins σ H s)(mu:Mut (H x))(he:e=x\/H e=some (.own x))(k:∀b u,b≠e->s.heap.get? b=some u->h'.get? b=some u)(heo:∃u,h'.get? e=some u)
  (new:zaG X.prog X.w (upd H x o) h' x o):Inv X pins σ (upd H x o) { s with heap:=h',toks:=t' }:=I.un (Un.write mu he k heo) (I.hok.write mu he k heo new)
def Inv.pins_of(I:Inv X pins σ H s)(h:∀p∈pins',s.heap.get? p.1=some p.2/\H p.1=none/\p.1≠X.env.locals/\p.1 ∉ X.fs/\∀v,p.2.data≠.cell v):Inv X pins' σ H s :=
 ⟨I.ok,I.os,I.bare,I.base,I.loc,I.cell,I.free,I.freeC,fun p hp=>(yaR.mp hp).elim (fun z=>I.pin p (ycq _ z)) (h p),I.hok,I.len⟩
def zeU{N:List Str}(hN:N.Nodup){i j:Nat}{x:Str}(a:N[i]?=some x)(b:N[j]?=some x):i=j:=by
 obtain ⟨h1,e1⟩:=yam.mp a;obtain ⟨h2,e2⟩:=yam.mp b;exact (List.getElem_inj hN).mp (e1.trans e2.symm)
def zfs{M:Model}{A:Around}{E:Z5}{i:Nat}{x:Str}{v:V}{u:Value}{Q:Unit->Shared->Prop}(I:Inv X pins σ H s)(hN:X.N.Nodup)(hi:X.N[i]?=some x)(hx:Loc X.env.scope x)(r:zaI v u)
  (h:∀s',Inv X pins (σ.set i (some v)) H s'->(∃a,Heap.SameBut a s.heap s'.heap/\(a=X.env.locals\/X.env.cells.lookup x=some a))->Q () s') (hf:X.fn x=true\/X.env.scope.names.lookup x=some .local):wpAny M A (storeName X.env x u) Q E s:=by
 obtain ⟨m,hn,hl⟩:=id I.loc
 have hcls:(X.env.scope.kind == .class||(X.env.scope.kind == .module&&X.env.locals != X.env.globals))=false:=by rw [I.ok.kind];rfl
 have hiσ:i<σ.length:=by rw [I.len];exact (yam.mp hi).1
 have cne:=I.cne
 have tracked:∀{a:Addr} {h':Heap},(∃o,s.heap.get? a=some o/\H a=none)->Heap.SameBut a s.heap h'->HOk X.prog X.w H h':=fun {a h'} ha hs b ob e=>by
  obtain ⟨_,_,hfree⟩:=ha;refine (I.hok b ob e).stay (fun c w' hc q=>(hs.2 c ?_).trans q) (fun _ q=>q) fun _ _ q=>q
  rintro rfl
  rcases hc with rfl | hc
  ·rw [hfree] at e;cases e
  ·rw [hfree] at hc;cases hc
 rcases hx with hk | hk
 ·refine wpAny_storeName_local hk hn (fun h' hn' hs=>?_) hcls;obtain ⟨oL,_,_,hoL,_⟩:=id hn;refine h _ ⟨I.ok,I.os,I.bare,⟨fun b o e n hb hx=>?_,fun b o e n hb hx=>?_,I.base.free,fun b o e hx=>?_,I.base.tups,I.base.frzs,I.base.tbls⟩,⟨_,hn',fun j y v' e1 e2 e3=>?_⟩,fun y c e=>?_,I.free,I.freeC,fun p hp=>?_,tracked ⟨oL,hoL,I.free⟩ hs,by simpa using I.len⟩ ⟨_,hs,.inl rfl⟩
  ·exact (hs.2 b (yau (yal (yap e) I.ok.above))).trans (I.base.keep b o e n hb hx)
  ·obtain ⟨sl,e1⟩:=I.base.slot b o e n hb hx;exact ⟨sl,(hs.2 b (yau (yal (yap e) I.ok.above))).trans e1⟩
  ·obtain ⟨o',e1⟩:=I.base.there b o e hx;exact ⟨o',(hs.2 b (yau (yal (yap e) I.ok.above))).trans e1⟩
  ·by_cases hj:j=i
   ·subst hj;rw [hi] at e1;cases e1;rw [yay hiσ] at e2;cases e2;exact ⟨u,r,.inl ⟨hk,by simp⟩⟩
   ·rw [yaN (Ne.symm hj)] at e2;obtain ⟨u',r',q⟩:=hl j y v' e1 e2 e3;refine ⟨u',r',?_⟩
    rcases q with ⟨k,e⟩ | ⟨k,c,e,z⟩
    ·refine .inl ⟨k,?_⟩;have:y≠x:=fun e=>hj (zeU hN e1 (e ▸ hi))
     simp [this,e]
    ·exact .inr ⟨k,c,e,z.sameBut hs (cne y c e)⟩
  ·obtain ⟨w',z⟩:=I.cell y c e;exact ⟨w',z.sameBut hs (cne y c e)⟩
  ·obtain ⟨e,n,ne,nf,d⟩:=I.pin p hp;exact ⟨(hs.2 p.1 ne).trans e,n,ne,nf,d⟩
 ·have hfn:X.fn x=true:=by
   rcases hf with z | z
   ·exact z
   ·rw [z] at hk;cases hk
  obtain ⟨c,hc⟩:=I.ok.has x (.inl hk);obtain ⟨w',z⟩:=I.cell x c hc;refine wpAny_storeName_cell I.ok.kind hk hc z (fun h' hc' hs=>?_);obtain ⟨oc,hoc,hocd⟩:=id z;refine h { s with heap:=h' } ⟨I.ok,I.os,I.bare,⟨fun b o e n hb hx=>?_,fun b o e n hb hx=>?_,I.base.free,fun b o e hx=>?_,I.base.tups,I.base.frzs,I.base.tbls⟩,⟨m,hn.sameBut hs (Ne.symm (cne x c hc)),fun j y v' e1 e2 e3=>?_⟩,fun y c' e=>?_,I.free,I.freeC,fun p hp=>?_,tracked ⟨oc,hoc,I.freeC x c hc⟩ hs,by simpa using I.len⟩ ⟨c,hs,.inr hc⟩
  ·exact (hs.2 b (yau (yal (yap e) (I.ok.cab x c hfn hc)))).trans (I.base.keep b o e n hb hx)
  ·obtain ⟨sl,e1⟩:=I.base.slot b o e n hb hx;exact ⟨sl,(hs.2 b (yau (yal (yap e) (I.ok.cab x c hfn hc)))).trans e1⟩
  ·obtain ⟨o',e1⟩:=I.base.there b o e hx;exact ⟨o',(hs.2 b (yau (yal (yap e) (I.ok.cab x c hfn hc)))).trans e1⟩
  ·by_cases hj:j=i
   ·subst hj;rw [hi] at e1;cases e1;rw [yay hiσ] at e2;cases e2;exact ⟨u,r,.inr ⟨.inl hk,c,hc,hc'⟩⟩
   ·rw [yaN (Ne.symm hj)] at e2;obtain ⟨u',r',q⟩:=hl j y v' e1 e2 e3;refine ⟨u',r',?_⟩
    rcases q with q | ⟨k,c',e,z'⟩
    ·exact .inl q
    ·refine .inr ⟨k,c',e,z'.sameBut hs ?_⟩;rintro rfl;exact hj (zeU hN e1 (I.ok.inj _ _ _ e hc ▸ hi))
  ·by_cases hcc:c'=c
   ·subst hcc;exact ⟨_,hc'⟩
   ·obtain ⟨w2,z2⟩:=I.cell y c' e;exact ⟨w2,z2.sameBut hs hcc⟩
  ·obtain ⟨e,n,ne,nf,d⟩:=I.pin p hp;refine ⟨(hs.2 p.1 ?_).trans e,n,ne,nf,d⟩;intro q;rw [q,hoc] at e;have q':oc=p.2:=Option.some.inj e;exact d w' (by rw [<-q'];exact hocd)
def zcr{M:Model}{A:Around}{E:Z5}{i:Nat}{x:Str}{v:V}{u:Value}{Q:Unit->Shared->Prop}(I:Inv X pins σ H s)(hN:X.N.Nodup)(hi:X.N[i]?=some x)(hx:Loc X.env.scope x)(r:zaI v u)
  (h:∀s',Inv X pins (σ.set i (some v)) H s'->Q () s') (hf:X.fn x=true\/X.env.scope.names.lookup x=some .local):wpAny M A (storeName X.env x u) Q E s :=
 zfs I hN hi hx r (fun s' I' _=>h s' I') hf
def Inv.call'(I:Inv X pins σ H s)(ho:s'.os=s.os)(u:Un (frs X.stack) ch H H' s.heap s'.heap)(hok:HOk X.prog X.w H' s'.heap)(hg:AllBare s'.gens)
  (hch:∀b∈ch,(b∈X.ex\/X.s₀.heap.objs.size<=b)/\b≠X.env.locals/\(∀x c,X.env.cells.lookup x=some c->c≠b)/\∀p∈X.pn++pins,p.1≠b):Inv X pins σ H' s':=by
 obtain ⟨h',g',d',t',o'⟩:=s';have e:o'=s.os:=ho;subst e;exact I.call (g':=g') (t':=t') (d':=d') u hok hg hch
end
noncomputable abbrev XK:=Value->Option Addr->Hp->Prop
noncomputable abbrev St:=List (Option V)
noncomputable abbrev VK:=V->Hp->Prop
noncomputable abbrev TE:=St->Hp->VK->Prop
noncomputable abbrev TT:=St->Hp->(Bool->Hp->Prop)->Prop
noncomputable abbrev TA:=St->Hp->(List V->Hp->Prop)->Prop
structure Ends where
 nx:St->Hp->Prop
 rt:VK
 bk:St->Hp->Prop:=fun _ _=>False
 ct:St->Hp->Prop:=fun _ _=>False
noncomputable abbrev TS:=Ends->St->Hp->Prop
noncomputable def EP(X:Cx)(pins:Z3)(σ:St)(Q:VK)(u:Value)(s':Shared):Prop:=∃v H',Inv X pins σ H' s'/\zaI v u/\Q v H'
noncomputable def TP(X:Cx)(pins:Z3)(σ:St)(Q:Bool->Hp->Prop)(b:Bool)(s':Shared):Prop:=∃H',Inv X pins σ H' s'/\Q b H'
noncomputable def AP(X:Cx)(pins:Z3)(σ:St)(Q:List V->Hp->Prop)(us:List Value)(s':Shared):Prop:=∃vs H',Inv X pins σ H' s'/\Vals vs us/\Q vs H'
noncomputable def SP(X:Cx)(pins:Z3)(D:Ends)(f:Flow)(s':Shared):Prop :=
 match f with
 | .next=>∃σ' H',Inv X pins σ' H' s'/\D.nx σ' H'
 | .brk=>∃σ' H',Inv X pins σ' H' s'/\D.bk σ' H'
 | .cont=>∃σ' H',Inv X pins σ' H' s'/\D.ct σ' H'
 | .ret u=>∃v σ' H',Inv X pins σ' H' s'/\zaI v u/\D.rt v H'
noncomputable def PE(X:Cx)(e:Expr)(t:TE):Prop :=
 ∀(pins:Z3) (s:Shared) (σ:St) (H:Hp) (Q:VK),Inv X pins σ H s->t σ H Q->wpAny (model X.prog X.w) X.A (eval e X.env) (EP X pins σ Q) X.xe s
noncomputable def PT(X:Cx)(e:Expr)(t:TT):Prop :=
 ∀(pins:Z3) (s:Shared) (σ:St) (H:Hp) (Q:Bool->Hp->Prop),Inv X pins σ H s->t σ H Q->wpAny (model X.prog X.w) X.A (isTrue e X.env (eval e X.env)) (TP X pins σ Q) X.xe s
noncomputable def PW(X:Cx)(e:Expr)(t:TT):Prop :=
 ∀(whole:Sem Value) (pins:Z3) (s:Shared) (σ:St) (H:Hp) (Q:Bool->Hp->Prop),Inv X pins σ H s->t σ H Q->wpAny (model X.prog X.w) X.A (isTrue e X.env whole) (TP X pins σ Q) X.xe s
def PW.pt(h:PW X e t):PT X e t:=h _
noncomputable def PA(X:Cx)(es:List Expr)(t:TA):Prop :=
 ∀(pos:Pos) (pins:Z3) (s:Shared) (σ:St) (H:Hp) (Q:List V->Hp->Prop),Inv X pins σ H s->t σ H Q->wpAny (model X.prog X.w) X.A (spliced (backTo pos (starEach es X.env))) (AP X pins σ Q) X.xe s
noncomputable def PS(X:Cx)(st:Stmt)(t:TS):Prop :=
 ∀(pins:Z3) (s:Shared) (σ:St) (H:Hp) (D:Ends),Inv X pins σ H s->t D σ H->wpAny (model X.prog X.w) X.A (exec st X.env) (SP X pins D) X.xe s
noncomputable def PSs(X:Cx)(st:List Stmt)(t:TS):Prop :=
 ∀(pins:Z3) (s:Shared) (σ:St) (H:Hp) (D:Ends),Inv X pins σ H s->t D σ H->wpAny (model X.prog X.w) X.A (execs st X.env) (SP X pins D) X.xe s
def thn{α:Type}{t:Sem α}{Q Q':α->Shared->Prop}(h:wpAny M A t Q E s)(hQ:∀a s,Q a s->Q' a s):wpAny M A t Q' E s:=ybk h hQ fun _ _ x=>x
section
variable{X:Cx}
noncomputable def zuq(i:Nat):TE:=fun σ H Q=>∃v,σ[i]?=some (some v)/\Q v H
noncomputable def tC(v:V):TE:=fun _ H Q=>Q v H
def zdo{i:Nat}{x:Str}{pos:Pos}(hN:X.N[i]?=some x)(hv:Vis X.env.scope x)(hd:(x == ("__debug__":Str))=false:=by decide)(hcd:(x == ("__classdict__":Str))=false:=by decide):PE X (.Name x pos) (zuq i):=by
 intro pins s σ H Q I h;obtain ⟨v,e,h⟩:=h;obtain ⟨m,hn,hl⟩:=I.loc;obtain ⟨u,r,l⟩:=hl i x v hN e hv;have fin:EP X pins σ Q u s:=⟨v,H,I,r,h⟩
 rcases l with ⟨hk,hm⟩ | ⟨hk,c,hc,hcell⟩
 ·exact wpAny_Name (wpAny_loadName_local I.ok.kind hk hn hm fin) hd
 ·rcases hk with hk | hk
  ·exact wpAny_Name (wpAny_loadName_cell I.ok.kind hk hc hcell fin) hd
  ·exact wpAny_Name (wpAny_loadName_free I.ok.kind hk hc hcell fin hcd) hd
def zqp{i j pos}:PE X (.Constant (.int i) j pos) (tC (.int i)):=fun _ _ _ H _ I h=>wpAny_Constant_int ⟨.int i,H,I.tok _,⟨_,rfl⟩,h⟩
def zs3{b j pos}:PE X (.Constant (.bool b) j pos) (tC (.bl b)):=fun _ _ _ H _ I h=>Constant_bool ⟨.bl b,H,I,rfl,h⟩
def zqn{j pos}:PE X (.Constant .none j pos) (tC .non):=fun _ _ _ H _ I h=>Constant_none ⟨.non,H,I,rfl,h⟩
def zqj{x j pos}:PE X (.Constant (.str x) j pos) (tC (.str x)):=fun _ _ _ H _ I h=>Calls.Constant_str ⟨.str x,H,I.tok _,⟨_,rfl⟩,h⟩
noncomputable def Gl(X:Cx)(x:Str):Prop:=X.env.kindOf x=some .globalImplicit
def zdW{E:Z5}{pins:Z3}{s:Shared}{σ:St}{H:Hp}{x:Str}{u:Value}{pos:Pos}{Q:Z5}(I:Inv X pins σ H s)(hg:Gl X x)(hm:X.mg x=some u)(h:Q u s)
  (hd:(x == ("__debug__":Str))=false:=by decide):wpAny (model X.prog X.w) X.A (eval (.Name x pos) X.env) Q E s :=
 Calls.Name_function_global I.ok.kind hg (Calls.loadGlobal_global (by rw [I.ok.glob];exact I.mod.glob.keeps I.bk) hm h) hd
def zfT{E:Z5}{pins:Z3}{s:Shared}{σ:St}{H:Hp}{x:Str}{u:Value}{pos:Pos}{Q:Z5}(I:Inv X pins σ H s)(hg:Gl X x)(hm:X.mg x=none)(hv:bootBuiltins x=some u)(h:Q u s)
  (hn:x ≠ "__name__":=by decide) (hd:(x == ("__debug__":Str))=false:=by decide):wpAny (model X.prog X.w) X.A (eval (.Name x pos) X.env) Q E s:=by
 obtain ⟨mb,h1,h2⟩:=I.mod.blt;exact Calls.Name_function_global I.ok.kind hg (Calls.loadGlobal_builtin (by rw [I.ok.glob];exact I.mod.glob.keeps I.bk) hm (by rw [I.ok.blt];exact h1.keeps I.bk) ((h2 x hn).trans hv) h) hd
def zgE{x:Str}{v:V}{u:Value}{pos:Pos}(hg:Gl X x)(hm:X.mg x=some u)(r:zaI v u)(hd:(x == ("__debug__":Str))=false:=by decide):PE X (.Name x pos) (tC v) :=
 fun _ _ _ H _ I h=>zdW I hg hm ⟨v,H,I,r,h⟩ hd
def zjh{x:Str}{v:V}{u:Value}{pos:Pos}(hg:Gl X x)(hm:X.mg x=none)(hv:bootBuiltins x=some u)(r:zaI v u)(hn:x ≠ "__name__":=by decide)(hd:(x == ("__debug__":Str))=false:=by decide):PE X (.Name x pos) (tC v) :=
 fun _ _ _ H _ I h=>zfT I hg hm hv ⟨v,H,I,r,h⟩ hn hd
variable{a b:Expr}{ta tb:TE}{pos:Pos}
noncomputable def tB(t:TE):TT:=fun σ H Q=>t σ H fun x H1=>∃c,x=.bl c/\Q c H1
def zp7{e:Expr}{t:TE}(h:PE X e t)(he:∀whole,isTrue e X.env whole=(do let v ← whole;standAt e.pos;holding [v] (truthy v)):=by intro _;rfl):PT X e (tB t):=by
 intro pins s σ H Q I hw;refine isTrue_plain (thn (h pins s σ H _ I hw) fun v s1 ⟨x,H1,I1,r1,q1⟩=>?_) (he _);obtain ⟨d,rfl,q⟩:=q1;cases r1;exact ya7 ⟨H1,I1,q⟩
variable{tA tB':TT}{za0:List Expr}
noncomputable def zut(t u:TT):TT:=fun σ H Q=>t σ H fun c H1=>if c=true then u σ H1 Q else Q false H1
noncomputable def tOr(t u:TT):TT:=fun σ H Q=>t σ H fun c H1=>if c=true then Q true H1 else u σ H1 Q
noncomputable def zus(t:TT):TT:=fun σ H Q=>t σ H fun c H1=>Q (!c) H1
def znz(ha:PT X a tA):PW X (.BoolOp .And [a] pos) tA:=by
 intro wh pins s σ H Q I h;refine isTrue_and (thn (ha pins s σ H Q I h) fun c s1 e=>?_)
 cases c with
 | true=>exact isTrue_and_nil e
 | false=>exact e
def zp4(ha:PT X a tA):PW X (.BoolOp .Or [a] pos) tA:=by
 intro wh pins s σ H Q I h;refine isTrue_or (thn (ha pins s σ H Q I h) fun c s1 e=>?_)
 cases c with
 | false=>exact isTrue_or_nil e
 | true=>exact e
def zp5(ha:PT X a tA)(hb:PW X (.BoolOp .And (b::za0) pos) tB'):PW X (.BoolOp .And (a::b::za0) pos) (zut tA tB'):=by
 intro wh pins s σ H Q I h;refine isTrue_and (thn (ha pins s σ H _ I h) fun c s1 ⟨H1,I1,q1⟩=>?_)
 cases c with
 | true=>exact hb wh pins s1 σ H1 Q I1 q1
 | false=>exact ⟨H1,I1,q1⟩
def zsX(ha:PT X a tA)(hb:PW X (.BoolOp .Or (b::za0) pos) tB'):PW X (.BoolOp .Or (a::b::za0) pos) (tOr tA tB'):=by
 intro wh pins s σ H Q I h;refine isTrue_or (thn (ha pins s σ H _ I h) fun c s1 ⟨H1,I1,q1⟩=>?_)
 cases c with
 | true=>exact ⟨H1,I1,q1⟩
 | false=>exact hb wh pins s1 σ H1 Q I1 q1
def zp8(ha:PT X a tA):PT X (.UnaryOp .Not a pos) (zus tA):=by
 intro pins s σ H Q I h;exact isTrue_not (ha pins s σ H (fun c H1=>Q (!c) H1) I h)
noncomputable def zsF(ta tb:TE):TE:=fun σ H Q=>ta σ H fun x H1=>∃c,x=.bl c/\if c=true then tb σ H1 Q else Q (.bl false) H1
noncomputable def zvS(ta tb:TE):TE:=fun σ H Q=>ta σ H fun x H1=>∃c,x=.bl c/\if c=true then Q (.bl true) H1 else tb σ H1 Q
noncomputable def zsz(ta:TE):TE:=fun σ H Q=>ta σ H fun x H1=>∃c,x=.bl c/\Q (.bl (!c)) H1
def zql{op}(h:PE X a t):PE X (.BoolOp op [a] pos) t:=fun pins s σ H Q I hw=>BoolOp_one (h pins s σ H Q I hw)
def zqq(ha:PE X a ta)(hb:PE X (.BoolOp .And (b::za0) pos) tb):PE X (.BoolOp .And (a::b::za0) pos) (zsF ta tb):=by
 intro pins s σ H Q I h;refine BoolOp_and (thn (ha pins s σ H _ I h) fun v s1 ⟨x,H1,I1,r1,q1⟩=>?_);obtain ⟨c,rfl,q1⟩:=q1;cases r1;refine ya7 ?_
 cases c with
 | true=>exact hb pins s1 σ H1 Q I1 q1
 | false=>exact ⟨.bl false,H1,I1,rfl,q1⟩
def zs1(ha:PE X a ta)(hb:PE X (.BoolOp .Or (b::za0) pos) tb):PE X (.BoolOp .Or (a::b::za0) pos) (zvS ta tb):=by
 intro pins s σ H Q I h;refine BoolOp_or (thn (ha pins s σ H _ I h) fun v s1 ⟨x,H1,I1,r1,q1⟩=>?_);obtain ⟨c,rfl,q1⟩:=q1;cases r1;refine ya7 ?_
 cases c with
 | false=>exact hb pins s1 σ H1 Q I1 q1
 | true=>exact ⟨.bl true,H1,I1,rfl,q1⟩
def zqm(ha:PE X a ta):PE X (.UnaryOp .Not a pos) (zsz ta):=by
 intro pins s σ H Q I h;refine UnaryOp_ (thn (ha pins s σ H _ I h) fun v s1 ⟨x,H1,I1,r1,q1⟩=>?_);obtain ⟨c,rfl,q1⟩:=q1;cases r1;exact not_of (ya7 ⟨.bl (!c),H1,I1,rfl,q1⟩)
noncomputable def tIf(t:TT)(ta tb:TE):TE:=fun σ H Q=>t σ H fun c H1=>if c=true then ta σ H1 Q else tb σ H1 Q
def zlg(hc:PT X c tA)(ha:PE X a ta)(hb:PE X b tb):PE X (.IfExp c a b pos) (tIf tA ta tb):=by
 intro pins s σ H Q I h;refine wpAny_IfExp (thn (hc pins s σ H _ I h) fun d s1 ⟨H1,I1,q1⟩=>?_)
 cases d with
 | true=>exact ha pins s1 σ H1 Q I1 q1
 | false=>exact hb pins s1 σ H1 Q I1 q1
end
noncomputable def SqL(K:PySem.W.Frag)(H:Hp)(a:Addr)(xs:List V):Prop :=
 Rd H a (.lst xs) ∨
  ∃(o:Obj) (its:Array Value) (n:Nat),K.lookup a=some o/\o.cls=.type "list" /\ o.dict=none/\o.data=.seq its n/\its.size<=sizeLine/\Vals xs its.toList
noncomputable def SqT(K:PySem.W.Frag)(H:Hp)(a:Addr)(xs:List V):Prop :=
 Rd H a (.tup xs) ∨
  ∃(o:Obj) (its:Array Value) (n:Nat),K.lookup a=some o/\o.cls=.type "tuple" /\ o.data=.seq its n/\its.size<=sizeLine/\Vals xs its.toList
noncomputable def zwT:Value->Option V
 | .none=>some .non
 | .bool b=>some (.bl b)
 | .int i _=>some (.int i)
 | .str x _=>some (.str x)
 | .bytes b _=>some (.byt b)
 | .float b _=>some (.flt b)
 | .ref a=>some (.ref a)
 | .type n=>some (.ty n)
 | _=>none
def zaI.abs(r:zaI x u):zwT u=some x:=by
 cases x with
 | non=>cases r;rfl
 | bl _=>cases r;rfl
 | int _=>obtain ⟨t,rfl⟩:=r;rfl
 | str _=>obtain ⟨t,rfl⟩:=r;rfl
 | byt _=>obtain ⟨t,rfl⟩:=r;rfl
 | flt _=>obtain ⟨t,rfl⟩:=r;rfl
 | ref _=>cases r;rfl
 | ty _=>cases r;rfl
theorem zaI.inj(r:zaI x u)(q:zaI y u):x=y:=Option.some.inj (r.abs.symm.trans q.abs)
theorem Vals.inj:∀{xs ys:List V} {us:List Value},Vals xs us->Vals ys us->xs=ys
 | _,_,_,.nil,.nil=>rfl
 | _,_,_,.cons r t,.cons r' t'=>by rw [r.inj r',Vals.inj t t']
section
variable{X:Cx}{pins:Z3}{σ:St}{H:Hp}{s:Shared}{a:Addr}{xs ys:List V}
def SqL.of{K:PySem.W.Frag}(h:H a=some (.lst xs)):SqL K H a xs:=.inl (.inl h)
def SqT.of{K:PySem.W.Frag}(h:H a=some (.tup xs)):SqT K H a xs:=.inl (.inl h)
theorem Inv.list(I:Inv X pins σ H s)(h:SqL X.K H a xs):∃its:List Value,Vals xs its/\PlainL s.heap a its.toArray/\xs.length<=sizeLine:=by
 rcases h with h | ⟨o,its,n,hk,hc,hd,hs,hz,r⟩
 ·obtain ⟨z,its,n,r,e⟩:=h.ok I.hok;exact ⟨its,r,⟨_,n,e,rfl,rfl,rfl⟩,z⟩
 ·refine ⟨its.toList,r,⟨o,n,I.kIn a o hk,hc,hd,by simpa using hs⟩,?_⟩;have e:=r.length;simp only [yaM] at e;omega
def Inv.tuple(I:Inv X pins σ H s)(h:SqT X.K H a xs):∃its:List Value,Vals xs its/\IsTup s.heap a its.toArray/\xs.length<=sizeLine:=by
 rcases h with h | ⟨o,its,n,hk,hc,hs,hz,r⟩
 ·obtain ⟨z,its,r,p⟩:=h.ok I.hok;exact ⟨its,r,p.t,z⟩
 ·refine ⟨its.toList,r,⟨o,I.kIn a o hk,hc,n,by simpa using hs⟩,?_⟩;have e:=r.length;simp only [yaM] at e;omega
def Inv.list_inj(I:Inv X pins σ H s)(h:SqL X.K H a xs)(h':SqL X.K H a ys):xs=ys:=by
 obtain ⟨its,r,⟨o,n,e,_,_,d⟩,_⟩:=I.list h;obtain ⟨its',r',⟨o',n',e',_,_,d'⟩,_⟩:=I.list h';rw [e] at e';cases e';rw [d] at d'
 injection d' with d1 _
 have:its=its':=by simpa using congrArg Array.toList d1
 subst this;exact r.inj r'
def Inv.tuple_inj(I:Inv X pins σ H s)(h:SqT X.K H a xs)(h':SqT X.K H a ys):xs=ys:=by
 obtain ⟨its,r,⟨o,e,_,n,d⟩,_⟩:=I.tuple h;obtain ⟨its',r',⟨o',e',_,n',d'⟩,_⟩:=I.tuple h';rw [e] at e';cases e';rw [d] at d'
 injection d' with d1 _
 have:its=its':=by simpa using congrArg Array.toList d1
 subst this;exact r.inj r'
end
section
variable{X:Cx}{st:Stmt}{za0:List Stmt}{t u:TS}{e:Expr}{te:TE}{pos:Pos}
noncomputable def zpj:TS:=fun D σ H=>D.nx σ H
noncomputable def zvQ(t u:TS):TS:=fun D σ H=>t { D with nx:=u D } σ H
def znC:PSs X [] zpj:=fun _ _ σ H _ I h=>ycv ⟨σ,H,I,h⟩
def zk7(h1:PS X st t)(h2:PSs X za0 u):PSs X (st::za0) (zvQ t u):=by
 intro pins s σ H D I h;refine wpAny_execs_cons (thn (h1 pins s σ H { D with nx:=u D } I h) fun f s1 q=>?_)
 cases f with
 | next =>
  obtain ⟨σ',H',I',q⟩:=q;exact h2 pins s1 σ' H' D I' q
 | ret v=>exact q
 | brk=>exact q
 | cont=>exact q
def znB(h1:PS X st t):PSs X [st] t:=by
 intro pins s σ H D I h;refine wpAny_execs_cons (thn (h1 pins s σ H D I h) fun f s1 q=>?_)
 cases f with
 | next=>exact ycv q
 | ret v=>exact q
 | brk=>exact q
 | cont=>exact q
def znF:PS X (.Pass pos) zpj:=fun _ _ σ H _ I h=>wpAny_Pass ⟨σ,H,I,h⟩
def Inv.quiet(I:Inv X pins σ H s):interactive X.env=false:=by simp [interactive,I.ok.kind]
noncomputable def zsD(te:TE):TS:=fun D σ H=>te σ H fun _ H1=>D.nx σ H1
def zgC(he:PE X e te)(hs:swapsWith e none pos.line X.env=pure false:=by rfl):PS X (.Expr e pos) (zsD te):=by
 intro pins s σ H D I h;exact wpAny_Expr_any (thn (he pins s σ H _ I h) fun v s1 ⟨x,H1,I1,r1,q1⟩=>⟨σ,H1,I1,q1⟩) I.quiet hs
noncomputable def zvR(te:TE):TS:=fun D σ H=>te σ H D.rt
def zja(he:PE X e te):PS X (.Return (some e) pos) (zvR te):=by
 intro pins s σ H D I h;exact wpAny_Return_some (thn (he pins s σ H _ I h) fun v s1 ⟨x,H1,I1,r1,q1⟩=>⟨x,σ,H1,I1,r1,q1⟩)
noncomputable def zsy:TS:=fun D _ H=>D.rt .non H
def znE:PS X (.Return none pos) zsy:=fun _ _ σ H _ I h=>wpAny_Return_none ⟨.non,σ,H,I,rfl,h⟩
noncomputable def zvU(c:TT)(t u:TS):TS:=fun D σ H=>c σ H fun b H1=>if b=true then t D σ H1 else u D σ H1
def zsZ(hc:PT X c tc)(ha:PSs X a t)(hb:PSs X b u):PS X (.If c a b pos) (zvU tc t u):=by
 intro pins s σ H D I h;refine wpAny_If (thn (hc pins s σ H _ I h) fun d s1 ⟨H1,I1,q1⟩=>?_)
 cases d with
 | true=>exact ha pins s1 σ H1 D I1 q1
 | false=>exact hb pins s1 σ H1 D I1 q1
end
noncomputable abbrev TG:=V->St->Hp->(St->Hp->Prop)->Prop
noncomputable abbrev TGs:=List V->St->Hp->(St->Hp->Prop)->Prop
noncomputable def PG(X:Cx)(target:Expr)(t:TG):Prop :=
 ∀(pins:Z3) (s:Shared) (σ:St) (H:Hp) (v:V) (u:Value) (Q:St->Hp->Prop),Inv X pins σ H s->zaI v u->t v σ H Q →
  wpAny (model X.prog X.w) X.A (assign target X.env u) (fun _ s'=>∃σ' H',Inv X pins σ' H' s'/\Q σ' H') X.xe s
noncomputable def PGs(X:Cx)(ts:List Expr)(t:TGs):Prop :=
 ∀(pins:Z3) (s:Shared) (σ:St) (H:Hp) (vs:List V) (us:List Value) (Q:St->Hp->Prop),Inv X pins σ H s->Vals vs us->t vs σ H Q →
  wpAny (model X.prog X.w) X.A (assignInOrder ((assignEach ts X.env).map (·.2)) us) (fun _ s'=>∃σ' H',Inv X pins σ' H' s'/\Q σ' H') X.xe s
noncomputable abbrev TSet:=V->V->V->Hp->(Hp->Prop)->Prop
noncomputable def zvl(X:Cx)(t:TSet):Prop :=
 ∀(pins:Z3) (s:Shared) (σ:St) (H:Hp) (o i v:V) (ov iv u:Value) (Q:Hp->Prop),Inv X pins σ H s->zaI o ov->zaI i iv->zaI v u->t o i v H Q →
  wpAny (model X.prog X.w) X.A (setItem ov iv u) (fun _ s'=>∃H',Inv X pins σ H' s'/\Q H') X.xe s
section
variable{X:Cx}{pos:Pos}
noncomputable def zii(i:Nat):TG:=fun v σ H Q=>Q (σ.set i (some v)) H
def zjf{i:Nat}{x:Str}(hN:X.N.Nodup)(hi:X.N[i]?=some x)(hx:Loc X.env.scope x)(hf:X.fn x=true\/X.env.scope.names.lookup x=some .local):PG X (.Name x pos) (zii i):=by
 intro pins s σ H v u Q I r h;exact wpAny_assign_Name (zcr I hN hi hx r (fun s' I'=>⟨_,H,I',h⟩) hf)
noncomputable def zwM:TGs:=fun vs σ H Q=>vs=[]/\Q σ H
noncomputable def zty(t:TG)(u:TGs):TGs:=fun vs σ H Q=>∃v r,vs=v::r/\t v σ H fun σ' H'=>u r σ' H' Q
def znP:PGs X [] zwM:=by
 intro pins s σ H vs us Q I r h;obtain ⟨e,h⟩:=h;subst e;cases r;exact assignInOrder_nil ⟨σ,H,I,h⟩
def zle{e:Expr}{es:List Expr}{t:TG}{u:TGs}(h1:PG X e t)(h2:PGs X es u)
  (hs:(assignEach (e::es) X.env).map (·.2)=assign e X.env::(assignEach es X.env).map (·.2):=by rfl):PGs X (e::es) (zty t u):=by
 intro pins s σ H vs us Q I r h;obtain ⟨v,vr,e1,h⟩:=h;subst e1
 cases r with
 | cons r rr =>
  rw [hs];refine ycD (thn (h1 pins s σ H _ _ _ I r h) fun _ s1 ⟨σ1,H1,I1,q1⟩=>?_);exact h2 pins s1 σ1 H1 _ _ Q I1 rr q1
noncomputable def zwK(K:PySem.W.Frag)(n:Nat)(t:TGs):TG:=fun v σ H Q=>∃a xs,v=.ref a/\SqT K H a xs/\xs.length=n/\t xs σ H Q
def zqg{es:List Expr}{k:Nat}{t:TGs}{n:Nat}(hc:X.calm=true)(h:PGs X es t)
  (hn:(assignEach es X.env).length=n:=by rfl) (hst:(assignEach es X.env).findIdx? (·.1)=none:=by rfl):PG X (.Tuple es k pos) (zwK X.K n t):=by
 intro pins s σ H v u Q I r hw;obtain ⟨a,xs,e1,hq,hl,hw⟩:=hw;subst e1;cases r;obtain ⟨its,rv,ht,hz⟩:=I.tuple hq;refine assign_Tuple_tuple (I.ok.hd hc) ht (by simp [hn,<-hl,rv.length]) hst fun h' hx=>?_
 have I1:Inv X pins σ H { s with heap:=h' }:=I.kept (t':=s.toks) fun b o e=>hx b o (yau (yap e)) e
 exact h pins _ σ H xs _ Q I1 (by simpa using rv) hw
noncomputable def zwL(to ti:TE)(t:TSet):TG:=fun v σ H Q=>to σ H fun o H1=>ti σ H1 fun i H2=>t o i v H2 fun H3=>Q σ H3
def zqh{o i:Expr}{to ti:TE}{t:TSet}(ho:PE X o to)(hi:PE X i ti)(hs:zvl X t)
  (ha:∀v,assign (.Subscript o i pos) X.env v=(do
   let ov ← holding [v] (eval o X.env)
   let iv ← holding [v,ov] (eval i X.env)
   standAt pos
   holding [v,ov,iv] (setItem ov iv v)
   release [v,ov,iv] []):=by intro _;rfl):PG X (.Subscript o i pos) (zwL to ti t):=by
 intro pins s σ H v u Q I r h;rw [ha];refine yaa (yba (thn (ho pins s σ H _ I h) fun ov s1 ⟨x,H1,I1,r1,q1⟩=>?_));refine yaa (yba (thn (hi pins s1 σ H1 _ I1 q1) fun iv s2 ⟨y,H2,I2,r2,q2⟩=>?_));refine yaa (ycP (yaa (yba (thn (hs pins s2 σ H2 x y v ov iv u _ I2 r1 r2 r q2) fun _ s3 ⟨H3,I3,q3⟩=>?_))));exact wpAny_release ⟨σ,H3,I3,q3⟩
noncomputable def zna(te:TE)(g:TG):TS:=fun D σ H=>te σ H fun x H1=>g x σ H1 D.nx
def zmt{tg e:Expr}{te:TE}{g:TG}(he:PE X e te)(hg:PG X tg g)(hs:swapsWithSole [tg] e pos.line X.env=pure false:=by rfl)(hw:swappedStores [tg] e X.env=pure none:=by rfl)
  (h1:(assignEach [tg] X.env).map (·.2)=[assign tg X.env]:=by rfl):PS X (.Assign [tg] e pos) (zna te g):=by
 intro pins s σ H D I h;refine wpAny_Assign_stores (thn (he pins s σ H _ I h) fun v s1 ⟨x,H1,I1,r1,q1⟩=>?_) hs hw;rw [h1];exact thn (hg pins s1 σ H1 x v _ I1 r1 q1) fun _ s2 q=>q
def zi9{i:Nat}{x:Str}{e:Expr}{te:TE}{pos':Pos}(hN:X.N.Nodup)(hi:X.N[i]?=some x)(hx:Loc X.env.scope x)(he:PE X e te)(hs:swapsWith e (some (.Name x pos')) pos.line X.env=pure false:=by rfl)(hf:X.fn x=true\/X.env.scope.names.lookup x=some .local) :
  PS X (.Assign [.Name x pos'] e pos) (zna te (zii i)):=by
 intro pins s σ H D I h;refine wpAny_Assign_Name (thn (he pins s σ H _ I h) fun v s1 ⟨y,H1,I1,r1,q1⟩=>?_) hs;exact zcr I1 hN hi hx r1 (fun s2 I2=>⟨_,H1,I2,q1⟩) hf
noncomputable def zur(i j:Nat)(ta:TA):TS:=fun D σ H=>ta σ H fun vs H1=>∃v w,vs=[v,w]/\D.nx ((σ.set i (some v)).set j (some w)) H1
def zp9{i j:Nat}{x y:Str}{a b:Expr}{ta:TA}{px py pt:Pos}{kt k2 pt2}(hc:X.calm=true)(hN:X.N.Nodup)(hi:X.N[i]?=some x)(hj:X.N[j]?=some y)(hij:i≠j)
  (hx:X.env.scope.names.lookup x=some .local) (hy:X.env.scope.names.lookup y=some .local) (ha:PA X [a,b] ta)
  (hw:swappedStores [.Tuple [.Name x px,.Name y py] kt pt] (.Tuple [a,b] k2 pt2) X.env=pure (some [x,y]))
  (hs:swapsWithSole [.Tuple [.Name x px,.Name y py] kt pt] (.Tuple [a,b] k2 pt2) pos.line X.env=pure false:=by rfl) :
  PS X (.Assign [.Tuple [.Name x px,.Name y py] kt pt] (.Tuple [a,b] k2 pt2) pos) (zur i j ta):=by
 intro pins s σ H D I h;rw [exec_Assign_arm];refine yaa (ycP ?_);rw [hs];refine yaa (yaf ?_);rw [if_neg (by decide)];refine yaa (Tuple_ (thn (ha _ pins s σ H _ I h) fun us s1 ⟨vs,H1,I1,r1,q1⟩=>?_));obtain ⟨v,w,e1,q1⟩:=q1;subst e1
 obtain ⟨u1,u2,rfl,rv,rw'⟩:∃u1 u2,us=[u1,u2]/\zaI v u1/\zaI w u2:=by
  cases r1 with
  | cons p q =>
   cases q with
   | cons p' q' =>
    cases q';exact ⟨_,_,rfl,p,p'⟩
 refine ybf ?_ (by show 2<=sizeLine;decide);have I2:Inv X pins σ H1 { s1 with heap:=s1.heap.push { cls:=.type "tuple",data:=.seq [u1,u2].toArray } }:=I1.kept (t':=s1.toks) fun b o e=>yae _ e
 rw [hw];refine yaa (yaf ?_);show wpAny (model X.prog X.w) X.A (do rule "assign.swapped-stores";let items ← unpackItems (.ref s1.heap.objs.size) 2 none;assignInOrder [fun v=>bindName X.env y v,fun v=>bindName X.env x v] items.reverse;pure Flow.next) _ _ _;refine yaa (ycV (yaa (unpackItems_tuple (items:=#[u1,u2]) (I.ok.hd hc) (IsTup.new s1.heap _) fun h' hx'=>?_)));have I3:=I2.kept (h':=h') (t':=s1.toks) fun b o e=>hx' b o (yau (yap e)) e
 show wpAny _ _ (assignInOrder [fun v=>bindName X.env y v,fun v=>bindName X.env x v] [u2,u1] >>= fun _=>pure Flow.next) _ _ _;refine yaa (ycD (wpAny_bindName (zcr I3 hN hj (.inl hy) rw' (fun s2 I4=>?_) (.inr hy))));refine ycD (wpAny_bindName (zcr I4 hN hi (.inl hx) rv (fun s3 I5=>assignInOrder_nil (yaf ?_)) (.inr hx)));rw [List.set_comm _ _ (Ne.symm hij)] at I5;exact ⟨_,H1,I5,q1⟩
end
structure It where
 go:Nat->Hp->Prop
 yld:Nat->Hp->V->Hp->Prop
 stop:Nat->Hp->Prop
noncomputable def zkz(X:Cx)(pins:Z3)(H:Hp)(b:Addr):Prop :=
 H b=none/\b≠X.env.locals/\b ∉ X.fs/\(b∈X.ex\/X.s₀.heap.objs.size<=b)/\(∀x c,X.env.cells.lookup x=some c->c≠b)/\∀p∈X.pn++pins,p.1≠b
def Inv.fpOk(I:Inv X pins σ H s)(hb:s.heap.objs.size<=b)(hn:H' b=none):zkz X pins H' b:=by
 refine ⟨hn,yaX (yal I.lt hb),I.nofs hb,.inr (yaw I.sz hb),fun x c e z=>?_,fun p hp z=>?_⟩
 ·obtain ⟨v,q⟩:=I.cell x c e;exact absurd (yal q.lt (by rw [z];exact hb)) (ya9 _)
 ·exact absurd (yal (yap (I.pin p hp).1) (by rw [z];exact hb)) (ya9 _)
structure Turn(P:Program)(w:World)(K:PySem.W.Frag)(tg:Expr)(J:It)(fp:List Addr)(it:Addr)(tn:Nat->Heap->Prop):Prop where
 mem:it∈fp
 obj:∀i h,tn i h->∀b∈fp,∃o,h.get? b=some o/\∀v,o.data≠.cell v
 keep:∀i h h',tn i h->(∀b∈fp,∀o,h.get? b=some o->h'.get? b=some o)->tn i h'
 item:∀(X:Cx),X.prog=P->X.w=w->X.K=K->X.calm=true->∀(i:Nat) (pins:Z3) (s:Shared) (σ:St) (H:Hp) (E:Z5),Inv X pins σ H s->(∀b∈fp,zkz X pins H b)->tn i s.heap->J.go i H →
  wpAny (model P w) X.A (pyNext (.ref it)) (fun r s1=>∃u,r=some u ∧
   wpAny (model P w) X.A (letOwnedTupleGo tg (.ref it) u) (fun _ s2=>∃x H',Inv X pins σ H' s2/\zaI x u/\J.yld i H x H'/\tn (i+1) s2.heap/\∀b∈fp,H' b=none) E s1) E s
 done:∀(X:Cx),X.prog=P->X.w=w->X.K=K->X.calm=true->∀(i:Nat) (pins:Z3) (s:Shared) (σ:St) (H:Hp) (E:Z5),Inv X pins σ H s->(∀b∈fp,zkz X pins H b)->tn i s.heap->J.stop i H →
  wpAny (model P w) X.A (pyNext (.ref it)) (fun r s1=>r=none/\Inv X pins σ H s1) E s
 self:∀(A:Around) (i:Nat) (s:Shared) (Q:Z5) (E:Z5),tn i s.heap->Q (.ref it) s->wpAny (model P w) A (pyIter (.ref it)) Q E s
noncomputable abbrev TI:=St->Hp->(It->Hp->Prop)->Prop
noncomputable def PIE(X:Cx)(pins:Z3)(σ:St)(tg:Expr)(R:It->Hp->Prop)(itv:Value)(s2:Shared):Prop :=
 ∃(it:Addr) (fp:List Addr) (tn:Nat->Heap->Prop) (J:It) (H':Hp),itv=.ref it/\Inv X pins σ H' s2/\Turn X.prog X.w X.K tg J fp it tn/\tn 0 s2.heap/\(∀b∈fp,zkz X pins H' b)/\R J H'
noncomputable def PI(X:Cx)(tg iter:Expr)(wi:TI):Prop :=
 ∀(pins:Z3) (s:Shared) (σ:St) (H:Hp) (R:It->Hp->Prop),Inv X pins σ H s->wi σ H R →
  wpAny (model X.prog X.w) X.A (eval iter X.env) (fun v s1=>wpAny (model X.prog X.w) X.A (pyIter v) (PIE X pins σ tg R) X.xe s1) X.xe s
def zjV (ho : s.heap.get? it = some o) (hc : o.cls = .type n) (hd : o.data = .fields vs)
    (hn : ["enumerate", "zip", "dict_itemiterator", "dict_reverseitemiterator", "odict_iterator", "itertools.zip_longest", "itertools.pairwise"].contains n = false) (hQ : Q () s) : wpAny M A (letOwnedTupleGo tg (.ref it) u) Q E s := by
  unfold letOwnedTupleGo
  cases tg <;> first
    | exact yaf hQ
    | (cases u <;> first
        | exact yaf hQ
        | (refine yaa (wpAny_load ho ?_)
           rw [hc, hd];show wpAny M A (if (["enumerate", "zip", "dict_itemiterator", "dict_reverseitemiterator", "odict_iterator", "itertools.zip_longest", "itertools.pairwise"].contains n && vs[0]? == some (rawInt _)) = true then _ else _) Q E s;rw [if_neg (by intro h; rw [hn, Bool.false_and] at h; cases h)]
           exact yaf hQ))
noncomputable def Itl(K:PySem.W.Frag)(a:Addr):It :=
 ⟨fun i H=>∃xs x,SqL K H a xs/\xs[i]?=some x,fun i H x H'=>H'=H/\∀xs,SqL K H a xs->xs[i]?=some x,fun i H=>∃xs,SqL K H a xs/\xs.length<=i⟩
noncomputable def Itt(K:PySem.W.Frag)(a:Addr):It :=
 ⟨fun i H=>∃xs x,SqT K H a xs/\xs[i]?=some x,fun i H x H'=>H'=H/\∀xs,SqT K H a xs->xs[i]?=some x,fun i H=>∃xs,SqT K H a xs/\xs.length<=i⟩
noncomputable def Itr(lo:Int)(n:Nat):It:=⟨fun i _=>i<n,fun i H x H'=>H'=H/\x=.int (lo+i),fun i _=>n<=i⟩
theorem ziC{P:Program}{K:PySem.W.Frag}(a it:Addr):Turn P w K tg (Itl K a) [it] it (fun i h=>h.IsListIter it a i) where
 mem:=by simp
 obj:=fun i h st b hb=>by
  have e:b=it:=by simpa using hb
  subst e;obtain ⟨o,e,c,d⟩:=st;exact ⟨o,e,fun v z=>by rw [d] at z;cases z⟩
 keep:=fun i h h' st k=>st.at fun o e=>k it (by simp) o e
 item:=by
  intro X hP hw hK hc i pins s σ H E I hf st hg;subst hP hw hK;obtain ⟨xs,x,hq,hx⟩:=hg;obtain ⟨its,rv,p,hz⟩:=I.list hq;obtain ⟨u,hu,ru⟩:=rv.get hx;obtain ⟨f0,f1,f2,f3,f4,f5⟩:=hf it (by simp);refine wpAny_pyNext_list_item st p.isList (x:=u) (by simpa using hu) fun h' st' sb=>?_
  have I1:Inv X pins σ H { s with heap:=h' }:=I.turned (t':=s.toks) (fun b o hb e=>(sb.2 b hb).trans e) f0 f1 f3 f4 f5;obtain ⟨o,e,c,d⟩:=id st';exact ⟨u,rfl,zjV (s:={ s with heap:=h' }) e c d (by decide) ⟨x,H,I1,ru,⟨rfl,fun ys hy=>by rw [I.list_inj hy hq];exact hx⟩,st',fun b hb=>(hf b hb).1⟩⟩
 done:=by
  intro X hP hw hK hc i pins s σ H E I hf st hg;subst hP hw hK;obtain ⟨xs,hq,hx⟩:=hg;obtain ⟨its,rv,p,hz⟩:=I.list hq;obtain ⟨f0,f1,f2,f3,f4,f5⟩:=hf it (by simp);have hl:=rv.length;exact wpAny_pyNext_list_end (I.ok.hd hc) st p.isList (by simp;omega) fun h' eb=>⟨rfl,I.turned (t':=s.toks) (fun b o hb e=>eb b o hb e) f0 f1 f3 f4 f5⟩
 self:=fun _ _ _ _ _ st h=>wpAny_pyIter_listiter st h
def zh0{P:Program}{K:PySem.W.Frag}(a it:Addr):Turn P w K tg (Itt K a) [it] it (fun i h=>h.IsTupleIter it a i) where
 mem:=by simp
 obj:=fun i h st b hb=>by
  have e:b=it:=by simpa using hb
  subst e;obtain ⟨o,e,c,d⟩:=st;exact ⟨o,e,fun v z=>by rw [d] at z;cases z⟩
 keep:=fun i h h' st k=>st.at fun o e=>k it (by simp) o e
 item:=by
  intro X hP hw hK hc i pins s σ H E I hf st hg;subst hP hw hK;obtain ⟨xs,x,hq,hx⟩:=hg;obtain ⟨its,rv,p,hz⟩:=I.tuple hq;obtain ⟨u,hu,ru⟩:=rv.get hx;obtain ⟨f0,f1,f2,f3,f4,f5⟩:=hf it (by simp);refine wpAny_pyNext_tuple_item st (show s.heap.IsTuple a its.toArray from p) (x:=u) (by simpa using hu) fun h' st' sb=>?_
  have I1:Inv X pins σ H { s with heap:=h' }:=I.turned (t':=s.toks) (fun b o hb e=>(sb.2 b hb).trans e) f0 f1 f3 f4 f5;obtain ⟨o,e,c,d⟩:=id st';exact ⟨u,rfl,zjV (s:={ s with heap:=h' }) e c d (by decide) ⟨x,H,I1,ru,⟨rfl,fun ys hy=>by rw [I.tuple_inj hy hq];exact hx⟩,st',fun b hb=>(hf b hb).1⟩⟩
 done:=by
  intro X hP hw hK hc i pins s σ H E I hf st hg;subst hP hw hK;obtain ⟨xs,hq,hx⟩:=hg;obtain ⟨its,rv,p,hz⟩:=I.tuple hq;obtain ⟨f0,f1,f2,f3,f4,f5⟩:=hf it (by simp);have hl:=rv.length;exact wpAny_pyNext_tuple_end (I.ok.hd hc) st (show s.heap.IsTuple a its.toArray from p) (by simp;omega) fun h' eb=>⟨rfl,I.turned (t':=s.toks) (fun b o hb e=>eb b o hb e) f0 f1 f3 f4 f5⟩
 self:=fun _ _ _ _ _ st h=>wpAny_pyIter_tupleiter st h
theorem zh1{P:Program}{K:PySem.W.Frag}(it:Addr)(lo:Int)(n:Nat):Turn P w K tg (Itr lo n) [it] it (fun i h=>IsRangeIter h it (lo+(i:Nat)*1) ((n:Int)-(i:Nat)) 1) where
 mem:=by simp
 obj:=fun i h st b hb=>by
  have e:b=it:=by simpa using hb
  subst e
  exact ⟨_,st,fun v z=>by
   have z':Data.fields _=Data.cell v:=z
   cases z'⟩
 keep:=fun i h h' st k=>k it (by simp) _ st
 item:=by
  intro X hP hw hK hc i pins s σ H E I hf st hg;subst hP hw hK;obtain ⟨f0,f1,f2,f3,f4,f5⟩:=hf it (by simp);have W:=Walks.range (prog:=X.prog) (w:=X.w) (I.ok.hd hc) it lo 1 n;refine W.item i s _ _ hg st fun v h' tk hv st' kk=>?_
  obtain ⟨t,rfl⟩:=hv;have I1:Inv X pins σ H { s with heap:=h',toks:=tk }:=I.turned (fun b o hb e=>kk b o (by simpa using hb) e) f0 f1 f3 f4 f5;refine ⟨_,rfl,zjV (s:={ s with heap:=h',toks:=tk }) (n:="range_iterator") st' rfl rfl (by decide) ⟨.int (lo+i),H,I1,⟨t,?_⟩,⟨rfl,rfl⟩,st',fun b hb=>(hf b hb).1⟩⟩;rw [Int.mul_one]
 done:=by
  intro X hP hw hK hc i pins s σ H E I hf st hg;subst hP hw hK;obtain ⟨f0,f1,f2,f3,f4,f5⟩:=hf it (by simp);exact wpAny_pyNext_range_end (I.ok.hd hc) st (by have:n<=i:=hg;omega) fun h' eb=>⟨rfl,I.turned (t':=s.toks) (fun b o hb e=>eb b o hb e) f0 f1 f3 f4 f5⟩
 self:=fun _ _ _ _ _ st h=>wpAny_pyIter_rangeiter st h
section
variable{X:Cx}{tg:Expr}
noncomputable def ztx(K:PySem.W.Frag)(tl:TE):TI:=fun σ H R=>tl σ H fun x H1=>∃a,x=.ref a/\(∃xs,SqL K H1 a xs)/\R (Itl K a) H1
noncomputable def zwG(K:PySem.W.Frag)(tl:TE):TI:=fun σ H R=>tl σ H fun x H1=>∃a,x=.ref a/\(∃xs,SqT K H1 a xs)/\R (Itt K a) H1
def znN(hl:PE X l tl):PI X tg l (ztx X.K tl):=by
 intro pins s σ H R I h;refine thn (hl pins s σ H _ I h) fun v s1 ⟨x,H1,I1,r1,q1⟩=>?_
 obtain ⟨a,e,⟨xs,hq⟩,q⟩:=q1;subst e;cases r1;obtain ⟨its,rv,p,hz⟩:=I1.list hq;refine ycJ p.isList ?_;refine ⟨s1.heap.objs.size,[s1.heap.objs.size],_,_,H1,rfl,I1.kept (t':=s1.toks) fun b o e=>yae _ e,ziC a _,⟨_,yat _ rfl,rfl,rfl⟩,fun b hb=>?_,q⟩
 have e:b=s1.heap.objs.size:=by simpa using hb
 subst e;exact I1.fpOk (yak _) (I1.hok.fresh (yak _))
def zqe(hl:PE X l tl):PI X tg l (zwG X.K tl):=by
 intro pins s σ H R I h;refine thn (hl pins s σ H _ I h) fun v s1 ⟨x,H1,I1,r1,q1⟩=>?_
 obtain ⟨a,e,⟨xs,hq⟩,q⟩:=q1;subst e;cases r1;obtain ⟨its,rv,p,hz⟩:=I1.tuple hq;refine yb3 (show s1.heap.IsTuple a its.toArray from p) ?_;refine ⟨s1.heap.objs.size,[s1.heap.objs.size],_,_,H1,rfl,I1.kept (t':=s1.toks) fun b o e=>yae _ e,zh0 a _,⟨_,yat _ rfl,rfl,rfl⟩,fun b hb=>?_,q⟩
 have e:b=s1.heap.objs.size:=by simpa using hb
 subst e;exact I1.fpOk (yak _) (I1.hok.fresh (yak _))
theorem zk4{pins:Z3}{σ:St}{H:Hp}{s:Shared}{R:It->Hp->Prop}{E:Z5}{lo hi:Int}{t u v:Tok}{tk:Nat}(I:Inv X pins σ H s)(h1:-(2 ^ 62)<=lo)(h2:lo<2 ^ 62)(h3:-(2 ^ 62)<=hi)(h4:hi<2 ^ 62)
  (q:R (Itr lo (hi-lo).toNat) H):wpAny (model X.prog X.w) X.A (pyIter (.ref s.heap.objs.size)) (PIE X pins σ tg R) E { s with heap:=s.heap.push { cls:=.type "range",data:=.fields #[.int lo t,.int hi u,.int 1 v] },toks:=tk }:=by
 refine wpAny_pyIter_range (IsRange.new ..) (small_one h1 h2 h3 h4) ?_;have I1:Inv X pins σ H { s with heap:=s.heap.push { cls:=.type "range",data:=.fields #[.int lo t,.int hi u,.int 1 v] },toks:=tk }:=I.kept fun b o e=>yae _ e
 refine ⟨(s.heap.push { cls:=.type "range",data:=.fields #[.int lo t,.int hi u,.int 1 v] }).objs.size,[(s.heap.push { cls:=.type "range",data:=.fields #[.int lo t,.int hi u,.int 1 v] }).objs.size],_,_,H,rfl,
  I1.kept (t':=tk) fun b o e=>yae _ e,zh1 _ lo (hi-lo).toNat,?_,fun b hb=>?_,q⟩
 ·have e1:lo+((0:Nat):Int)*1=lo:=by simp
  have e2:(((hi-lo).toNat:Nat):Int)-((0:Nat):Int)=Builtin.Range.rangeSize lo hi 1:=by rw [rangeSize_one];split<;>omega
  show IsRangeIter _ _ (lo+((0:Nat):Int)*1) ((((hi-lo).toNat:Nat):Int)-((0:Nat):Int)) 1;rw [e1,e2];exact yat _ rfl
 ·have e:b=(s.heap.push { cls:=.type "range",data:=.fields #[.int lo t,.int hi u,.int 1 v] }).objs.size:=by simpa using hb
  subst e;exact I1.fpOk (yak _) (I1.hok.fresh (yak _))
noncomputable def ztw(ta:TA):TI:=fun σ H R=>ta σ H fun vs H1=>∃j:Int,vs=[.int j]/\-(2 ^ 62)<=j/\j<2 ^ 62/\R (Itr 0 j.toNat) H1
theorem zje{a:Expr}{ta:TA}{p pos:Pos}(hg:Gl X "range")(hm:X.mg "range" = none)(ha:PA X [a] ta)(hs:starEach [a] X.env=[(false,eval a X.env)]:=by rfl):PI X tg (.Call (.Name "range" p) [a] [] pos) (ztw ta):=by
 intro pins s σ H R I h;refine Call_ (zfT I hg hm boot_range (ybJ (thn (ha pos pins s σ H _ I h) fun us s1 ⟨vs,H1,I1,r1,q1⟩=>?_) hs rfl));obtain ⟨j,e,q1,q2,q⟩:=q1;subst e
 cases r1 with
 | cons r rr =>
  cases rr;obtain ⟨t,rfl⟩:=r;exact call_range_1 (zk4 I1 (by omega) (by omega) q1 q2 (by simpa using q))
noncomputable def zvV(wi:TI)(g:TG)(tb:TS):TS:=fun D σ H=>wi σ H fun J H1=>∃W:Nat->Nat->St->Hp->Prop,(∃m,W 0 m σ H1)/\∀i m σ H,W i m σ H →
 (J.stop i H/\D.nx σ H)\/(J.go i H/\∃N:St->Hp->Prop,(∀σ' H',N σ' H'->∃m',m'<m/\W (i+1) m' σ' H')/\∀x H',J.yld i H x H'->g x σ H' fun σ2 H2=>tb { D with nx:=N,ct:=N,bk:=D.nx } σ2 H2)
noncomputable def zfJ(fp:List Addr)(h:Heap):List (Addr×Obj):=fp.filterMap fun b=>(h.get? b).map fun o=>(b,o)
def zcv(hb:b∈fp)(e:h.get? b=some o):(b,o)∈zfJ fp h:=ybt.mpr ⟨b,hb,by rw [e];rfl⟩
def zjl(hp:p∈zfJ fp h):p.1∈fp/\h.get? p.1=some p.2:=by
 obtain ⟨b,hb,e⟩:=ybt.mp hp
 cases q:h.get? b with
 | none=>rw [q] at e;cases e
 | some o =>
  rw [q] at e;have e':(b,o)=p:=Option.some.inj e;subst e';exact ⟨hb,q⟩
def Inv.pinned(I:Inv X pins σ H s)(hf:∀b∈fp,zkz X pins H b)(ho:∀b∈fp,∃o,s.heap.get? b=some o/\∀v,o.data≠.cell v):Inv X (pins++zfJ fp s.heap) σ H s :=
 I.pins_of fun p hp=>(yaR.mp hp).elim (fun z=>I.pin p (yaC _ z)) fun z=>by
  obtain ⟨hb,e⟩:=zjl z;obtain ⟨f0,f1,f2,_⟩:=hf p.1 hb;obtain ⟨o,e',d⟩:=ho p.1 hb;rw [e] at e';cases e';exact ⟨e,f0,f1,f2,d⟩
def Inv.unpinned(I:Inv X (pins++pl) σ H s):Inv X pins σ H s:=I.pins_of fun p hp=>I.pin p (yaC _ (ycq _ hp))
def zqa{iter:Expr}{body:List Stmt}{wi:TI}{g:TG}{tb:TS}{pos:Pos}(hp:PassesOwn (model X.prog X.w) X.A X.env X.xe)(hc:X.calm=true)(hi:PI X tg iter wi)(hg:PG X tg g)(hb:PSs X body tb)
  (hs:∀x,foldedSetIterable iter X.env x=pure x:=by intro _;rfl):PS X (.For tg iter body [] pos) (zvV wi g tb):=by
 intro pins s σ H D I h;refine wpAny_For (thn (hi pins s σ H _ I h) fun v s1 h1=>thn h1 fun itv s2 h2=>?_) hs;obtain ⟨it,fp,tn,J,H2,e,I2,T,st2,f2,W,⟨m0,w0⟩,turn⟩:=h2;subst e;have stat:∀{H':Hp},(∀b∈fp,H' b=none)->∀b∈fp,zkz X pins H' b:=fun hn b hb=>⟨hn b hb,(f2 b hb).2⟩
 refine codeAny_forLoop_any (fun n s'=>∃i σ' H',Inv X pins σ' H' s'/\tn i s'.heap/\(∀b∈fp,H' b=none)/\W i n σ' H') ?_ m0 ⟨0,σ,H2,I2,st2,fun b hb=>(f2 b hb).1,w0⟩;rintro n s3 ⟨i,σ3,H3,I3,st3,fr3,w3⟩
 rcases turn i n σ3 H3 w3 with ⟨stop,qn⟩ | ⟨go,N,hN,step⟩
 ·refine yb4 hp (thn (T.done X rfl rfl rfl hc i pins s3 σ3 H3 X.xe I3 (stat fr3) st3 stop) fun r s4 ⟨hr,I4⟩=>?_);subst hr;exact ycv ⟨σ3,H3,I4,qn⟩
 ·refine yb4 hp (thn (T.item X rfl rfl rfl hc i pins s3 σ3 H3 X.xe I3 (stat fr3) st3 go) fun r s4 ⟨u,hr,h4⟩=>?_);subst hr;refine yb4 hp (thn h4 fun _ s5 ⟨x,H5,I5,r5,y5,st5,fr5⟩=>?_);have I5':=I5.pinned (stat fr5) (T.obj _ _ st5);refine yb4 hp (thn (hg _ s5 σ3 H5 x u _ I5' r5 (step x H5 y5)) fun _ s6 ⟨σ6,H6,I6,q6⟩=>?_);refine yb4 hp (thn (hb _ s6 σ6 H6 _ I6 q6) fun f s7 q7=>?_)
  have again:∀{σ7:St} {H7:Hp},Inv X (pins++zfJ fp s5.heap) σ7 H7 s7->N σ7 H7->∃m,m<n/\∃i σ' H',Inv X pins σ' H' s7/\tn i s7.heap/\(∀b∈fp,H' b=none)/\W i m σ' H':=fun {σ7 H7} I7 n7=>by
   obtain ⟨m',hm,w7⟩:=hN σ7 H7 n7;refine ⟨m',hm,i+1,σ7,H7,I7.unpinned,T.keep _ _ _ st5 fun b hb o e=>(I7.pin (b,o) (yaC _ (yaC _ (zcv hb e)))).1,fun b hb=>?_,w7⟩;obtain ⟨o,e,d⟩:=T.obj _ _ st5 b hb;exact (I7.pin (b,o) (yaC _ (yaC _ (zcv hb e)))).2.1
  cases f with
  | next=>obtain ⟨σ7,H7,I7,n7⟩:=q7;exact again I7 n7
  | cont=>obtain ⟨σ7,H7,I7,n7⟩:=q7;exact again I7 n7
  | brk=>obtain ⟨σ7,H7,I7,q7⟩:=q7;exact ⟨σ7,H7,I7.unpinned,q7⟩
  | ret v=>obtain ⟨x7,σ7,H7,I7,r7,q7⟩:=q7;exact ⟨x7,σ7,H7,I7.unpinned,r7,q7⟩
end
noncomputable abbrev R2:=V->V->Hp->VK->Prop
noncomputable def OpR(X:Cx)(f:Value->Value->Sem Value)(r:R2):Prop :=
 ∀(pins:Z3) (s:Shared) (σ:St) (H:Hp) (x y:V) (v u:Value) (Q:VK),Inv X pins σ H s->zaI x v->zaI y u->r x y H Q →
  wpAny (model X.prog X.w) X.A (f v u) (EP X pins σ Q) X.xe s
noncomputable def UnR(X:Cx)(f:Value->Sem Value)(r:V->Hp->VK->Prop):Prop :=
 ∀(pins:Z3) (s:Shared) (σ:St) (H:Hp) (x:V) (v:Value) (Q:VK),Inv X pins σ H s->zaI x v->r x H Q →
  wpAny (model X.prog X.w) X.A (f v) (EP X pins σ Q) X.xe s
noncomputable def zb9(X:Cx)(f:Value)(r:List V->Hp->VK->Prop):Prop :=
 ∀(pins:Z3) (s:Shared) (σ:St) (H:Hp) (xs:List V) (us:List Value) (Q:VK),Inv X pins σ H s->Vals xs us->r xs H Q →
  wpAny (model X.prog X.w) X.A (call f us) (EP X pins σ Q) X.xe s
noncomputable def tOp(r:R2)(ta tb:TE):TE:=fun σ H Q=>ta σ H fun x H1=>tb σ H1 fun y H2=>r x y H2 Q
noncomputable def tUn(r:V->Hp->VK->Prop)(ta:TE):TE:=fun σ H Q=>ta σ H fun x H1=>r x H1 Q
noncomputable def rI(C:Int->Int->Prop)(g:Int->Int->V):R2:=fun x y H Q=>∃i j,x=.int i/\y=.int j/\C i j/\Q (g i j) H
noncomputable def rI0(g:Int->Int->V):R2:=fun x y H Q=>∃i j,x=.int i/\y=.int j/\Q (g i j) H
noncomputable def rU(g:Int->V):V->Hp->VK->Prop:=fun x H Q=>∃i,x=.int i/\Q (g i) H
section
variable{X:Cx}{a b c:Expr}{ta tb tc:TE}{pos:Pos}
def ztK(ha:PE X a ta)(hb:PE X b tb){pins:Z3}{s:Shared}{σ:St}{H:Hp}{R:V->V->Hp->Prop}(I:Inv X pins σ H s)
  (h:ta σ H fun x H1=>tb σ H1 fun y H2=>R x y H2) {Q:Z5} {f:Value->Value->Sem Value}
  (hf:∀v u s2 x y H2,Inv X pins σ H2 s2->zaI x v->zaI y u->R x y H2->wpAny (model X.prog X.w) X.A (f v u) Q X.xe s2) :
  wpAny (model X.prog X.w) X.A (eval a X.env) (fun v s₁=>wpAny (model X.prog X.w) X.A (eval b X.env) (fun u s₂=>wpAny (model X.prog X.w) X.A (f v u) Q X.xe s₂) X.xe s₁) X.xe s:=by
 refine thn (ha pins s σ H _ I h) fun v s1 ⟨x,H1,I1,r1,q1⟩=>?_
 refine thn (hb pins s1 σ H1 _ I1 q1) fun u s2 ⟨y,H2,I2,r2,q2⟩=>?_
 exact hf v u s2 x y H2 I2 r1 r2 q2
def zqk(ho:OpR X (binaryOp op) r)(ha:PE X a ta)(hb:PE X b tb):PE X (.BinOp a op b pos) (tOp r ta tb):=by
 intro pins s σ H Q I h;exact wpAny_BinOp (ztK ha hb I h fun v u s2 x y H2 I2 rx ry q=>ho pins s2 σ H2 x y v u Q I2 rx ry q)
def zs0(ho:UnR X (unaryOp op) r)(ha:PE X a ta):PE X (.UnaryOp op a pos) (tUn r ta):=by
 intro pins s σ H Q I h;exact UnaryOp_ (thn (ha pins s σ H _ I h) fun v s1 ⟨x,H1,I1,r1,q1⟩=>ho pins s1 σ H1 x v Q I1 r1 q1)
def opI{f:Value->Value->Sem Value}{C:Int->Int->Prop}{g:Int->Int->Int}
  (rule:∀(i j:Int) (t u:Tok) (s:Shared) (Q:Z5) (E:Z5),C i j->Q (.int (g i j) s.toks) { s with toks:=s.toks+1 }->wpAny (model X.prog X.w) X.A (f (.int i t) (.int j u)) Q E s) :
  OpR X f (rI C fun i j=>.int (g i j)):=by
 intro pins s σ H x y v u Q I rx ry h;obtain ⟨i,j,rfl,rfl,hc,q⟩:=h;obtain ⟨t,rfl⟩:=rx;obtain ⟨t',rfl⟩:=ry;exact rule i j t t' s _ _ hc ⟨.int (g i j),H,I.tok _,⟨_,rfl⟩,q⟩
def zuy{f:Value->Value->Sem Value}{g:Int->Int->Int}
  (rule:∀(i j:Int) (t u:Tok) (s:Shared) (Q:Z5) (E:Z5),Q (.int (g i j) s.toks) { s with toks:=s.toks+1 }->wpAny (model X.prog X.w) X.A (f (.int i t) (.int j u)) Q E s) :
  OpR X f (rI0 fun i j=>.int (g i j)):=by
 intro pins s σ H x y v u Q I rx ry h;obtain ⟨i,j,rfl,rfl,q⟩:=h;obtain ⟨t,rfl⟩:=rx;obtain ⟨t',rfl⟩:=ry;exact rule i j t t' s _ _ ⟨.int (g i j),H,I.tok _,⟨_,rfl⟩,q⟩
def zr0{f:Value->Value->Sem Value}{g:Int->Int->Bool}
  (rule:∀(i j:Int) (t u:Tok) (s:Shared) (Q:Z5) (E:Z5),Q (.bool (g i j)) s->wpAny (model X.prog X.w) X.A (f (.int i t) (.int j u)) Q E s) :
  OpR X f (rI0 fun i j=>.bl (g i j)):=by
 intro pins s σ H x y v u Q I rx ry h;obtain ⟨i,j,rfl,rfl,q⟩:=h;obtain ⟨t,rfl⟩:=rx;obtain ⟨t',rfl⟩:=ry;exact rule i j t t' s _ _ ⟨.bl (g i j),H,I,rfl,q⟩
noncomputable def zwW(i j:Int):Prop:=0<j/\j<1073741824
noncomputable def zwV(i j:Int):Prop:=0<=j/\j<=1000000/\i.natAbs<2 ^ 64
noncomputable def ztU(i j:Int):Prop:=(-(2 ^ 64)<i/\i<2 ^ 64)\/(-(2 ^ 64)<j/\j<2 ^ 64)
def ztU.ok(h:ztU i j):IntMulOk i j:=by
 rcases h with ⟨h1,h2⟩ | ⟨h1,h2⟩
 ·exact .of_left (intBits_le_64 h1 h2)
 ·exact .of_right (intBits_le_64 h1 h2)
def zqB:OpR X (binaryOp .Add) (rI0 fun i j=>.int (i+j)):=zuy fun _ _ _ _ _ _ _ q=>add_int q
def zqt:OpR X (binaryOp .Sub) (rI0 fun i j=>.int (i-j)):=zuy fun _ _ _ _ _ _ _ q=>sub_int q
def zqw:OpR X (binaryOp .Mult) (rI ztU fun i j=>.int (i*j)):=opI fun _ _ _ _ _ _ _ hc q=>mul_int q hc.ok
theorem znT:OpR X (binaryOp .FloorDiv) (rI zwW fun i j=>.int (i / j)):=opI fun i j _ _ _ _ _ hc q=>by
 have h1:(0:Int)<j:=hc.1;have h2:j<1073741824:=hc.2;exact floordiv_int (by omega) (by rw [Int.fdiv_eq_ediv_of_nonneg i (by omega)];exact q) (.inl (PyProof.noPylong_small (by omega)))
theorem zqx:OpR X (binaryOp .Mod) (rI (fun _ j=>0<j) fun i j=>.int (i % j)):=opI fun i j _ _ _ _ _ hc q=>by
 have h1:(0:Int)<j:=hc;exact mod_int' (by omega) (by rw [Int.fmod_eq_emod_of_nonneg i (by omega)];exact q)
def zqv:OpR X (binaryOp .Pow) (rI zwV fun i j=>.int (i ^ j.toNat)):=opI fun _ _ _ _ _ _ _ hc q=>pow_int_small hc.1 hc.2.1 hc.2.2 q
def unI{f:Value->Sem Value}{g:Int->Int}
  (rule:∀(i:Int) (t:Tok) (s:Shared) (Q:Z5) (E:Z5),Q (.int (g i) s.toks) { s with toks:=s.toks+1 }->wpAny (model X.prog X.w) X.A (f (.int i t)) Q E s) :
  UnR X f (rU fun i=>.int (g i)):=by
 intro pins s σ H x v Q I rx h;obtain ⟨i,rfl,q⟩:=h;obtain ⟨t,rfl⟩:=rx;exact rule i t s _ _ ⟨.int (g i),H,I.tok _,⟨_,rfl⟩,q⟩
def zo5:UnR X (unaryOp .USub) (rU fun i=>.int (-i)):=unI fun _ _ _ _ _ q=>neg_int q
end
section
variable{X:Cx}{a b c:Expr}{ta tb tc:TE}{pos:Pos}
def zj2(I:Inv X pins σ H s)(q:Q (.bl k) H)(e:k=k'):EP X pins σ Q (.bool k') s:=by
 subst e;exact ⟨.bl k,H,I,rfl,q⟩
def zs6:OpR X (compareOp .Lt) (rI0 fun i j=>.bl (decide (i<j))):=zr0 fun _ _ _ _ _ _ _ q=>lt_int q
def zs7:OpR X (compareOp .LtE) (rI0 fun i j=>.bl (decide (i<=j))):=zr0 fun _ _ _ _ _ _ _ q=>le_int q
def zs8:OpR X (compareOp .Gt) (rI0 fun i j=>.bl (decide (j<i))):=zr0 fun _ _ _ _ _ _ _ q=>gt_int q
def zs9:OpR X (compareOp .GtE) (rI0 fun i j=>.bl (decide (j<=i))):=zr0 fun _ _ _ _ _ _ _ q=>ge_int q
def zjj:OpR X (compareOp .In) (fun x y H Q=>∃i j,x=.str i/\y=.str j/\Q (.bl (!(Builtin.Str.occurrences j i 0 j.length 1).isEmpty)) H):=by
 intro pins s σ H x y v u Q I rx ry h;obtain ⟨i,j,rfl,rfl,q⟩:=h;obtain ⟨t,rfl⟩:=rx;obtain ⟨t',rfl⟩:=ry;exact in_str (zj2 I q rfl)
def zqz:OpR X (compareOp .Is) (fun x y H Q=>y=.non/\Q (.bl (decide (x=.non))) H):=by
 intro pins s σ H x y v u Q I rx ry h;obtain ⟨rfl,q⟩:=h;cases ry;refine is_none_gen (zj2 I q ?_)
 cases x<;>first
  | (cases rx;rfl)
  | (obtain ⟨t,rfl⟩:=rx;rfl)
def znS:OpR X (compareOp .IsNot) (fun x y H Q=>y=.non/\Q (.bl (!decide (x=.non))) H):=by
 intro pins s σ H x y v u Q I rx ry h;obtain ⟨rfl,q⟩:=h;cases ry;refine isnot_none_gen (zj2 I q ?_)
 cases x<;>first
  | (cases rx;rfl)
  | (obtain ⟨t,rfl⟩:=rx;rfl)
def znR(ho:OpR X (compareOp op) r)(ha:PE X a ta)(hb:PE X b tb)(hm:behindInMarks op b=false):PE X (.Compare a [op] [b] pos) (tOp r ta tb):=by
 intro pins s σ H Q I h;exact wpAny_Compare1 (ztK ha hb I h fun v u s2 x y H2 I2 rx ry q=>ho pins s2 σ H2 x y v u Q I2 rx ry q) hm
noncomputable def zm7(t:TE):TT:=fun σ H Q=>t σ H fun x H'=>∃k,x=.bl k/\Q k H'
def znA(ho:OpR X (compareOp op) r)(ha:PE X a ta)(hb:PE X b tb)(hm:behindInMarks op b=false):PT X (.Compare a [op] [b] pos) (zm7 (tOp r ta tb)):=by
 intro pins s σ H Q I h
 refine wpAny_isTrue_Compare1 (thn (ha pins s σ H _ I h) fun v s1 ⟨x,H1,I1,r1,q1⟩=>thn (hb pins s1 σ H1 _ I1 q1) fun u s2 ⟨y,H2,I2,r2,q2⟩ =>
  thn (ho pins s2 σ H2 x y v u _ I2 r1 r2 q2) fun c s3 ⟨z,H3,I3,r3,k,e,q3⟩=>?_) hm
 subst e;cases r3;exact ya7 ⟨H3,I3,q3⟩
noncomputable def ziN(r r':R2)(ta tb tc:TE):TE:=fun σ H Q=>ta σ H fun x H1=>tb σ H1 fun y H2=>r x y H2 fun z H3=>∃k,z=.bl k ∧
 (if k=true then tc σ H3 fun w' H4=>r' y w' H4 Q else Q (.bl false) H3)
def zlk{op op':CmpOp}{r r':R2}(ho:OpR X (compareOp op) r)(ho':OpR X (compareOp op') r')(ha:PE X a ta)(hb:PE X b tb)(hc:PE X c tc)
  (hm:lastMarks [op,op'] [b,c]=false:=by with_unfolding_all rfl):PE X (.Compare a [op,op'] [b,c] pos) (ziN r r' ta tb tc):=by
 intro pins s σ H Q I h
 refine Compare_chain (thn (ha pins s σ H _ I h) fun v s1 ⟨x,H1,I1,r1,q1⟩=>chain_link (thn (hb pins s1 σ H1 _ I1 q1) fun u s2 ⟨y,H2,I2,r2,q2⟩ =>
  thn (ho pins s2 σ H2 x y v u _ I2 r1 r2 q2) fun d s3 ⟨z,H3,I3,r3,k,e,q3⟩=>?_)) hm
 subst e;cases r3;refine ya7 ?_
 cases k with
 | false=>exact ite_ff ⟨.bl false,H3,I3,rfl,q3⟩
 | true=>exact ite_tt (chain_last (thn (hc pins s3 σ H3 _ I3 q3) fun w' s4 ⟨z',H4,I4,r4,q4⟩=>ho' pins s4 σ H4 y z' u w' Q I4 r2 r4 q4))
def zk6{op op':CmpOp}{r r':R2}(ho:OpR X (compareOp op) r)(ho':OpR X (compareOp op') r')(ha:PE X a ta)(hb:PE X b tb)(hc:PE X c tc)
  (hm:lastMarks [op,op'] [b,c]=false:=by with_unfolding_all rfl):PT X (.Compare a [op,op'] [b,c] pos) (zm7 (ziN r r' ta tb tc)):=by
 intro pins s σ H Q I h
 refine isTrue_chain (thn (ha pins s σ H _ I h) fun v s1 ⟨x,H1,I1,r1,q1⟩=>test_link (thn (hb pins s1 σ H1 _ I1 q1) fun u s2 ⟨y,H2,I2,r2,q2⟩ =>
  thn (ho pins s2 σ H2 x y v u _ I2 r1 r2 q2) fun d s3 ⟨z,H3,I3,r3,k,e,q3⟩=>?_)) hm
 subst e;cases r3;refine ya7 ?_
 cases k with
 | false =>
  obtain ⟨k',e',q'⟩:=q3;cases e';exact ite_ff ⟨H3,I3,q'⟩
 | true =>
  refine ite_tt (test_last (thn (hc pins s3 σ H3 _ I3 q3) fun w' s4 ⟨z',H4,I4,r4,q4⟩=>thn (ho' pins s4 σ H4 y z' u w' _ I4 r2 r4 q4) fun d' s5 ⟨z2,H5,I5,r5,k2,e2,q5⟩=>?_));subst e2;cases r5;exact ya7 ⟨H5,I5,q5⟩
def zfR:(sizeLine:Nat)<2 ^ 63:=by rw [ycQ];decide
def zic:OpR X (binaryOp .Add) (fun x y H Q=>∃i j,x=.str i/\y=.str j/\i.length+j.length<=sizeLine/\Q (.str (i++j)) H):=by
 intro pins s σ H x y v u Q I rx ry h;obtain ⟨i,j,rfl,rfl,hz,q⟩:=h;obtain ⟨t,rfl⟩:=rx;obtain ⟨t',rfl⟩:=ry;exact add_str (fun t' tk=>⟨.str (i++j),H,I.tok _,⟨_,rfl⟩,q⟩) hz
def zdx(r:Vals [x] us):∃u,us=[u]/\zaI x u:=by
 cases r with
 | cons r1 r2=>cases r2;exact ⟨_,rfl,r1⟩
def zo2(r:Vals [x,y] us):∃u w',us=[u,w']/\zaI x u/\zaI y w':=by
 cases r with
 | cons r1 r2 =>
  cases r2 with
  | cons r3 r4=>cases r4;exact ⟨_,_,rfl,r1,r3⟩
def zkq(hc:X.calm=true):zb9 X (.builtin "max") (fun xs H Q=>∃i j,xs=[.int i,.int j]/\Q (.int (if j > i then j else i)) H):=by
 intro pins s σ H xs us Q I r h;obtain ⟨i,j,rfl,q⟩:=h;obtain ⟨u,w',rfl,⟨t,rfl⟩,⟨t',rfl⟩⟩:=zo2 r;refine max_two_ints (I.ok.hd hc) fun h' tk k=>⟨_,H,I.kept k,?_,q⟩
 by_cases hj:j > i
 ·rw [if_pos hj,if_pos hj];exact ⟨_,rfl⟩
 ·rw [if_neg hj,if_neg hj];exact ⟨_,rfl⟩
def zkp(hc:X.calm=true):zb9 X (.builtin "min") (fun xs H Q=>∃i j,xs=[.int i,.int j]/\Q (.int (if j<i then j else i)) H):=by
 intro pins s σ H xs us Q I r h;obtain ⟨i,j,rfl,q⟩:=h;obtain ⟨u,w',rfl,⟨t,rfl⟩,⟨t',rfl⟩⟩:=zo2 r;refine min_two_ints (I.ok.hd hc) fun h' tk k=>⟨_,H,I.kept k,?_,q⟩
 by_cases hj:j<i
 ·rw [if_pos hj,if_pos hj];exact ⟨_,rfl⟩
 ·rw [if_neg hj,if_neg hj];exact ⟨_,rfl⟩
def zf9:zb9 X (.type "int") (fun xs H Q=>(∃i,xs=[.int i]/\Q (.int i) H)\/∃k,xs=[.bl k]/\Q (.int (if k then 1 else 0)) H):=by
 intro pins s σ H xs us Q I r h
 rcases h with ⟨i,rfl,q⟩ | ⟨k,rfl,q⟩
 ·obtain ⟨u,rfl,t,rfl⟩:=zdx r;exact call_int_int ⟨.int i,H,I,⟨_,rfl⟩,q⟩
 ·obtain ⟨u,rfl,r1⟩:=zdx r;cases r1;exact call_int_bool ⟨.int (if k then 1 else 0),H,I.tok _,⟨_,rfl⟩,q⟩
def zf7:zb9 X (.type "str") (fun xs H Q=>∃i,xs=[.int i]/\i.natAbs.log2<1920/\Q (.str (toString i)) H):=by
 intro pins s σ H xs us Q I r h;obtain ⟨i,rfl,hz,q⟩:=h;obtain ⟨u,rfl,t,rfl⟩:=zdx r;exact PySem.P.str_of_int hz ⟨.str _,H,I.tok _,⟨_,rfl⟩,q⟩
end
structure ObjM(h:Heap)(x dx C:Addr)(mA:Z6):Prop where
 obj:h.get? x=some (PySem.W.instObj C dx)
 ns:h.Ns1 dx mA
 ne:dx≠x
def zjw{h:Heap}{mA:Z6}(n:h.Ns1 dx mA):∃od,h.get? dx=some od/\∀name,PySem.W.lookIn name od=some (mA name):=by
 obtain ⟨o,es,ep,ho,hd,hk,_,hm⟩:=n;refine ⟨o,ho,fun name=>?_⟩;have e:=hm name;unfold nsFind findBy at e;rw [<-Array.find?_toList] at e;unfold PySem.W.lookIn;rw [hd];dsimp only;split
 ·rename_i y q;rw [q] at e;exact congrArg some e
 ·rename_i q;rw [q] at e
  have a:es.toList.any (·.refKey)=false:=by
   rw [List.any_eq_false];intro y hy;obtain ⟨z,t,hkey⟩:=hk y (ya3.mp hy);simp [DictEntry.refKey,hkey]
  have a':¬ es.toList.any (·.refKey)=true:=by rw [a];exact yaU
  rw [if_neg a'];exact congrArg some e
def ObjM.look(I:ObjM h x dx C mA):∃od,PySem.W.InstAt h x (PySem.W.instObj C dx) C (some od)/\∀name,PySem.W.lookIn name od=some (mA name) :=
 let ⟨od,ho,hl⟩:=zjw I.ns
 ⟨od,⟨I.obj,rfl,rfl,ho⟩,hl⟩
def zix.some_of(r:zix (some v) o):∃u,o=some u/\zaI v u:=by
 cases o with
 | none=>exact (show False from r).elim
 | some u=>exact ⟨u,rfl,r⟩
section
variable{P:Program}{w:World}{H H':Hp}{h h':Heap}{a C dx:Addr}{fs fs':List (Str×V)}
def zot(hok:HOk P w H h)(e:H a=some (.ins C dx fs)):∃mA,ObjM h a dx C mA/\(∀f,zix (fs.lookup f) (mA f))/\PySem.Within mA (fs.map (·.1))/\fs.length<=1000/\H dx=some (.own a):=by
 obtain ⟨d,z,ne,ob,mA,n,r,q⟩:=(show zaG P w H h a (.ins C dx fs) from hok a _ e);exact ⟨mA,⟨ob,n,ne⟩,r,q,z,d⟩
end
structure Cls(K:PySem.W.Frag)(C:Addr):Prop where
 pg:PySem.W.plainGet K C Str.empty=true
 hd:PySem.W.hasDictIn K C=true
 po:PySem.W.plainOver K C=true
 sa:PySem.W.findIn K (.ref C) "__setattr__" = some (some (.builtin "object.__setattr__"))
def Cls.get{K:PySem.W.Frag}(c:Cls K C)(f:Str):PySem.W.plainGet K C f=true:=c.pg
noncomputable def zmT(K:PySem.W.Frag)(C:Addr)(f:Str):Prop:=PySem.W.findIn K (.ref C) f=some none
structure Meth(K:PySem.W.Frag)(C:Addr)(m:Str)(f:Addr):Prop where
 at_:PySem.W.findIn K (.ref C) m=some (some (.ref f))
 fn:PySem.W.isFn K (.ref f)=true
 kp:PySem.W.keepIn K (.ref f)=true
section
variable{X:Cx}{pins:Z3}{σ:St}{H:Hp}{s:Shared}{A:Around}{E:Z5}{Q:Z5}{c:Value}{b:Bool}
inductive TyOf(K:PySem.W.Frag)(H:Hp):V->Value->Prop where
 | non:TyOf K H .non (.type "NoneType")
 | bl (x:Bool):TyOf K H (.bl x) (.type "bool")
 | int (i:Int):TyOf K H (.int i) (.type "int")
 | str (x:Str):TyOf K H (.str x) (.type "str")
 | flt (x:UInt64):TyOf K H (.flt x) (.type "float")
 | lst {a:Addr} {xs:List V} (e:H a=some (.lst xs)):TyOf K H (.ref a) (.type "list")
 | frz {a:Addr} {o:Obj} {xs:List V} (e:H a=some (.frz o (.lst xs))):TyOf K H (.ref a) (.type "list")
 | tup {a:Addr} {xs:List V} (e:H a=some (.tup xs)):TyOf K H (.ref a) (.type "tuple")
 | dK {a:Addr} {kvs:List (Key×V)} (e:H a=some (.dK kvs)):TyOf K H (.ref a) (.type "dict")
 | dT {a:Addr} {kvs:List (List Key×V)} (e:H a=some (.dT kvs)):TyOf K H (.ref a) (.type "dict")
 | ins {a C dx:Addr} {fs:List (Str×V)} (e:H a=some (.ins C dx fs)) (cl:Cls K C) (ha:PySem.W.findIn K (.ref C) "__class__" = some (some (.builtin "object.__class__")))
   (hn:PySem.W.specialIn K (.builtin "object.__class__") "__get__" = some (some (.builtin "getset_descriptor.__get__"))) (htk:PySem.W.takesIn K (.builtin "object.__class__")=some true)
   (hm:PySem.W.mroIn K C (.type "object")=some true):TyOf K H (.ref a) (.ref C)
def zjL{x:V}{u t:Value}(I:Inv X pins σ H s)(rx:zaI x u)(ty:TyOf X.K H x t)(e:PySem.W.kitOne X.K t c=some b)(h:∀tk,Q (.bool b) { s with toks:=tk }) :
  wpAny (model X.prog X.w) A (call (.builtin "isinstance") [u,c]) Q E s:=by
 cases ty with
 | non=>cases (show u=Value.none from rx);exact yaY PySem.W.kitx_none I.kIn True.intro e (fun z=>nomatch z) h
 | bl y=>cases (show u=Value.bool y from rx);exact yaY PySem.W.kitx_bool I.kIn True.intro e (fun z=>nomatch z) h
 | int i=>obtain ⟨t,q⟩:=(show ∃t,u=Value.int i t from rx);cases q;exact yaY PySem.W.kitx_int I.kIn True.intro e (fun z=>nomatch z) h
 | str y=>obtain ⟨t,q⟩:=(show ∃t,u=Value.str y t from rx);cases q;exact yaY PySem.W.kitx_str I.kIn True.intro e (fun z=>nomatch z) h
 | flt y=>obtain ⟨t,q⟩:=(show ∃t,u=Value.float y t from rx);cases q;exact yaY PySem.W.kitx_float I.kIn True.intro e (fun z=>nomatch z) h
 | @lst a xs ea =>
  cases (show u=Value.ref a from rx);obtain ⟨_,_,n,_,h1⟩:=(show zaG X.prog X.w H s.heap a (.lst xs) from I.hok a _ ea);exact yaY PySem.W.kitx_list I.kIn ⟨_,h1,rfl⟩ e (fun z=>nomatch z) h
 | @frz a ob xs ea =>
  cases (show u=Value.ref a from rx);obtain ⟨_,_,_,n,_,h1⟩:=(show zaG X.prog X.w H s.heap a (.frz ob (.lst xs)) from I.hok a _ ea);exact yaY PySem.W.kitx_list I.kIn ⟨_,h1,rfl⟩ e (fun z=>nomatch z) h
 | @tup a xs ea =>
  cases (show u=Value.ref a from rx);obtain ⟨_,_,_,p⟩:=(show zaG X.prog X.w H s.heap a (.tup xs) from I.hok a _ ea);obtain ⟨o,h1,h2,_⟩:=p;exact yaY PySem.W.kitx_tuple I.kIn ⟨o,h1,h2⟩ e (fun z=>nomatch z) h
 | @dK a kvs ea =>
  cases (show u=Value.ref a from rx);obtain ⟨_,_,vs,_,p⟩:=(show zaG X.prog X.w H s.heap a (.dK kvs) from I.hok a _ ea);obtain ⟨o,es,ep,h1,h2,_⟩:=p;exact yaY PySem.W.kitx_dict I.kIn ⟨o,h1,h2.1⟩ e (fun z=>nomatch z) h
 | @dT a kvs ea =>
  cases (show u=Value.ref a from rx);obtain ⟨_,_,xs,_,o,es,ep,h1,h2,_⟩:=(show zaG X.prog X.w H s.heap a (.dT kvs) from I.hok a _ ea);exact yaY PySem.W.kitx_dict I.kIn ⟨o,h1,h2.1⟩ e (fun z=>nomatch z) h
 | @ins a C dx fs ea cl ha hn htk hm =>
  cases (show u=Value.ref a from rx);obtain ⟨mA,O,_⟩:=zot I.hok ea;obtain ⟨od,J,_⟩:=O.look;exact yaY (PySem.W.kitx_own (cl.get _) cl.hd ha hn htk hm) I.kIn J e (fun z=>nomatch z) h
end
structure Room(k:Nat)(A:Around):Prop where
 hd:A.handled=none
 dp:A.depth+3*k+5<recursionLimit
 un:A.units+16*k+200<cLine
theorem Room.mono(r:Room k A)(h:j<=k):Room j A:=⟨r.hd,by have:=r.dp;omega,by have:=r.un;omega⟩
theorem Room.deeper(r:Room (k+1) A)(env:Env):Room k (A.deeper env) :=
 ⟨r.hd,by have:=r.dp;show A.depth+1+3*k+5<_;omega,by have:=r.un;show A.units+3+16*k+200<_;omega⟩
theorem Room.depth(r:Room k A):A.depth<recursionLimit:=by have:=r.dp;omega
theorem Room.units(r:Room k A):A.units+64<cLine:=by have:=r.un;omega
noncomputable def zsA:TA:=fun _ H Q=>Q [] H
noncomputable def zm9(ta:TE)(tr:TA):TA:=fun σ H Q=>ta σ H fun x H1=>tr σ H1 fun xs H2=>Q (x::xs) H2
section
variable{X:Cx}{e:Expr}{es:List Expr}{te:TE}{t:TA}{pos:Pos}
def zdp:PA X [] zsA:=fun _ _ _ _ H Q I h=>Calls.spliced_nil ⟨[],H,I,.nil,h⟩
def zbB(ha:PE X e te)(hr:PA X es t)(hs:starEach (e::es) X.env=(false,eval e X.env)::starEach es X.env:=by rfl):PA X (e::es) (zm9 te t):=by
 intro pos pins s σ H Q I h;rw [hs];show wpAny _ _ (spliced ((false,eval e X.env)::backTo pos (starEach es X.env))) _ _ s;refine ycE (thn (ha pins s σ H _ I h) fun u s1 ⟨x,H1,I1,r1,q1⟩=>?_);exact thn (hr pos pins s1 σ H1 _ I1 q1) fun us s2 ⟨xs,H2,I2,r2,q2⟩=>⟨x::xs,H2,I2,.cons r1 r2,q2⟩
noncomputable def zvP(t:TA):TE:=fun σ H Q=>t σ H fun xs H1=>xs.length<=sizeLine/\∀p,H1 p=none->Q (.ref p) (upd H1 p (.tup xs))
noncomputable def zvT(t:TA):TE:=fun σ H Q=>t σ H fun xs H1=>xs.length<=sizeLine/\∀p,H1 p=none->Q (.ref p) (upd H1 p (.lst xs))
def zqi{x1}(h:PA X es t):PE X (.Tuple es x1 pos) (zvP t):=by
 intro pins s σ H Q I hq;refine wpAny_Tuple_spliced (thn (h pos pins s σ H _ I hq) fun us s1 ⟨xs,H1,I1,r,z,q⟩=>⟨by rw [<-r.length];exact z,?_⟩);have hf:H1 s1.heap.objs.size=none:=I1.hok.fresh (yak _);refine ⟨.ref s1.heap.objs.size,upd H1 s1.heap.objs.size (.tup xs),I1.laid (t':=s1.toks) (fun b u e=>yae _ e) (yak _) ?_,rfl,q _ hf⟩;exact ⟨z,us,r,⟨_,yat _ rfl,rfl,_,rfl,rfl⟩⟩
def zqo(h:PA X es t):PE X (.List es pos) (zvT t):=by
 intro pins s σ H Q I hq;refine wpAny_List_spliced (thn (h pos pins s σ H _ I hq) fun us s1 ⟨xs,H1,I1,r,z,q⟩=>⟨by rw [<-r.length];exact z,?_⟩);have hf:H1 s1.heap.objs.size=none:=I1.hok.fresh (yak _);refine ⟨.ref s1.heap.objs.size,upd H1 s1.heap.objs.size (.lst xs),I1.laid (t':=s1.toks) (fun b u e=>yae _ e) (yak _) ?_,rfl,q _ hf⟩;exact ⟨z,us,0,r,yat _ rfl⟩
end
noncomputable abbrev Sp:=List V->Hp->VK->XK->Prop
noncomputable abbrev CXT:=List Env->Hp->Shared->XK->Value->Shared->Prop
structure Env0(P:Program)(w:World)(K:PySem.W.Frag)(mg:Z6)(base:Heap)(A:Around)(outer:List Env)(s:Shared)(H:Hp):Prop where
 frames:A.frames=some outer
 mod:Mod K mg base
 bs:∀b o,base.get? b=some o->s.heap.get? b=some o/\H b=none
 bsz:base.objs.size<=s.heap.objs.size
 funs:s.heap.FunFrames base outer
 frf:∀b∈frs outer,H b=none
 hok:HOk P w H s.heap
 bare:AllBare s.gens
noncomputable def CE(outer:List Env)(P:Program)(w:World)(H:Hp)(s:Shared)(Q:VK)(u:Value)(s':Shared):Prop :=
 ∃v H',s'.os=s.os/\AllBare s'.gens/\Un (frs outer) [] H H' s.heap s'.heap/\HOk P w H' s'.heap/\zaI v u/\Q v H'
noncomputable def CR(CX:CXT)(outer:List Env)(P:Program)(w:World)(H:Hp)(s:Shared)(Q:VK)(E:XK)(r:Result)(s':Shared):Prop :=
 match r with
 | .ok (.ret u)=>CE outer P w H s Q u s'
 | .ok _=>False
 | .error e=>CX outer H s E e s'
structure FnOk(P:Program)(w:World)(K:PySem.W.Frag)(mg:Z6)(base:Heap)(CX:CXT)(k:Nat)(f:Addr)(fd:FuncData)(ps:List Str)(sp:Sp):Prop where
 len:∀vs H Q E,sp vs H Q E->vs.length=ps.length
 run:∀(A:Around) (outer:List Env) (s:Shared) (H:Hp) (args:Args) (us:List Value) (vs:List V) (Q:VK) (E:XK),Room k A->Env0 P w K mg base A outer s H->BindsTo s fd args (ps.zip us)->Vals vs us->sp vs H Q E →
  codeAny (model P w) A (.call (.ref f) args) (CR CX outer P w H s Q E) s
theorem FnOk.mono{P:Program}{K:PySem.W.Frag}{j k:Nat}(F:FnOk P w K mg base CX j f fd ps sp)(h:j<=k) :
  FnOk P w K mg base CX k f fd ps sp:=⟨F.len,fun A outer s H args us vs Q E hr=>F.run A outer s H args us vs Q E (hr.mono h)⟩
def FnOk.imp{P:Program}{K:PySem.W.Frag}{k:Nat}(F:FnOk P w K mg base CX k f fd ps sp)
  (h:∀vs H Q E,sp' vs H Q E->sp vs H Q E):FnOk P w K mg base CX k f fd ps sp' :=
 ⟨fun vs H Q E q=>F.len vs H Q E (h _ _ _ _ q),fun A outer s H args us vs Q E hr he hb hv hs=>F.run A outer s H args us vs Q E hr he hb hv (h _ _ _ _ hs)⟩
section
variable{X:Cx}{pins:Z3}{σ:St}{H:Hp}{s s':Shared}
def Inv.env0(I:Inv X pins σ H s):Env0 X.prog X.w X.K X.mg X.base X.A X.stack s H :=
 ⟨I.ok.frames,I.ok.mod,I.bs,yaw I.ok.bsz I.sz,I.stack,I.stkFree,I.hok,I.bare⟩
def Inv.after(I:Inv X pins σ H s)(h:CE X.stack X.prog X.w H s Q u s'):EP X pins σ Q u s':=by
 obtain ⟨v,H',os,bare,un,hok,r,q⟩:=h;obtain ⟨hh,g,d,t,os'⟩:=s';obtain rfl:os'=s.os:=os;exact ⟨v,H',I.call (h':=hh) (g':=g) (d':=d) (t':=t) (ch:=[]) un hok bare (fun b z=>absurd z (by simp)),r,q⟩
end
noncomputable def zdz(K:PySem.W.Frag)(fd:FuncData)(ps:List Str)(ds:List Value):Prop :=
 ∀(s:Shared) (us:List Value),K.In s.heap->(us++ds).length=ps.length->BindsTo s fd ⟨us,[]⟩ (ps.zip (us++ds))
def zdz.all{K:PySem.W.Frag}{ps:List Str}(h:∀us:List Value,us.length=ps.length->bindArgs fd ⟨us,[]⟩=pure (ps.zip us)):zdz K fd ps []:=fun s us _ hl=>by
 rw [ybj] at hl ⊢;exact .of_eq (h us hl)
noncomputable def zrM(CX:CXT)(X:Cx)(E:XK):Prop:=∀(pins:Z3) (σ:St) (H:Hp) (s:Shared) (e:Value) (s':Shared),Inv X pins σ H s->CX X.stack H s E e s'->X.xe e s'
section
variable{X:Cx}{CX:CXT}{k:Nat}{f C:Addr}{fd:FuncData}{ps:List Str}{sp:Sp}{dvs:List V}{ds:List Value}{E:XK}{x m:Str}{p pos apos:Pos}{e o:Expr}{es:List Expr}{ta:TE}{t:TA}
structure Mk(K:PySem.W.Frag)(C f:Addr):Prop where
 makes:PySem.W.makesIn K C=true
 init:PySem.W.findIn K (.ref C) "__init__" = some (some (.ref f))
 fn:PySem.W.isFn K (.ref f)=true
 kp:PySem.W.keepIn K (.ref C)=true
end
structure FnScope(N P:List Str)(sc:Scope):Prop where
 kind:sc.kind=.function
 co:sc.isCoroutine=false
 gen:sc.isGenerator=false
 nd:N.Nodup
 pre:N.take P.length=P
 par:∀x∈P,sc.names.lookup x=some .local\/sc.names.lookup x=some .cell
 nofree:∀y∈sc.names,y.2≠.free
theorem zgd{kindOf:Str->Option NameKind}:∀{binds:List (Str×Value)} {m:Z6},(∀v,(x,v) ∉ binds)->bindL kindOf binds m x=m x
 | [],_,_=>rfl
 | (n,v)::r,m,h=>by
  unfold bindL;rw [zgd fun w hw=>h w (yag _ hw)];split
  ·have:x≠n:=by rintro rfl;exact h v yah
   simp [this]
  ·rfl
theorem zgf{kindOf:Str->Option NameKind}:∀{binds:List (Str×Value)} {m:Z6},(∀v,(x,v) ∉ binds)->bindC kindOf binds m x=m x
 | [],_,_=>rfl
 | (n,v)::r,m,h=>by
  unfold bindC;rw [zgf fun w hw=>h w (yag _ hw)];split
  ·rfl
  ·have:x≠n:=by rintro rfl;exact h v yah
   simp [this]
theorem zge{kindOf:Str->Option NameKind}:∀{P:List Str} {vs:List Value} {i:Nat} {m:Z6},P.Nodup->P[i]?=some x->vs[i]?=some v->kindOf x=some .local →
  bindL kindOf (P.zip vs) m x=some v
 | [],_,_,_,_,h,_,_=>by simp at h
 | _::_,[],_,_,_,_,h,_=>by simp at h
 | p::P,w::vs,0,m,nd,h1,h2,hk=>by
  simp at h1 h2;subst h1;subst h2;show bindL kindOf ((p,w)::P.zip vs) m p=_;unfold bindL;rw [zgd fun v hv=>(ybo.mp nd).1 (List.of_mem_zip hv).1,if_pos hk];simp
 | p::P,w::vs,i+1,m,nd,h1,h2,hk=>by
  show bindL kindOf ((p,w)::P.zip vs) m x=_;unfold bindL;exact zge (i:=i) (ybo.mp nd).2 (by simpa using h1) (by simpa using h2) hk
theorem zgg{kindOf:Str->Option NameKind}:∀{P:List Str} {vs:List Value} {i:Nat} {m:Z6},P.Nodup->P[i]?=some x->vs[i]?=some v->kindOf x≠some .local →
  bindC kindOf (P.zip vs) m x=some v
 | [],_,_,_,_,h,_,_=>by simp at h
 | _::_,[],_,_,_,_,h,_=>by simp at h
 | p::P,w::vs,0,m,nd,h1,h2,hk=>by
  simp at h1 h2;subst h1;subst h2;show bindC kindOf ((p,w)::P.zip vs) m p=_;unfold bindC;rw [zgf fun v hv=>(ybo.mp nd).1 (List.of_mem_zip hv).1,if_neg hk];simp
 | p::P,w::vs,i+1,m,nd,h1,h2,hk=>by
  show bindC kindOf ((p,w)::P.zip vs) m x=_;unfold bindC;exact zgg (i:=i) (ybo.mp nd).2 (by simpa using h1) (by simpa using h2) hk
noncomputable def zeI(N:List Str)(vs:List V):St:=vs.map some++List.replicate (N.length-vs.length) none
noncomputable def zkD(CX:CXT)(P:Program)(w:World)(K:PySem.W.Frag)(mg:Z6)(base:Heap)(N:List Str)(qual:Str)(scope:Scope)(f:Addr)(cd:Value)(A:Around)(outer:List Env)(s:Shared)(H:Hp)(E:XK):Cx where
 prog:=P
 w:=w
 K:=K
 mg:=mg
 base:=base
 A:=A.deeper (envOfC qual scope s.heap.objs.size f cd)
 N:=N
 s₀:=s
 H₀:=H
 env:=envOfC qual scope s.heap.objs.size f cd
 outer:=outer
 stack:=envOfC qual scope s.heap.objs.size f cd::outer
 ex:=[]
 calm:=true
 fn:=fun _=>true
 pn:=[]
 xe:=fun e s'=>wpAny (model P w) (A.deeper (envOfC qual scope s.heap.objs.size f cd)) (leaving (envOfC qual scope s.heap.objs.size f cd) e) (fun _ s''=>CX outer H s E e s'') (fun e' s''=>CX outer H s E e' s'') s'
def zhS{sc:Scope}(h:sc.names.lookup x=some .cell):∃c,(cellsFrom n sc.names []).lookup x=some c:=by
 have q:=PySem.W.cellsFrom_some sc.names n [] (.inl h);exact Option.isSome_iff_exists.mp q
theorem zjN{P:Program}{K:PySem.W.Frag}{N ps:List Str}{scope:Scope}{A:Around}{s s1:Shared}{vs:List V}
  (S:FnScope N ps scope) (hd:A.handled=none) (e0:Env0 P w K mg base A outer s H) (hl:vs.length=ps.length) (r:Vals vs us)
  (x:InCallC s s.heap.objs.size (bindL (envOfC qual scope s.heap.objs.size f cd).kindOf (ps.zip us) fun _=>none) (cellsFrom (s.heap.objs.size+1) scope.names []) (bindC (envOfC qual scope s.heap.objs.size f cd).kindOf (ps.zip us) fun _=>none) s1) :
  Inv (zkD CX P w K mg base N qual scope f cd A outer s H E) [] (zeI N vs) H s1:=by
 have hpl:ps.length<=N.length:=by have:=congrArg List.length S.pre;rw [ybd] at this;omega
 obtain ⟨h1,tk,rfl,hk⟩:=x.done;have noA:∀b:Addr,b ∉ (zkD CX P w K mg base N qual scope f cd A outer s H E).ex:=fun b z=>absurd (show b∈([]:List Addr) from z) (by simp)
 refine ⟨⟨e0.mod,S.kind,rfl,rfl,yak _,fun y z c h1 h2=>?_,fun y hy=>?_,fun y c _ h=>?_,fun _=>hd,Around.frames_deeper e0.frames,.inr ⟨rfl,rfl⟩,fun b z=>absurd z (noA b),e0.bs,e0.bsz,fun b _ _=>noA b,fun b z=>absurd z (noA b),e0.funs,e0.frf⟩,
  rfl,e0.bare,Un.kept hk,⟨_,x.toInCall.ns,fun i y v h1 h2 h3=>?_⟩,fun y c h=>⟨_,x.cell y c h⟩,e0.hok.fresh (yak _),fun y c h=>?_,fun p hp=>absurd (show p∈([]:Z3) from hp) (by simp),e0.hok.kept hk,?_⟩
 ·exact name_of_addr x.apart (yaz h1) (yaz h2)
 ·have hy:scope.names.lookup y=some .cell\/scope.names.lookup y=some .free:=hy
  rcases hy with hy | hy
  ·exact zhS hy
  ·exact absurd rfl (S.nofree _ (yaz hy))
 ·exact ybI (x.above y c (yaz h))
 ·have hi:i<vs.length:=by
   unfold zeI at h2
   by_cases hi:i<vs.length
   ·exact hi
   ·rw [ybe (by simpa using hi)] at h2;rw [ybB] at h2
    split at h2<;>cases h2
  have ha:vs[i]?=some v:=by
   unfold zeI at h2;rw [ya4 (by simpa using hi),yav] at h2
   cases e:vs[i]? with
   | none=>rw [e] at h2;cases h2
   | some a=>rw [e] at h2;cases h2;rfl
  obtain ⟨u,hu,rv⟩:=r.get ha
  have hp:ps[i]?=some y:=by
   rw [<-S.pre,List.getElem?_take_of_lt (by omega)];exact h1
  have ndP:ps.Nodup:=by rw [<-S.pre];exact S.nd.sublist (List.take_sublist _ _)
  refine ⟨u,rv,?_⟩
  rcases S.par y (yaT hp) with k | k
  ·exact .inl ⟨k,zge ndP hp hu k⟩
  ·obtain ⟨c,e⟩:=zhS (n:=s.heap.objs.size+1) k;refine .inr ⟨.inl k,c,e,?_⟩;have q:=x.cell y c e;rw [zgg ndP hp hu (by show scope.names.lookup y≠_;rw [k];decide)] at q;exact q
 ·exact e0.hok.fresh (ybI (x.above y c (yaz h)))
 ·unfold zeI;show _=N.length;rw [yar,yac,yaL];omega
def ztB{CX:CXT}{P:Program}{w:World}{K:PySem.W.Frag}{mg:Z6}{base:Heap}{k:Nat}{f:Addr}{name qual:Str}{params:Arguments}{body:List Stmt}{scope:Scope}{dV kV doc pm cdv ct oc:Value}{an od:Option Addr}
  {osl:Array (Option Value)} {N ps:List Str} {sp:Sp} (lk:K.lookup f=some ⟨oc,od,.func (PySem.W.fnOf name qual params body scope dV kV doc pm an cdv ct),osl⟩) (hcd:PySem.W.codeIn K cdv qual=true) (S:FnScope N ps scope)
  (len:∀vs H Q E,sp vs H Q E->vs.length=ps.length)
  (hbody:∀(A:Around) (outer:List Env) (s:Shared) (H:Hp) (vs:List V) (Q:VK) (E:XK),Room k (A.deeper (envOfC qual scope s.heap.objs.size f cdv))->sp vs H Q E →
   ∃t,PSs (zkD CX P w K mg base N qual scope f cdv A outer s H E) body t/\t { nx:=fun _ H'=>Q .non H',rt:=Q } (zeI N vs) H) :
  FnOk P w K mg base CX (k+1) f (PySem.W.fnOf name qual params body scope dV kV doc pm an cdv ct) ps sp:=by
 refine ⟨len,fun A outer s H args us vs Q E hr e0 hb r hsp=>?_⟩;have hl:=len _ _ _ _ hsp;have KX:K.In s.heap:=e0.mod.kin.keeps fun b o e=>(e0.bs b o e).1
 have lim:s.heap.NoLimit:=e0.mod.nolimit.keeps fun b o e=>(e0.bs b o e).1
 have hkind:∀y∈ps.zip us,scope.names.lookup y.1=some .local\/(scope.names.lookup y.1=some .cell/\((cellsFrom (s.heap.objs.size+1) scope.names []).lookup y.1).isSome=true):=fun ⟨n,v⟩ hy=>by
  rcases S.par n (List.of_mem_zip hy).1 with q | q
  ·exact .inl q
  ·exact .inr ⟨q,PySem.W.cellsFrom_some _ _ _ (.inl q)⟩
 refine codeAny_call_function hr.depth (KX _ _ lk) rfl S.co S.gen rfl (PySem.W.codeRec_of KX hcd) (hb _ _ _ _ ?_);refine wpAny_newFunctionEnv_cells S.kind hkind fun env he s1 x=>?_
 subst he;refine ⟨lim.keeps x.toInCall.keep,codeAny_func ?_⟩;obtain ⟨t,ht,hq⟩:=hbody A outer s H vs Q E (hr.deeper _) hsp;have I:Inv (zkD CX P w K mg base N qual scope f cdv A outer s H E) [] (zeI N vs) H s1:=zjN S hr.hd e0 hl r x;refine ybk (ht [] s1 (zeI N vs) H _ I hq) (fun fl s' hs=>?_) fun e s' hs=>hs
 have fin:∀{σ':St} {H':Hp} {v:V} {u:Value},Inv (zkD CX P w K mg base N qual scope f cdv A outer s H E) [] σ' H' s'->zaI v u->Q v H'->CE outer P w H s Q u s' :=
  fun {σ' H' v u} J rv q=>⟨v,H',J.os,J.bare,J.base,J.hok,rv,q⟩
 cases fl with
 | ret u =>
  obtain ⟨v,σ',H',J,rv,q⟩:=hs;exact fin J rv q
 | next =>
  obtain ⟨σ',H',J,q⟩:=hs;exact fin (v:=V.non) (u:=Value.none) J rfl q
 | brk =>
  obtain ⟨_,_,_,q⟩:=hs;exact False.elim q
 | cont =>
  obtain ⟨_,_,_,q⟩:=hs;exact False.elim q
section
variable{X:Cx}{x:Str}{p pos:Pos}{e:Expr}{es:List Expr}{t:TA}{id T:String}{r:List V->Hp->VK->Prop}
noncomputable def tCB(r:List V->Hp->VK->Prop)(t:TA):TE:=fun σ H Q=>t σ H fun vs H1=>r vs H1 Q
def zcQ(hc:zb9 X (.builtin id) r)(hg:Gl X x)(hm:X.mg x=none)(hv:bootBuiltins x=some (.builtin id))(ha:PA X (e::es) t)(hn:x ≠ "__name__":=by decide)(hdb:(x == ("__debug__":Str))=false:=by decide)
  (he:starEach (e::es) X.env=(false,eval e X.env)::starEach es X.env:=by rfl) (hpl:(backTo pos (starEach es X.env)).any (·.1)=false:=by rfl):PE X (.Call (.Name x p) (e::es) [] pos) (tCB r t):=by
 intro pins s σ H Q I h;refine yb5 (zfT I hg hm hv ?_ hn hdb);exact PyProof.Rows.callWith_builtin1 (thn (ha pos pins s σ H _ I h) fun us s1 ⟨vs,H1,I1,r1,q1⟩=>hc pins s1 σ H1 vs us Q I1 r1 q1) he hpl
def zdS(hc:zb9 X (.type T) r)(hg:Gl X x)(hm:X.mg x=none)(hv:bootBuiltins x=some (.type T))(ha:PA X (e::es) t)(hn:x ≠ "__name__":=by decide)(hdb:(x == ("__debug__":Str))=false:=by decide)
  (he:starEach (e::es) X.env=(false,eval e X.env)::starEach es X.env:=by rfl) (hpl:(backTo pos (starEach es X.env)).any (·.1)=false:=by rfl):PE X (.Call (.Name x p) (e::es) [] pos) (tCB r t):=by
 intro pins s σ H Q I h;refine yb5 (zfT I hg hm hv ?_ hn hdb);exact ybJ (thn (ha pos pins s σ H _ I h) fun us s1 ⟨vs,H1,I1,r1,q1⟩=>hc pins s1 σ H1 vs us Q I1 r1 q1) he hpl
end
end L2
namespace HT
open PySem PyProof.Rows
section
open PySem.SeqAt
open PySem.AutoSeq1 (wpAny_loadPart')
open PySem.MeetsSeq PySem.MeetsSeq2 PySem.MeetsSeq3
end
section
variable{prog:Program}{w:World}{A:Around}{E:Z5}{s:Shared}
def zoI{t b:Addr}{vs ws:List Value}{Q:Z5}(ht:IsTup s.heap t vs.toArray)(hb:IsTup s.heap b ws.toArray)(hv:vs≠[])
  (h1:ws=[]->Q (.ref t) s) (h2:ws≠[]->Q (.ref s.heap.objs.size) { s with heap:=s.heap.push { cls:=.type "tuple",data:=.seq (vs++ws).toArray } })
  (hsz:vs.length+ws.length<=sizeLine):wpAny (model prog w) A (binaryOp .Add (.ref t) (.ref b)) Q E s:=by
 obtain ⟨⟨cls,dd,data,sl⟩,ho,hc,n,hd⟩:=id ht;obtain ⟨⟨cls2,dd2,data2,sl2⟩,ho2,hc2,n2,hd2⟩:=id hb;simp only at hc hd hc2 hd2;subst hc hd hc2 hd2
 have e:vs.toArray++ws.toArray=(vs++ws).toArray:=by simp
 by_cases hw:ws=[]
 ·exact concat_meets ⟨_,ho,rfl⟩ ⟨_,ho2,rfl⟩ noFill_tuple_add seq_tuple_add ycd yb6 (ybZ _ _)
   (tuple_addW1 t b vs.toArray ws.toArray n n2 dd dd2 sl sl2 (by simpa using hv) (by simp [hw])) ⟨ho,ho2,h1 hw⟩
 ·refine concat_meets ⟨_,ho,rfl⟩ ⟨_,ho2,rfl⟩ noFill_tuple_add seq_tuple_add ycd yb6 (ybZ _ _)
   (tuple_addW2 t b vs.toArray ws.toArray n n2 dd dd2 sl sl2 (by simpa using hv) (by simpa using hw) (by rw [yai,yai];exact hsz)) ⟨ho,ho2,?_⟩
  rw [e];exact h2 hw
noncomputable def sIx(n d:Nat):Option Int->Nat
 | none=>d
 | some v=>if v<0 then (v+(n:Int)).toNat else min v.toNat n
theorem zpV(n d:Nat)(hd:d<=n)(o:Option Int):sIx n d o<=n:=by
 cases o with
 | none=>exact hd
 | some v =>
  show (if v<0 then (v+(n:Int)).toNat else min v.toNat n)<=n
  by_cases hv:v<0
  ·rw [if_pos hv];omega
  ·rw [if_neg hv];exact Nat.min_le_right _ _
theorem zkn(v:Int)(n d:Nat):(if v<0 then max (v+(n:Int)) 0 else min v (n:Int))=((sIx n d (some v):Nat):Int):=by
 show (if v<0 then max (v+(n:Int)) 0 else min v (n:Int))=(((if v<0 then (v+(n:Int)).toNat else min v.toNat n):Nat):Int)
 by_cases hv:v<0
 ·simp only [if_pos hv];omega
 ·simp only [if_neg hv];omega
theorem ziw(lo hi:Option Int)(n:Nat):Builtin.Slice.sliceAdjust lo hi 1 (n:Int)=(((sIx n 0 lo:Nat):Int),((sIx n n hi:Nat):Int)):=by
 have h1:¬ ((1:Int)<0):=by omega
 unfold Builtin.Slice.sliceAdjust;simp only [h1,ybC];refine Prod.ext ?_ ?_
 ·cases lo with
  | none=>rfl
  | some v=>exact zkn v n 0
 ·cases hi with
  | none=>rfl
  | some v=>exact zkn v n n
theorem zib(i j:Nat):Builtin.Slice.slicePlaces (i:Int) (j:Int) 1=j-i:=by
 unfold Builtin.Slice.slicePlaces
 have h1:(1:Int) > 0:=by omega
 simp only [h1,ybK,Int.ediv_one]
 split<;>omega
def zeh(p:IsPart v o)(h:Q o s):wpAny (model prog w) A (Builtin.Slice.slicePartIndex v) Q E s:=by
 cases p with
 | none=>exact slicePart_none h
 | int i t=>exact slicePart_int h
def zca{sl:Addr}{vl vu:Value}{lo hi:Option Int}{n:Nat}{Q:Int×Int×Nat->Shared->Prop}(hs:s.heap.IsSliceOf sl vl vu .none)(pl:IsPart vl lo)(pu:IsPart vu hi)
  (h:Q (((sIx n 0 lo:Nat):Int),1,sIx n n hi-sIx n 0 lo) s):wpAny (model prog w) A (Builtin.Slice.sliceApplied (.ref sl) (pure (n:Int))) Q E s:=by
 obtain ⟨os,hos,hcs,hds⟩:=id hs;unfold Builtin.Slice.sliceApplied Builtin.Slice.sliceFields;refine yaa (yaa (ybw hos hds (x:=vl) rfl (yaa (ybw hos hds (x:=vu) rfl (yaa (ybw hos hds (x:=.none) rfl (yaf ?_)))))));refine yaa (slicePart_none ?_);show wpAny _ _ (if ((1:Int) == 0)=true then _ else _) _ _ s;rw [if_neg (by decide)];refine yaa (zeh pl (yaa (zeh pu (yaa (yaf ?_)))));show wpAny _ _ (match Builtin.Slice.sliceAdjust lo hi 1 (n:Int) with | (lo,hi)=>pure (lo,(1:Int),Builtin.Slice.slicePlaces lo hi 1)) _ _ s;rw [ziw lo hi n];show wpAny _ _ (pure (((sIx n 0 lo:Nat):Int),(1:Int),Builtin.Slice.slicePlaces ((sIx n 0 lo:Nat):Int) ((sIx n n hi:Nat):Int) 1)) _ _ s;rw [zib];exact yaf h
theorem zld(xs:Array Value)(i k:Nat):((List.range k).filterMap fun (m:Nat)=>xs[((i:Int)+(m:Int)*1).toNat]?).toArray=((xs.toList.drop i).take k).toArray:=by
 have e:(fun (m:Nat)=>xs[((i:Int)+(m:Int)*1).toNat]?)=fun m=>xs[i+m]?:=by
  funext m
  have:((i:Int)+(m:Int)*1).toNat=i+m:=by omega
  rw [this]
 rw [e];have:=pick_run xs i k;rw [List.filterMap_map] at this;have e2:((fun x=>xs[x]?)∘fun x=>i+x)=fun m=>xs[i+m]?:=rfl
 rw [e2] at this;rw [this]
theorem zdb{t sl:Addr}{items:Array Value}{vl vu:Value}{lo hi:Option Int}{Q:Z5}(ht:IsTup s.heap t items)(hs:s.heap.IsSliceOf sl vl vu .none)(pl:IsPart vl lo)(pu:IsPart vu hi)
  (hw:¬ (sIx items.size 0 lo=0/\sIx items.size items.size hi=items.size))
  (h:Q (.ref s.heap.objs.size) { s with heap:=s.heap.push { cls:=.type "tuple",data:=.seq ((items.toList.drop (sIx items.size 0 lo)).take (sIx items.size items.size hi-sIx items.size 0 lo)).toArray } })
  (hsz:items.size<=sizeLine):wpAny (model prog w) A (getItem (.ref t) (.ref sl)) Q E s:=by
 have htake:sizeOk (.seq ((items.toList.drop (sIx items.size 0 lo)).take (sIx items.size items.size hi-sIx items.size 0 lo)).toArray):=by
  show ((items.toList.drop (sIx items.size 0 lo)).take (sIx items.size items.size hi-sIx items.size 0 lo)).toArray.size<=sizeLine;rw [yai,ybd,yco,yaM];omega
 have hj:sIx items.size items.size hi<=items.size:=zpV _ _ (yak _) hi;obtain ⟨os,hos,hcs,hds⟩:=id hs;have hTs:s.TypeIs (.ref sl) "slice":=⟨os,hos,hcs⟩;unfold getItem
 try with_reducible refine yba ?_
 first | refine yaa (yaf ?_) | skip
 refine yaa (wpAny_sequenceKey ht.typeIs (by decide) ?_)
 refine yaa (ybb (name:=Str.ofString "__getitem__") ht.typeIs yaO
  (ybq yaO ht.typeIs entry_tuple_getitem ?_ (args_tuple_getitem _ _)))
 show wpAny _ _ (Builtin.Tuple.tupleItemsOf (.ref t) >>= _) _ _ s;refine yaa (tupleItemsOf_ ht ?_);refine yaa (yci hTs ?_);rw [if_pos (by decide)];refine yaa (zca hs pl pu ?_)
 have hno:¬ ((((sIx items.size 0 lo:Nat):Int) == 0&&(1:Int) == 1&&(sIx items.size items.size hi-sIx items.size 0 lo) == items.size)=true):=by
  intro q;rw [yab,yab] at q;have q1:((sIx items.size 0 lo:Nat):Int)=0:=eq_of_beq q.1.1;have q2:sIx items.size items.size hi-sIx items.size 0 lo=items.size:=eq_of_beq q.2;exact hw ⟨by omega,by omega⟩
 show wpAny _ _ (if (((sIx items.size 0 lo:Nat):Int) == 0&&(1:Int) == 1&&(sIx items.size items.size hi-sIx items.size 0 lo) == items.size)=true then _ else _) _ _ s;rw [if_neg hno,zld]
 first
  | exact yaa (m:=Builtin.Tuple.tupleExact _) (ybf (yaf ⟨_,rfl,yaf h⟩) htake)
  | exact yaa (m:=Builtin.Tuple.tupleExact _) (ybf (yaa (yaf (yaf ⟨_,rfl,yaf h⟩))) htake)
  | exact yaa (yaa (m:=Builtin.Tuple.tupleExact _) (ybf (yaf (yaf ⟨_,rfl,yaf h⟩)) htake))
  | exact yaa (yaa (m:=Builtin.Tuple.tupleExact _) (ybf (yaf ⟨_,rfl,yaf h⟩) htake))
end
end HT
namespace L2
open PySem PySem.Spec PyProof.Rows
noncomputable abbrev TO:=St->Hp->(Option Int->Hp->Prop)->Prop
noncomputable def PO(X:Cx)(e:Option Expr)(t:TO):Prop :=
 ∀(pins:Z3) (s:Shared) (σ:St) (H:Hp) (Q:Option Int->Hp->Prop),Inv X pins σ H s->t σ H Q →
  wpAny (model X.prog X.w) X.A (evalPart e X.env) (fun u s'=>∃o H',Inv X pins σ H' s'/\IsPart u o/\Q o H') X.xe s
noncomputable def ziM:TO:=fun _ H Q=>Q none H
noncomputable def zpi(t:TE):TO:=fun σ H Q=>t σ H fun x H1=>∃i,x=.int i/\Q (some i) H1
section
variable{X:Cx}{e:Expr}{te:TE}{lo hi:Option Expr}{tl th:TO}{pos p2:Pos}
def znI:PO X none ziM:=by
 intro pins s σ H Q I h;rw [evalPart_none];exact yaf ⟨none,H,I,.none,h⟩
def znH(h:PE X e te):PO X (some e) (zpi te):=by
 intro pins s σ H Q I hw;rw [evalPart_some];refine thn (h pins s σ H _ I hw) fun u s1 ⟨x,H1,I1,r1,q1⟩=>?_
 obtain ⟨i,rfl,q⟩:=q1;obtain ⟨t,rfl⟩:=r1;exact ⟨some i,H1,I1,.int i t,q⟩
noncomputable def SlR(X:Cx)(r:V->Option Int->Option Int->Hp->VK->Prop):Prop :=
 ∀(pins:Z3) (s:Shared) (σ:St) (H:Hp) (x:V) (v vl vu:Value) (lo hi:Option Int) (sl:Addr) (Q:VK),Inv X pins σ H s->zaI x v->s.heap.IsSliceOf sl vl vu .none->IsPart vl lo->IsPart vu hi->r x lo hi H Q →
  ∃T id,typeLookup (.type T) "__getitem__" = pure (some (.builtin id))/\s.TypeIs v T/\wpAny (model X.prog X.w) X.A (getItem v (.ref sl)) (EP X pins σ Q) X.xe s
noncomputable def tSl(r:V->Option Int->Option Int->Hp->VK->Prop)(te:TE)(tl th:TO):TE:=fun σ H Q=>te σ H fun x H1=>tl σ H1 fun l H2=>th σ H2 fun u H3=>r x l u H3 Q
def zlf(hr:SlR X r)(he:PE X e te)(hl:PO X lo tl)(hu:PO X hi th):PE X (.Subscript e (.Slice lo hi none p2) pos) (tSl r te tl th):=by
 intro pins s σ H Q I h;refine Subscript_ (thn (he pins s σ H _ I h) fun v s1 ⟨x,H1,I1,r1,q1⟩=>?_);refine wpAny_Slice (thn (hl pins s1 σ H1 _ I1 q1) fun vl s2 ⟨l,H2,I2,pl,q2⟩=>thn (hu pins s2 σ H2 _ I2 q2) fun vu s3 ⟨u,H3,I3,pu,q3⟩=>?_);rw [evalPart_none];refine yaf ?_;have I4:Inv X pins σ H3 { s3 with heap:=s3.heap.push { cls:=.type "slice",data:=.fields #[vl,vu,.none] } }:=I3.kept (t':=s3.toks) fun b ob q=>yae _ q
 obtain ⟨T,id,hT,ht,hg⟩:=hr pins { s3 with heap:=s3.heap.push { cls:=.type "slice",data:=.fields #[vl,vu,.none] } } σ H3 x v vl vu l u s3.heap.objs.size Q I4 r1 (Heap.IsSliceOf.new ..) pl pu q3;show wpAny (model X.prog X.w) X.A (subscriptTail e (.Slice lo hi none p2) v (.ref s3.heap.objs.size)) (EP X pins σ Q) X.xe { s3 with heap:=s3.heap.push { cls:=.type "slice",data:=.fields #[vl,vu,.none] } };exact tail_any (ops:=[.ref s3.heap.objs.size,v]) ht hT hg (by with_unfolding_all rfl)
def zmM(xs:List V)(lo hi:Option Int):List V:=(xs.drop (HT.sIx xs.length 0 lo)).take (HT.sIx xs.length xs.length hi-HT.sIx xs.length 0 lo)
theorem zd7(xs:List V)(lo hi:Option Int):(zmM xs lo hi).length<=xs.length:=by
 unfold zmM;rw [ybd,yco];omega
noncomputable def zvX(K:PySem.W.Frag):V->Option Int->Option Int->Hp->VK->Prop:=fun x lo hi H Q=>∃a xs,x=.ref a/\SqT K H a xs ∧
 ¬ (HT.sIx xs.length 0 lo=0/\HT.sIx xs.length xs.length hi=xs.length)/\∀p,H p=none->Q (.ref p) (upd H p (.tup (zmM xs lo hi)))
def zpD:SlR X (zvX X.K):=by
 intro pins s σ H x v vl vu lo hi sl Q I rx hs pl pu h;obtain ⟨a,xs,rfl,hx,hw,q⟩:=h;cases rx;obtain ⟨its,r,ht,hz⟩:=I.tuple hx
 have hlen:its.toArray.size=xs.length:=by rw [yai];exact r.length.symm
 refine ⟨"tuple",_,yaO.lookup,ht.typeIs,?_⟩;refine HT.zdb ht hs pl pu (by rw [hlen];exact hw) ?_ (by rw [hlen];exact hz);rw [hlen];refine ⟨.ref s.heap.objs.size,_,I.laid (t':=s.toks) (o:=.tup (zmM xs lo hi)) (fun b ob q=>yae _ q) (yak _) ?_,rfl,q _ (I.hok.fresh (yak _))⟩;exact ⟨yaw (zd7 xs lo hi) hz,_,(r.drop (HT.sIx xs.length 0 lo)).take (HT.sIx xs.length xs.length hi-HT.sIx xs.length 0 lo),zmU.new _ _⟩
noncomputable def zsW(K:PySem.W.Frag):R2:=fun x y H Q=>∃a b xs ys,x=.ref a/\y=.ref b/\SqT K H a xs/\SqT K H b ys/\xs≠[]/\xs.length+ys.length<=sizeLine ∧
 (ys=[]->Q (.ref a) H)/\(ys≠[]->∀p,H p=none->Q (.ref p) (upd H p (.tup (xs++ys))))
def Vals.nil_iff(r:Vals xs us):us=[]↔xs=[]:=by
 cases r with
 | nil=>simp
 | cons _ _=>simp
def znU:OpR X (binaryOp .Add) (zsW X.K):=by
 intro pins s σ H x y v u Q I rx ry h;obtain ⟨a,b,xs,ys,rfl,rfl,ha,hb,hx,hz,q1,q2⟩:=h;cases rx;cases ry;obtain ⟨its,r1,p1,_⟩:=I.tuple ha;obtain ⟨its2,r2,p2,_⟩:=I.tuple hb;refine HT.zoI p1 p2 (fun z=>hx (r1.nil_iff.mp z)) (fun z=>⟨.ref a,H,I,rfl,q1 (r2.nil_iff.mp z)⟩) (fun z=>?_) (by rw [<-r1.length,<-r2.length];exact hz);refine ⟨.ref s.heap.objs.size,_,I.laid (t':=s.toks) (o:=.tup (xs++ys)) (fun b ob q=>yae _ q) (yak _) ?_,rfl,q2 (fun w=>z (r2.nil_iff.mpr w)) _ (I.hok.fresh (yak _))⟩;exact ⟨by rw [yar];exact hz,_,r1.append r2,zmU.new _ _⟩
end
noncomputable def ixN(n:Nat)(i:Int):Option Nat:=if 0<=i then (if i<n then some i.toNat else none) else if -(n:Int)<=i then some (i+n).toNat else none
def atI{α:Type}(xs:List α)(i:Int):Option α:=(ixN xs.length i).bind fun j=>xs[j]?
theorem zoo(h:ixN n i=some j):seqIndex? i n=some j/\j<n/\-(n:Int)<=i/\i<n:=by
 unfold ixN at h
 by_cases h0:0<=i
 ·rw [if_pos h0] at h
  by_cases h1:i<n
  ·rw [if_pos h1] at h;have e:i.toNat=j:=Option.some.inj h;exact ⟨by rw [seqIndex_of h0 h1,e],by omega,by omega,h1⟩
  ·rw [if_neg h1] at h;cases h
 ·rw [if_neg h0] at h
  by_cases h1:-(n:Int)<=i
  ·rw [if_pos h1] at h;have e:(i+n).toNat=j:=Option.some.inj h;exact ⟨by rw [seqIndex_neg (by omega) h1,e],by omega,h1,by omega⟩
  ·rw [if_neg h1] at h;cases h
def zg3{α:Type}{xs:List α}{v:α}(h:atI xs i=some v):∃j,seqIndex? i xs.length=some j/\xs[j]?=some v/\j<xs.length/\-(xs.length:Int)<=i/\i<xs.length:=by
 unfold atI at h
 cases e:ixN xs.length i with
 | none=>rw [e] at h;cases h
 | some j =>
  rw [e] at h;obtain ⟨h1,h2,h3,h4⟩:=zoo e;exact ⟨j,h1,h,h2,h3,h4⟩
noncomputable def zg4(b:Expr):Prop:=∀o i,subscripted b false o i=operate [o,i] (getItem o i)
noncomputable def IxR(X:Cx)(r:R2):Prop :=
 ∀(value slice:Expr) (pins:Z3) (s:Shared) (σ:St) (H:Hp) (x y:V) (v u:Value) (Q:VK),Inv X pins σ H s->zaI x v->zaI y u->r x y H Q →
  subscripted slice false v u=operate [v,u] (getItem v u)->wpAny (model X.prog X.w) X.A (subscriptTail value slice v u) (EP X pins σ Q) X.xe s
noncomputable def MtR(X:Cx)(id:String)(r:V->List V->Hp->VK->Prop):Prop :=
 ∀(pins:Z3) (s:Shared) (σ:St) (H:Hp) (x:V) (xs:List V) (v:Value) (us:List Value) (Q:VK),Inv X pins σ H s->zaI x v->Vals xs us->r x xs H Q →
  wpAny (model X.prog X.w) X.A (call (.builtin id) (v::us)) (EP X pins σ Q) X.xe s
section
variable{X:Cx}{a b:Expr}{ta tb:TE}{pos:Pos}
def zs2(hr:IxR X r)(ha:PE X a ta)(hb:PE X b tb)(hs:zg4 b):PE X (.Subscript a b pos) (tOp r ta tb):=by
 intro pins s σ H Q I h;exact Subscript_ (ztK ha hb I h fun v u s2 x y H2 I2 rx ry q=>hr a b pins s2 σ H2 x y v u Q I2 rx ry q (hs _ _))
noncomputable def zv2(K:PySem.W.Frag):R2:=fun x y H Q=>∃p xs i v,x=.ref p/\y=.int i/\SqL K H p xs/\atI xs i=some v/\Q v H
noncomputable def zv0(K:PySem.W.Frag):R2:=fun x y H Q=>∃p xs i v,x=.ref p/\y=.int i/\SqT K H p xs/\atI xs i=some v/\Q v H
noncomputable def zv1:R2:=fun x y H Q=>∃z i c,x=.str z/\y=.int i/\z.length<=sizeLine/\atI z.cps.toList i=some c/\Q (.str ⟨#[c]⟩) H
theorem zjJ:IxR X (zv2 X.K):=by
 intro value slice pins s σ H x y v u Q I rx ry h hs;obtain ⟨p,xs,i,z,rfl,rfl,hq,he,q⟩:=h;cases rx;obtain ⟨t,rfl⟩:=ry;obtain ⟨its,r,pl,hz⟩:=I.list hq;obtain ⟨j,h1,h2,h3,h4,h5⟩:=zg3 he;obtain ⟨w,ew,rw'⟩:=r.get h2;have hl:=r.length;have hn:=zfR;have fin:EP X pins σ Q w s:=⟨z,H,I,rw',q⟩
 by_cases h0:0<=i
 ·have hj:i.toNat=j:=by
   rw [seqIndex_of h0 h5] at h1;exact Option.some.inj h1
  exact item_listR pl.isList h0 (by omega) (by rw [hj];simpa using ew) fin hs
 ·have hj:(i+(its.toArray.size:Int)).toNat=j:=by
   rw [seqIndex_neg (by omega) h4] at h1;rw [yai,<-hl];exact Option.some.inj h1
  exact subscriptTail_builtinR (x:=w) pl.isList.typeIs slot_list_getitem.lookup
   (wpAny_getItem_list_neg (Q:=fun r s'=>r=w/\EP X pins σ Q r s') pl.isList (by omega) (by rw [yai]<;>omega) (by omega) (by rw [hj];simpa using ew) ⟨rfl,fin⟩) hs
theorem zq5:IxR X (zv0 X.K):=by
 intro value slice pins s σ H x y v u Q I rx ry h hs;obtain ⟨p,xs,i,z,rfl,rfl,hq,he,q⟩:=h;cases rx;obtain ⟨t,rfl⟩:=ry;obtain ⟨its,r,pl,hz⟩:=I.tuple hq;obtain ⟨j,h1,h2,h3,h4,h5⟩:=zg3 he;obtain ⟨w,ew,rw'⟩:=r.get h2;have hl:=r.length;have hn:=zfR;have fin:EP X pins σ Q w s:=⟨z,H,I,rw',q⟩
 exact subscriptTail_builtinR (x:=w) pl.typeIs slot_tuple_getitem.lookup
  (getItem_tuple (j:=j) (Q:=fun r s'=>r=w/\EP X pins σ Q r s') pl (by omega) (by omega) (by rw [yai,<-hl];exact h1) (by simpa using ew) ⟨rfl,fin⟩) hs
def zq6:IxR X zv1:=by
 intro value slice pins s σ H x y v u Q I rx ry h hs;obtain ⟨z,i,c,rfl,rfl,hz,he,q⟩:=h;obtain ⟨t,rfl⟩:=rx;obtain ⟨t',rfl⟩:=ry;obtain ⟨j,h1,h2,h3,h4,h5⟩:=zg3 he
 have hl:z.cps.toList.length=z.length:=by simp [Str.length]
 rw [hl] at h1 h4 h5;have hn:=zfR
 exact tail_any (yb0 s z t) slot_str_getitem.lookup (getItem_str (c:=c) (by
  have e1:decide (i < -(2 ^ 63:Int))=false:=yaW (by omega);have e2:decide (i ≥ 2 ^ 63)=false:=yaW (by omega)
  rw [e1,e2,Bool.or_false]) (by rw [h1];simpa using h2) ⟨.str ⟨#[c]⟩,H,I.tok _,⟨_,rfl⟩,q⟩) hs
theorem zfv(lo hi:Option Int)(n:Nat):(sliceBounds lo hi none n).1=((HT.sIx n 0 lo:Nat):Int)/\(sliceBounds lo hi none n).2.1=((HT.sIx n n hi:Nat):Int)/\(sliceBounds lo hi none n).2.2=1:=by
 refine ⟨?_,?_,rfl⟩
 ·cases lo with
  | none=>simp [sliceBounds,HT.sIx]
  | some i =>
   simp only [sliceBounds,HT.sIx,Option.getD_none,show (1:Int) > 0 by decide,ybK]
   by_cases h:i<0
   ·simp only [h,ybK]<;>omega
   ·simp only [h,ybC]<;>omega
 ·cases hi with
  | none=>simp [sliceBounds,HT.sIx]
  | some i =>
   simp only [sliceBounds,HT.sIx,Option.getD_none,show (1:Int) > 0 by decide,ybK]
   by_cases h:i<0
   ·simp only [h,ybK]<;>omega
   ·simp only [h,ybC]<;>omega
def zeL(its:List Value)(lo hi:Option Int):slicePick its.toArray lo hi none=((its.drop (HT.sIx its.length 0 lo)).take (HT.sIx its.length its.length hi-HT.sIx its.length 0 lo)).toArray:=by
 obtain ⟨h1,h2,h3⟩:=zfv lo hi its.toArray.size;unfold slicePick;rw [h1,h2,h3]
 simp only [sliceRange_one,pick_run,yai]<;>rfl
noncomputable def zvY(K:PySem.W.Frag):V->Option Int->Option Int->Hp->VK->Prop:=fun x lo hi H Q=>∃a xs,x=.ref a/\SqL K H a xs/\∀p,H p=none->Q (.ref p) (upd H p (.lst (zmM xs lo hi)))
theorem znm:SlR X (zvY X.K):=by
 intro pins s σ H x v vl vu lo hi sl Q I rx hs pl pu h;obtain ⟨a,xs,rfl,hx,q⟩:=h;cases rx;obtain ⟨its,r,ht,hz⟩:=I.list hx;have hlen:=r.length;refine ⟨"list",_,slot_list_getitem.lookup,ht.isList.typeIs,?_⟩;refine wpAny_getItem_list_slice ht.isList hs pl pu .none (by simp) ?_ (by rw [yai]<;>omega);rw [zeL,<-hlen];refine ⟨.ref s.heap.objs.size,_,I.laid (t':=s.toks) (o:=.lst (zmM xs lo hi)) (fun b ob q=>yae _ q) (yak _) ?_,rfl,q _ (I.hok.fresh (yak _))⟩;exact ⟨yaw (zd7 xs lo hi) hz,_,0,(r.drop (HT.sIx xs.length 0 lo)).take (HT.sIx xs.length xs.length hi-HT.sIx xs.length 0 lo),yat _ rfl⟩
theorem zcp:zb9 X (.builtin "len") (fun xs H Q=>∃p ys,xs=[.ref p]/\(SqL X.K H p ys\/SqT X.K H p ys)/\Q (.int ys.length) H):=by
 intro pins s σ H xs us Q I r h;obtain ⟨p,ys,rfl,hq,q⟩:=h;obtain ⟨u,rfl,rx⟩:=zdx r;cases rx;have hn:=zfR
 rcases hq with hq | hq
 ·obtain ⟨its,r',pl,hz⟩:=I.list hq;have hlen:=r'.length;exact Calls.call_len_list pl.isList (by simp only [yai]<;>omega) ⟨.int ys.length,H,I.tok _,⟨s.toks+1,by rw [yai,hlen]⟩,q⟩
 ·obtain ⟨its,r',pl,hz⟩:=I.tuple hq;have hlen:=r'.length;exact len_tuple pl (by simp only [yai]<;>omega) ⟨.int ys.length,H,I.tok _,⟨s.toks+1,by rw [yai,hlen]⟩,q⟩
theorem zf8:zb9 X (.builtin "len") (fun xs H Q=>∃z,xs=[.str z]/\z.length<=sizeLine/\Q (.int z.length) H):=by
 intro pins s σ H xs us Q I r h;obtain ⟨z,rfl,hz,q⟩:=h;obtain ⟨u,rfl,t,rfl⟩:=zdx r;have hn:=zfR;exact len_str (by omega) ⟨.int z.length,H,I.tok _,⟨_,rfl⟩,q⟩
def zdw:zb9 X (.type "list") (fun xs H Q=>∃p ys,xs=[.ref p]/\(SqL X.K H p ys\/SqT X.K H p ys)/\∀l,H l=none->Q (.ref l) (upd H l (.lst ys))):=by
 intro pins s σ H xs us Q I r h;obtain ⟨p,ys,rfl,hq,q⟩:=h;obtain ⟨u,rfl,rx⟩:=zdx r;cases rx
 have fin:∀(its:List Value),Vals ys its->ys.length<=sizeLine->∀(h':Heap) (c':Nat),(∀b o',s.heap.get? b=some o'->h'.get? b=some o') →
   h'.get? s.heap.objs.size=some { cls:=.type "list",dict:=none,data:=.seq its.toArray c',slots:=#[] }->EP X pins σ Q (.ref s.heap.objs.size) { s with heap:=h' }:=fun its r' hz h' c' kp e =>
  ⟨.ref s.heap.objs.size,_,I.laid (t':=s.toks) kp (yak _) (show zaG X.prog X.w _ h' _ (.lst ys) from ⟨hz,its,c',r',e⟩),rfl,q _ (I.hok.fresh (yak _))⟩
 rcases hq with hq | hq
 ·obtain ⟨its,r',pl,hz⟩:=I.list hq;have hlen:=r'.length;obtain ⟨o,ho,hc,n,hd⟩:=pl.isList;exact call_list_seq p (.inl rfl) ho hc hd (fun h' c' kp e=>fin its r' hz h' c' kp e) (by simp only [yai]<;>omega)
 ·obtain ⟨its,r',pl,hz⟩:=I.tuple hq;have hlen:=r'.length;obtain ⟨o,ho,hc,n,hd⟩:=pl;exact call_list_seq p (.inr rfl) ho hc hd (fun h' c' kp e=>fin its r' hz h' c' kp e) (by simp only [yai]<;>omega)
theorem zc1:zb9 X (.type "tuple") (fun xs H Q=>∃p ys,xs=[.ref p]/\((SqL X.K H p ys/\∀l,H l=none->Q (.ref l) (upd H l (.tup ys)))\/(SqT X.K H p ys/\Q (.ref p) H))):=by
 intro pins s σ H xs us Q I r h;obtain ⟨p,ys,rfl,h⟩:=h;obtain ⟨u,rfl,rx⟩:=zdx r;cases rx
 rcases h with ⟨hq,q⟩ | ⟨hq,q⟩
 ·obtain ⟨its,r',pl,hz⟩:=I.list hq;have hlen:=r'.length;refine call_tuple_list pl.isList (fun h' kp=>?_) (by simp only [yai]<;>omega);have I1:Inv X pins σ H { s with heap:=h' }:=I.kept (t':=s.toks) kp
  have I2:Inv X pins σ (upd H h'.objs.size (.tup ys)) { s with heap:=h'.push { cls:=.type "tuple",data:=.seq its.toArray } } :=
   I1.laid (t':=s.toks) (fun b o e=>yae _ e) (yak _) (show zaG X.prog X.w _ _ _ (.tup ys) from ⟨hz,its,r',zmU.new _ _⟩)
  exact ⟨.ref h'.objs.size,_,I2,rfl,q _ (I1.hok.fresh (yak _))⟩
 ·obtain ⟨its,r',pl,hz⟩:=I.tuple hq;exact call_tuple_same pl ⟨.ref p,H,I,rfl,q⟩
noncomputable def tyV(K:PySem.W.Frag)(T:String)(x:V)(H:Hp):Prop:=match x with
 | .str _=>T = "str"
 | .int _=>T = "int"
 | .ref p=>(T = "list" /\ ∃xs,SqL K H p xs)\/(T = "tuple" /\ ∃o,K.lookup p=some o/\o.cls=.type "tuple" /\ o.dict=none) ∨
   (T = "dict" /\ ((∃kvs,H p=some (.dK kvs))\/∃kvs,H p=some (.dT kvs)))\/(T = "set" /\ ∃S n,H p=some (.set S n))
 | _=>False
def zo7(I:Inv X pins σ H s)(r:zaI x v)(ty:tyV X.K T x H) :
  s.TypeIs v T/\∀a,v=.ref a->∃ob,s.heap.get? a=some ob/\ob.dict=none:=by
 cases x with
 | str z =>
  obtain ⟨t,rfl⟩:=r;cases (show T = "str" from ty);exact ⟨yb0 s z t,fun _ e=>nomatch e⟩
 | int i =>
  obtain ⟨t,rfl⟩:=r;cases (show T = "int" from ty);exact ⟨typeIs_int s i t,fun _ e=>nomatch e⟩
 | ref p =>
  cases r
  rcases ty with ⟨rfl,xs,hq⟩ | ⟨rfl,o,hk,hc,hd⟩ | ⟨rfl,hk⟩ | ⟨rfl,S,n,hk⟩
  ·obtain ⟨its,_,pl,_⟩:=I.list hq;refine ⟨pl.isList.typeIs,fun a e=>?_⟩;cases e;obtain ⟨o,n,e,c,hd,_⟩:=pl;exact ⟨o,e,hd⟩
  ·refine ⟨⟨o,I.kIn p o hk,hc⟩,fun a e=>?_⟩;cases e;exact ⟨o,I.kIn _ o hk,hd⟩
  ·have z:∃o,s.heap.get? p=some o/\o.ExactDict:=by
    rcases hk with ⟨kvs,hk⟩ | ⟨kvs,hk⟩
    ·obtain ⟨_,_,_,_,o,_,_,e,ex,_⟩:=I.hok p _ hk;exact ⟨o,e,ex⟩
    ·obtain ⟨_,_,_,_,o,_,_,e,ex,_⟩:=I.hok p _ hk;exact ⟨o,e,ex⟩
   obtain ⟨o,e,ex⟩:=z;refine ⟨⟨o,e,ex.1⟩,fun a e2=>?_⟩;cases e2;exact ⟨o,e,ex.2.1⟩
  ·obtain ⟨o,_,_,_,e,ex,_⟩:=I.hok p _ hk;refine ⟨⟨o,e,ex.1⟩,fun a e2=>?_⟩;cases e2;exact ⟨o,e,ex.2.1⟩
 | _=>exact False.elim ty
noncomputable def tBM(K:PySem.W.Frag)(T:String)(r:V->List V->Hp->VK->Prop)(to:TE)(t:TA):TE:=fun σ H Q=>to σ H fun x H1=>tyV K T x H1/\t σ H1 fun xs H2=>r x xs H2 Q
variable{o e:Expr}{es:List Expr}{to:TE}{t:TA}{name:Str}{apos cpos:Pos}{T id:String}{r:V->List V->Hp->VK->Prop}
def zlm(pa:PlainAttrs T)(slot:Slot T name id)(hty:typeOf (.builtin id)=pure (.type "method_descriptor"))(hm:MtR X id r)(ho:PE X o to)(ha:PA X (e::es) t)
  (hbase:attributeBase o name X.env (eval o X.env)=eval o X.env:=by rfl)
  (hfew:((backTo cpos (starEach (e::es) X.env)).all (fun x=>!x.1)&&(backToKw cpos (keywordEach [] X.env)).all (fun x=>x.1.isSome)
   && decide ((e::es).length+([]:List Keyword).length+(if ([]:List Keyword).isEmpty then 0 else 1)<30))=true:=by rfl)
  (hline:(apos.endLine == cpos.line)=true:=by rfl) (hs:starEach (e::es) X.env=(false,eval e X.env)::starEach es X.env:=by rfl) (hplain:(backTo cpos (starEach es X.env)).any (·.1)=false:=by rfl) :
  PE X (.Call (.Attribute o name apos) (e::es) [] cpos) (tBM X.K T r to t):=by
 intro pins s σ H Q I h;refine wpAny_Call_method_late hbase hfew hline rfl (thn (ho pins s σ H _ I h) fun v s1 ⟨x,H1,I1,r1,ty,q1⟩=>?_);obtain ⟨h1,h2⟩:=zo7 I1 r1 ty;refine ⟨T,id,pa,slot,hty,h1,h2,?_⟩;have hA:=ha cpos pins s1 σ H1 _ I1 q1;rw [hs] at hA ⊢;refine Calls.callWith_builtin (by show (false||(backTo cpos (starEach es X.env)).any (·.1))=false;rw [hplain]<;>rfl) (ycr ?_);exact thn hA fun us s2 ⟨vs,H2,I2,r2,q2⟩=>hm pins s2 σ H2 x vs v us Q I2 r1 r2 q2
end
noncomputable def MtM(X:Cx)(id:String)(r:V->List V->Hp->VK->Prop):Prop :=
 ∀(pins:Z3) (s:Shared) (σ:St) (H:Hp) (x:V) (xs:List V) (v:Value) (us:List Value) (Q:VK),Inv X pins σ H s->zaI x v->Vals xs us->r x xs H Q →
  wpAny (model X.prog X.w) X.A (call (.builtin id) (v::us)) (EP X pins σ Q) X.xe s
theorem Vals.one:∀{x:V} {us:List Value},Vals [x] us->∃u,us=[u]/\zaI x u
 | _,_,.cons r .nil=>⟨_,rfl,r⟩
theorem Vals.rep(h:Vals xs us):∀k:Nat,Vals (List.replicate k xs).flatten (List.replicate k us).flatten
 | 0=>.nil
 | k+1=>by
  rw [ya6,ya6,ya1,ya1];exact Vals.append h (Vals.rep h k)
theorem zf0(its:List Value):∀(k:Nat) (acc:List Value),
  List.foldl (fun x1 x2=>x1++x2) acc.toArray (List.replicate k its.toArray)=(acc++(List.replicate k its).flatten).toArray
 | 0,acc=>by simp
 | k+1,acc=>by
  have e:acc.toArray++its.toArray=(acc++its).toArray:=by simp
  have e2:(acc++its)++(List.replicate k its).flatten=acc++(List.replicate (k+1) its).flatten:=by
   rw [ya6,ya1,ybg]
  rw [<-e2,<-zf0 its k (acc++its),<-e,ya6,yby]
section
variable{X:Cx}{pins:Z3}{σ:St}{H:Hp}{s:Shared}{l b:Addr}{xs ys zs:List V}
def Inv.lset{its its':List Value}{n:Nat}{f:Array Value->Array Value}{t':Nat}(I:Inv X pins σ H s)(hH:H l=some (.lst xs))
  (e:s.heap.get? l=some { cls:=.type "list",data:=.seq its.toArray n }) (hf:f its.toArray=its'.toArray) (hv:Vals ys its') (hz:ys.length<=sizeLine) :
  Inv X pins σ (upd H l (.lst ys)) { s with heap:=s.heap.update l (Obj.mapSeq f),toks:=t' }:=by
 have q:=PySem.IsL.update e f;rw [hf] at q;refine I.write (x:=l) (e:=l) (by rw [hH];exact trivial) (.inl rfl) (fun b' u hb hu=>(Heap.get?_update_other s.heap (Obj.mapSeq f) (Ne.symm hb)).trans hu) ⟨_,q⟩ ?_;exact ⟨hz,its',_,hv,q⟩
def Inv.lnew(I:Inv X pins σ H s)(hv:Vals ys its)(hz:ys.length<=sizeLine) :
  Inv X pins σ (upd H s.heap.objs.size (.lst ys)) { s with heap:=s.heap.push { cls:=.type "list",data:=.seq its.toArray },toks:=t' } :=
 I.laid (fun _ _ q=>yae _ q) (yak _) ⟨hz,its,0,hv,yat _ rfl⟩
theorem Inv.fresh(I:Inv X pins σ H s):H s.heap.objs.size=none:=I.hok.fresh (yak _)
def Inv.lstM(I:Inv X pins σ H s)(hH:H l=some (.lst xs)):xs.length<=sizeLine/\∃(its:List Value) (n:Nat),Vals xs its/\xs.length=its.length/\s.heap.get? l=some { cls:=.type "list",data:=.seq its.toArray n }:=by
 obtain ⟨z,its,n,r,e⟩:=I.hok l _ hH;exact ⟨z,its,n,r,r.length,e⟩
theorem zhs(h:n<=sizeLine):Builtin.List.listTooLong n=false:=by
 unfold Builtin.List.listTooLong;exact yaW (by omega)
end
section
variable{X:Cx}
noncomputable def zny:V->List V->Hp->VK->Prop:=fun x vs H Q=>∃l xs y,x=.ref l/\vs=[y]/\H l=some (.lst xs)/\xs.length<sizeLine/\Q .non (upd H l (.lst (xs++[y])))
theorem zjs:MtM X "list.append" zny:=by
 intro pins s σ H x vs v us Q I rx rv h;obtain ⟨l,xs,y,rfl,rfl,hH,hz,q⟩:=h;cases rx;obtain ⟨u,rfl,ru⟩:=rv.one;obtain ⟨z,its,n,r,hl,e⟩:=I.lstM hH;refine ybE F.slot_list_append ⟨_,e,rfl⟩ F.entry_list_append (F.args_list_append_2 _ _) (PySem.list_append l its.toArray n u (by rw [yai];omega)) ⟨e,?_⟩;refine ⟨.non,_,I.lset (its':=its++[u]) hH e (by simp) (r.append (.cons ru .nil)) ?_,rfl,q⟩;rw [yar,ybL];omega
noncomputable def znx:V->List V->Hp->VK->Prop:=fun x vs H Q=>∃l b xs zs,x=.ref l/\vs=[.ref b]/\H l=some (.lst xs)/\H b=some (.lst zs)/\xs.length+zs.length<=sizeLine/\Q .non (upd H l (.lst (xs++zs)))
theorem zjr:MtM X "list.extend" znx:=by
 intro pins s σ H x vs v us Q I rx rv h;obtain ⟨l,b,xs,zs,rfl,rfl,hH,hB,hz,q⟩:=h;cases rx;obtain ⟨u,rfl,ru⟩:=rv.one;cases ru;obtain ⟨z,its,n,r,hl,e⟩:=I.lstM hH;obtain ⟨z2,its2,n2,r2,hl2,e2⟩:=I.lstM hB
 have hsz:its.toArray.size+its2.toArray.size<=sizeLine:=by rw [yai,yai];omega
 have hlong:¬ (!its.toArray.isEmpty&&Builtin.List.listTooLong (its.toArray.size+its2.toArray.size))=true:=by
  rw [zhs hsz,Bool.and_false];exact yaU
 refine ybE F.slot_list_extend ⟨_,e,rfl⟩ F.entry_list_extend (F.args_list_extend_2 _ _)
  (AutoSeq1.list_extend_list_list_0 l its.toArray n b its2.toArray n2 hlong (by rw [yai];omega) (by omega)) ⟨e,e2,?_⟩
 refine ⟨.non,_,I.lset (its':=its++its2) hH e (by simp) (r.append r2) ?_,rfl,q⟩;rw [yar];omega
noncomputable def zv3:R2:=fun x y H Q=>∃l b xs zs,x=.ref l/\y=.ref b/\H l=some (.lst xs)/\H b=some (.lst zs)/\xs.length+zs.length<=sizeLine/\∀p,H p=none->Q (.ref p) (upd H p (.lst (xs++zs)))
theorem zqA:OpR X (binaryOp .Add) zv3:=by
 intro pins s σ H x y v u Q I rx ry h;obtain ⟨l,b,xs,zs,rfl,rfl,hH,hB,hz,q⟩:=h;cases rx;cases ry;obtain ⟨z,its,n,r,hl,e⟩:=I.lstM hH;obtain ⟨z2,its2,n2,r2,hl2,e2⟩:=I.lstM hB;refine PySem.P.add_list e e2 ?_ (by rw [yai,yai];omega)
 have ea:its.toArray++its2.toArray=(its++its2).toArray:=by simp
 rw [ea];exact ⟨.ref _,_,I.lnew (t':=s.toks) (r.append r2) (by rw [yar];omega),rfl,q _ I.fresh⟩
noncomputable def zvZ:R2:=fun x y H Q=>∃l k xs,x=.ref l/\y=.int k/\H l=some (.lst xs)/\-(2 ^ 63)<=k/\k<2 ^ 63/\xs.length*k.toNat<=sizeLine ∧
 ∀p,H p=none->Q (.ref p) (upd H p (.lst (List.replicate k.toNat xs).flatten))
def zn8{α:Type}(xs:List α)(k:Nat):(List.replicate k xs).flatten.length=k*xs.length:=by
 induction k with
 | zero=>simp
 | succ k ih=>rw [ya6,ya1,yar,ih,Nat.succ_mul,Nat.add_comm]
theorem zqu:OpR X (binaryOp .Mult) zvZ:=by
 intro pins s σ H x y v u Q I rx ry h;obtain ⟨l,k,xs,rfl,rfl,hH,h1,h2,hz,q⟩:=h;cases rx;obtain ⟨t,rfl⟩:=ry;obtain ⟨z,its,n,r,hl,e⟩:=I.lstM hH
 have hlen:its.toArray.size*k.toNat<=sizeLine:=by rw [yai,<-hl];exact hz
 have hcap:¬ its.toArray.size*k.toNat > (2 ^ 63-1) / 8:=by
  have:(sizeLine:Nat)<=(2 ^ 63-1) / 8:=by decide
  omega
 have hfit:¬ (!Builtin.List.listFitsIndex k)=true:=by
  rw [fitsIndex_both h1 h2];exact yaU
 have hlong:¬ Builtin.List.listTooLong (its.toArray.size*k.toNat)=true:=by
  rw [zhs hlen];exact yaU
 have hnew:List.foldl (fun x1 x2=>x1++x2) #[] (List.replicate (if its.toArray.isEmpty=true then 0 else k.toNat) its.toArray)=(List.replicate k.toNat its).flatten.toArray:=by
  have f0:∀m:Nat,List.foldl (fun x1 x2=>x1++x2) #[] (List.replicate m its.toArray)=(List.replicate m its).flatten.toArray:=fun m=>by
   have:=zf0 its m [];rwa [List.nil_append] at this
  rw [f0]
  cases its with
  | nil=>simp
  | cons a r'=>rw [if_neg (by simp)]
 refine wpAny_binaryOp_repeat_ref (T:="list") (U:="int") (by decide) ⟨_,e,rfl⟩ (fun s'=>typeIs_int s' k t) noFill_list_mul F.fills_int_mul F.slot_int_rmul repeat_list F.slot_int_index.lookup
  (ybE F.slot_int_rmul (typeIs_int s k t) F.entry_int_rmul (F.args_int_rmul_2 _ _) (int___rmul___int_list k t l its.toArray n)
   ⟨e,rfl,⟨_,e,rfl⟩,ybE F.slot_list_mul ⟨_,e,rfl⟩ F.entry_list_mul (F.args_list_mul_2 _ _) (AutoListH.list___mul___list_int_3 l its.toArray n k t hfit hcap hlong) ⟨e,?_⟩⟩)
 rw [hnew];exact ⟨.ref _,_,I.lnew (t':=s.toks) (r.rep k.toNat) (by rw [zn8,Nat.mul_comm];exact hz),rfl,q _ I.fresh⟩
end
end L2
namespace Att
open PySem PySem.W PySem.Calls PyProof.Rows
def zd0:∀(ns:List Int) (vs:List Value),WellAll P h vs (ns.map WData.int)->IntsAre vs ns:=by
 intro ns
 induction ns with
 | nil =>
  intro vs w;rw [List.map_nil] at w;cases w;exact .nil
 | cons n ns ih =>
  intro vs w;rw [yas] at w
  cases w with
  | cons a b =>
   cases a;exact .cons _ _ (ih _ b)
theorem zi0{l:OpenLaw}(hn:l.most=some n){P:Params}{h:Heap}
  (hpre:l.row.toRowW.claim.pre args=true) (hwl:WellAll P h vals args) :
  ∃a vs ns,vals=[Value.ref a]/\args=[WData.list (ns.map WData.int)]/\h.get? a=some { cls:=.type "list",data:=.seq vs.toArray }/\IntsAre vs ns/\ns.length<=n:=by
 have hsh:WShape.hasAll [] args [.list .int]=true:=(pre_splitW hpre).1;have hc:l.pre.holds [] { args:=args }=true:=(pre_splitW hpre).2;obtain ⟨d,r,rfl,h1,h2⟩:=hasAllW_cons hsh;obtain rfl:=hasAllW_nil h2;obtain ⟨xs,rfl,h3⟩:=hasW_list h1;obtain ⟨ns,rfl⟩:=items_int h3
 have hlen:ns.length<=n:=by
  unfold OpenLaw.pre at hc
  have h4:(WTm.not (.lt (.lit (.int (n:Int))) (.len (.arg 0)))).holds [] { args:=[.list (ns.map .int)] }=true:=by
   have h4:=(holds_andW hc).1;rwa [hn] at h4
  have h5:=condW_of h4 (w_not (w_lt w_lit (w_len_list (w_arg rfl))));rw [yac] at h5;refine Nat.le_of_not_lt fun q=>?_
  have q':(n:Int)<((ns.length:Nat):Int):=by omega
  first
   | (rw [yaJ q'] at h5;exact absurd h5 (by decide))
   | (simp at h5;omega)
 cases hwl with
 | cons w1 w2 =>
  cases w2
  cases w1 with
  | list ho hall=>exact ⟨_,_,ns,rfl,rfl,ho,zd0 ns _ hall,hlen⟩
def zjc(l:OpenLaw)(args:List WData):l.row.toRowW.claim.post args (.bool true) args=true :=
 postW_of (r:=l.row.toRowW) (X:=(true == true))
  (show WShape.has [] (.bool true) .bool=true by first | rfl | decide | simp [WShape.has,WShape.arms,WShape.armsAll])
  (show (WTm.eq .res (.lit (.bool true))).value [] { args:=args,res:=some (.bool true),after:=args }=some (.bool (true == true)) from w_eq_bool (w_res rfl) w_lit) rfl
def zg2{l:OpenLaw}{n:Nat}{q:Program}{loose:List Str}{XP:(Str->Option Value)->Heap->Prop}{YP:World->Heap->Prop}{d:DefRec}
  (hn:l.most=some n) (hdf:d.params.defaults=[])
  (call:∀(w:World) (s₀ s₁:Shared) (mg mb:Z6) (fa:Addr) (o:Obj) (pm cd doc:Value) (a:Addr) (vs:List Value) (ns:List Int),
   Ground q loose [] XP w s₀ mg mb s₁.heap->YP w s₁.heap →
   s₁.heap.get? fa=some o->o.data=.func (docDef d.name d.params d.body d.scope pm cd doc)->s₁.heap.CodeRec cd d.name->mg d.name=some (.ref fa) →
   s₁.heap.get? a=some { cls:=.type "list",data:=.seq vs.toArray }->IntsAre vs ns->ns.length<=n->s₁.gens=#[] →
   codeAny (model l.prog w) callerA (.call (.ref fa) ⟨[.ref a],[]⟩) (fun r s'=>r=.ok (.ret (.bool true))/\OldK s₁.heap s'.heap/\s'.os=s₁.os/\AllBare s'.gens) s₁) :
  WalkO q loose XP YP l.row.toRowW d [] (fun f vs=>PySem.call f vs):=by
 intro w s₀ s₁ mg mb G Y fa o pm cd doc dV kV ho hd hcd hD hmg hg args vals as hpre hlay hrd hwl hlo;obtain rfl:dV=.none:=Dflts.none hD hdf;obtain rfl:kV=.none:=Dflts.noKw hD;obtain ⟨a,vs,ns,rfl,rfl,hobj,hints,hlen⟩:=zi0 hn hpre hwl;refine enter_call (ycF (call w s₀ s₁ mg mb fa o pm cd doc a vs ns G Y ho (fd_plain hd) hcd hmg hobj hints hlen hg) fun r s' hq=>?_);obtain ⟨rfl,h2,h3,h4⟩:=hq;exact ⟨.inl ⟨.bool true,.bool true,[],rfl,fun _=>rfl,.bool true,zjc l _,fun _=>⟨List.Pairwise.nil,fun _ hm=>(nomatch hm)⟩⟩,h2,h3,h4⟩
end Att
namespace L2
open PySem PySem.Spec PyProof.Rows
theorem zfo:∀{vs:List Value} {ns:List Int},IntsAre vs ns->Vals (ns.map V.int) vs
 | _,_,.nil=>.nil
 | _,_,.cons n t h=>.cons ⟨t,rfl⟩ (zfo h)
noncomputable def zbW(s:Stmt):Arguments:=match s with
 | .FunctionDef _ a _ _ _ _ _ _ _ _=>a
 | _=>{ posonlyargs:=[],args:=[],vararg:=none,kwonlyargs:=[],kw_defaults:=[],kwarg:=none,defaults:=[] }
noncomputable def zbG(s:Stmt):List Stmt:=match s with
 | .FunctionDef _ _ b _ _ _ _ _ _ _=>b
 | _=>[]
noncomputable def zaF(s:Stmt):Scope:=match s with
 | .FunctionDef _ _ _ _ _ _ sc _ _ _=>sc
 | _=>{ kind:=.function,names:=[],isGenerator:=false,isCoroutine:=false }
structure Fun(K:PySem.W.Frag)(x qual:Str)(st:Stmt)(f:Addr)(fd:FuncData):Prop where
 ex:∃(oc:Value) (od:Option Addr) (kV doc pm:Value) (an:Option Addr) (cdv ct:Value) (osl:Array (Option Value)),
  fd=PySem.W.fnOf x qual (zbW st) (zbG st) (zaF st) .none kV doc pm an cdv ct/\K.lookup f=some ⟨oc,od,.func fd,osl⟩/\PySem.W.codeIn K cdv qual=true
 kp:PySem.W.keepIn K (.ref f)=true
section
variable{P:Program}{w:World}{K:PySem.W.Frag}{mg:Z6}{base:Heap}
def Fun.binds{x qual:Str}{st:Stmt}{f:Addr}{fd:FuncData}{ps:List Str}(F:Fun K x qual st f fd)
  (h:∀(kV doc pm:Value) (an:Option Addr) (cdv ct:Value) (us:List Value),us.length=ps.length->bindArgs (PySem.W.fnOf x qual (zbW st) (zbG st) (zaF st) .none kV doc pm an cdv ct) ⟨us,[]⟩=pure (ps.zip us)):zdz K fd ps []:=by
 obtain ⟨oc,od,kV,doc,pm,an,cdv,ct,osl,rfl,lk,hcd⟩:=F.ex;exact .all (h kV doc pm an cdv ct)
def zmE{x qual:Str}{st:Stmt}{f:Addr}{oc:Value}{od an:Option Addr}{osl:Array (Option Value)}{kV doc pm cdv ct:Value}(l:K.lookup f=some ⟨oc,od,.func (PySem.W.fnOf x qual (zbW st) (zbG st) (zaF st) .none kV doc pm an cdv ct),osl⟩)
  (c:PySem.W.codeIn K cdv qual=true) (k:PySem.W.keepIn K (.ref f)=true):Fun K x qual st f (PySem.W.fnOf x qual (zbW st) (zbG st) (zaF st) .none kV doc pm an cdv ct):=⟨⟨oc,od,kV,doc,pm,an,cdv,ct,osl,rfl,l,c⟩,k⟩
end
def zmB{A B:Prop}(h:B):if false=true then A else B:=by
 rw [if_neg yaU];exact h
def zmA{A B:Prop}(h:A):if true=true then A else B:=by
 rw [if_pos rfl];exact h
noncomputable def Its(x:Str):It:=⟨fun i _=>i<x.cps.size,fun i H v H'=>H'=H/\∃c,x.cps[i]?=some c/\v=.str ⟨#[c]⟩,fun i _=>i=x.cps.size⟩
def zg9{P:Program}{w:World}{K:PySem.W.Frag}{tg:Expr}(it:Addr)(x:Str)(t:Tok)(ty:String)(ht:["enumerate","zip","dict_itemiterator","dict_reverseitemiterator","odict_iterator","itertools.zip_longest","itertools.pairwise"].contains ty=false)
  (W:∀A:Around,A.handled=none->Walks P w A it [it] [it] x.cps.size (SignAt x) (fun i h=>h.IsStrIter it ty x t i))
  (Ws:∀(A:Around) (i:Nat) (s:Shared) (Q:Z5) (E:Z5),s.heap.IsStrIter it ty x t i->Q (.ref it) s->wpAny (model P w) A (pyIter (.ref it)) Q E s):Turn P w K tg (Its x) [it] it (fun i h=>h.IsStrIter it ty x t i) where
 mem:=by simp
 obj:=fun i h st b hb=>by
  have e:b=it:=by simpa using hb
  subst e;obtain ⟨o,e,c,d⟩:=st;exact ⟨o,e,fun v z=>by rw [d] at z;cases z⟩
 keep:=fun i h h' st k=>by
  obtain ⟨o,e,r⟩:=st;exact ⟨o,k it (by simp) o e,r⟩
 item:=by
  intro X hP hw hK hc i pins s σ H E I hf st hg;subst hP hw hK;obtain ⟨f0,f1,f2,f3,f4,f5⟩:=hf it (by simp);refine (W X.A (I.ok.hd hc)).item i s _ _ hg st fun v h' tk hv st' kk=>?_
  obtain ⟨c,u,hx,rfl⟩:=hv;have I1:Inv X pins σ H { s with heap:=h',toks:=tk }:=I.turned (fun b o hb e=>kk b o (by simpa using hb) e) f0 f1 f3 f4 f5;obtain ⟨o,e,c',d⟩:=id st';exact ⟨_,rfl,zjV (s:={ s with heap:=h',toks:=tk }) e c' d ht ⟨.str ⟨#[c]⟩,H,I1,⟨u,rfl⟩,⟨rfl,c,hx,rfl⟩,st',fun b hb=>(hf b hb).1⟩⟩
 done:=by
  intro X hP hw hK hc i pins s σ H E I hf st hg;subst hP hw hK;obtain ⟨f0,f1,f2,f3,f4,f5⟩:=hf it (by simp);have hi:i=x.cps.size:=hg;subst hi;exact (W X.A (I.ok.hd hc)).done s _ _ st fun h' tk kk=>⟨rfl,I.turned (fun b o hb e=>kk b o (by simpa using hb) e) f0 f1 f3 f4 f5⟩
 self:=fun A i s Q E st h=>Ws A i s Q E st h
noncomputable def zwH(tl:TE):TI:=fun σ H R=>tl σ H fun v H1=>∃x,v=.str x/\R (Its x) H1
def zqf{X:Cx}{tg l:Expr}{tl:TE}(hl:PE X l tl):PI X tg l (zwH tl):=by
 intro pins s σ H R I h;refine thn (hl pins s σ H _ I h) fun v s1 ⟨x,H1,I1,r1,q1⟩=>?_
 obtain ⟨z,e,q⟩:=q1;subst e;obtain ⟨t,rfl⟩:=r1
 have fp:∀b∈[s1.heap.objs.size],zkz X pins H1 b:=fun b hb=>by
  have e:b=s1.heap.objs.size:=by simpa using hb
  subst e;exact I1.fpOk (yak _) (I1.hok.fresh (yak _))
 cases ha:z.cps.all (·<128)
 ·exact wpAny_pyIter_wide ha ⟨s1.heap.objs.size,[s1.heap.objs.size],_,_,H1,rfl,I1.kept (t':=s1.toks) fun b o e=>yae _ e,zg9 _ z t "str_iterator" (by decide) (fun A hA=>Walks.strWide hA _ z t) (fun A i s Q E st h=>wpAny_pyIter_striter_wide st h),⟨_,yat _ rfl,rfl,rfl⟩,fp,q⟩
 ·exact wpAny_pyIter_ascii ha ⟨s1.heap.objs.size,[s1.heap.objs.size],_,_,H1,rfl,I1.kept (t':=s1.toks) fun b o e=>yae _ e,zg9 _ z t "str_ascii_iterator" (by decide) (fun A hA=>Walks.strAscii hA _ z t) (fun A i s Q E st h=>wpAny_pyIter_striter_ascii st h),⟨_,yat _ rfl,rfl,rfl⟩,fp,q⟩
def zqy{X:Cx}:OpR X (compareOp .LtE) (fun x y H Q=>∃a b,x=.str a/\y=.str b/\Q (.bl (!decide (b.cps.toList<a.cps.toList))) H):=by
 intro pins s σ H x y v u Q I rx ry h;obtain ⟨a,b,rfl,rfl,q⟩:=h;obtain ⟨t,rfl⟩:=rx;obtain ⟨t',rfl⟩:=ry;exact PySem.P.le_str ⟨.bl (!decide (b.cps.toList<a.cps.toList)),H,I,rfl,q⟩
def zio(h:∀y∈scope.names,y.2=.free->∃c,env.cells.lookup y.1=some c) :
  ∃cl,closureFor scope env=pure cl/\(∀y c,cl.lookup y=some c->env.cells.lookup y=some c)/\∀y,(y,NameKind.free)∈scope.names->∃c,cl.lookup y=some c:=by
 unfold closureFor
 have key:∀(l:List (Str×NameKind)) (cs:List (Str×Addr)),(∀y∈l,y.2=.free->∃c,env.cells.lookup y.1=some c)->(∀y c,cs.lookup y=some c->env.cells.lookup y=some c) →
   ∃cl,(forIn l cs fun (x:Str×NameKind) (r:List (Str×Addr))=>(if (x.2 == NameKind.free)=true then (do let c ← cellOf env x.1;pure (ForInStep.yield ((x.1,c)::r))) else pure (ForInStep.yield r):Sem (ForInStep (List (Str×Addr)))))=pure cl ∧
    (∀y c,cl.lookup y=some c->env.cells.lookup y=some c)/\(∀y,(y,NameKind.free)∈l->∃c,cl.lookup y=some c)/\(∀y c,cs.lookup y=some c->∃c',cl.lookup y=some c'):=by
  intro l
  induction l with
  | nil=>intro cs _ hc;exact ⟨cs,rfl,hc,fun y hy=>by simp at hy,fun y c e=>⟨c,e⟩⟩
  | cons p l ih =>
   intro cs hl hc;obtain ⟨n,k⟩:=p
   by_cases hk:(k == NameKind.free)=true
   ·have ek:k=.free:=eq_of_beq hk;obtain ⟨c,ec⟩:=hl (n,k) yah ek
    obtain ⟨cl,e1,e2,e3,e4⟩:=ih ((n,c)::cs) (fun y hy=>hl y (yag _ hy)) (fun y c' e=>by
     rw [yaF] at e
     cases hq:y == n with
     | true=>rw [hq] at e;cases e;rw [eq_of_beq hq];exact ec
     | false=>rw [hq] at e;exact hc y c' e)
    refine ⟨cl,?_,e2,fun y hy=>?_,fun y c' e=>?_⟩
    ·rw [ycw];show ((if (k == NameKind.free)=true then _ else _) >>= _)=_;rw [if_pos hk]
     have ecell:cellOf env n=pure c:=by unfold cellOf;rw [ec]
     show (cellOf env n >>= _) >>= _=_;rw [ecell];simpa using e1
    ·rcases yao.mp hy with z | hy
     ·cases z;exact e4 n c (by rw [yaF];simp)
     ·exact e3 y hy
    ·cases hq:y == n with
     | true=>exact e4 y c (by rw [yaF,hq])
     | false=>exact e4 y c' (by rw [yaF,hq];exact e)
   ·obtain ⟨cl,e1,e2,e3,e4⟩:=ih cs (fun y hy=>hl y (yag _ hy)) hc;refine ⟨cl,?_,e2,fun y hy=>?_,e4⟩
    ·rw [ycw];show ((if (k == NameKind.free)=true then _ else _) >>= _)=_;rw [if_neg hk];simpa using e1
    ·rcases yao.mp hy with z | hy
     ·cases z;exact absurd rfl hk
     ·exact e3 y hy
 obtain ⟨cl,e1,e2,e3,_⟩:=key scope.names [] h (fun y c e=>by simp at e);refine ⟨cl,?_,e2,e3⟩;show ((forIn scope.names [] _:Sem (List (Str×Addr))) >>= _)=_;have e1':=congrArg (fun m=>m >>= (pure:List (Str×Addr)->Sem (List (Str×Addr)))) e1;simpa using e1
noncomputable def PIf(X:Cx)(ifs:List Expr)(t:TT):Prop :=
 ∀(pins:Z3) (s:Shared) (σ:St) (H:Hp) (Q:Bool->Hp->Prop),Inv X pins σ H s->t σ H Q →
  wpAny (model X.prog X.w) X.A (forIn ifs true fun c r=>if r=true then do let ok ← isTrue c X.env (eval c X.env);pure (ForInStep.yield ok) else pure (ForInStep.yield r)) (TP X pins σ Q) X.xe s
noncomputable def zvO:TT:=fun _ H Q=>Q true H
def znM:PIf X [] zvO:=fun _ _ _ H _ I h=>wpAny_tests_nil ⟨H,I,h⟩
def znL(h:PT X c t):PIf X [c] t:=fun pins s σ H Q I hw=>wpAny_tests_one (h pins s σ H Q I hw)
theorem zdm{scope:Scope}{env:Env}:∀{names:List (Str×NameKind)} {y:Str},(y,NameKind.free)∈names->(∀z∈names,z.1=y->z.2=.free) →
  (names.map fun (n,k)=>if (k == NameKind.free&&env.scope.kind == .function&&env.kindOf n == some .cell) then (n,NameKind.cell) else (n,k)).lookup y=some .cell ∨
  (names.map fun (n,k)=>if (k == NameKind.free&&env.scope.kind == .function&&env.kindOf n == some .cell) then (n,NameKind.cell) else (n,k)).lookup y=some .free
 | [],_,h,_=>by simp at h
 | (n,k)::r,y,h,u=>by
  rw [yas];show List.lookup y ((if (k == NameKind.free&&env.scope.kind == .function&&env.kindOf n == some .cell)=true then (n,NameKind.cell) else (n,k))::_)=_\/List.lookup y ((if (k == NameKind.free&&env.scope.kind == .function&&env.kindOf n == some .cell)=true then (n,NameKind.cell) else (n,k))::_)=_
  cases hq:y == n with
  | true =>
   have e:n=y:=(eq_of_beq hq).symm;have ek:k=.free:=u (n,k) yah e
   by_cases hc:(k == NameKind.free&&env.scope.kind == .function&&env.kindOf n == some .cell)=true
   ·rw [if_pos hc];left;simp [yaF,hq]
   ·rw [if_neg hc];right;simp [yaF,hq,ek]
  | false =>
   have hy:(y,NameKind.free)∈r:=by
    rcases yao.mp h with z | z
    ·cases z;simp at hq
    ·exact z
   have ih:=zdm (scope:=scope) (env:=env) hy fun z hz=>u z (yag _ hz)
   by_cases hc:(k == NameKind.free&&env.scope.kind == .function&&env.kindOf n == some .cell)=true
   ·rw [if_pos hc];simpa [yaF,hq] using ih
   ·rw [if_neg hc];simpa [yaF,hq] using ih
def Inv.track(I:Inv X pins σ H s)(hn:H D=none)(h1:X.s₀.heap.objs.size<=D)(h2:D≠X.env.locals)(h3:∀x c,X.env.cells.lookup x=some c->c≠D)(h4:∀p∈X.pn++pins,p.1≠D)
  (new:zaG X.prog X.w (upd H D o) s.heap D o):Inv X pins σ (upd H D o) s:=by
 have nD:∀b u,H b=some u->b≠D:=fun b u e=>zaH e hn
 obtain ⟨h',g',d',t',o'⟩:=s;refine I.step (h':=h') (g':=g') (d':=d') (t':=t') (ch:=[D]) (fun b hb=>?_) (fun b o _ _ _ e _=>e) (fun b o _ _ _ e _=>⟨o.slots,e⟩) (fun b o hc e n=>?_) (fun b o _ e=>⟨o,e⟩) (fun b xs e=>?_) (fun b o u e=>?_) (fun b ps e=>?_) (fun m hm=>hm) (fun b u e=>?_) I.bare
 ·have e:b=D:=by simpa using hb
  subst e;exact ⟨.inr h1,h2,h3,h4⟩
 ·rw [zah (fun z=>hc (by simp [z]))];exact n
 ·rw [zah (nD _ _ e)];exact e
 ·rw [zah (nD _ _ e)];exact e
 ·exact ⟨#[],by rw [zah (nD _ _ e),e];simp⟩
 ·by_cases hb:b=D
  ·subst hb;rw [zaL] at e;cases e;exact new
  ·rw [zah hb] at e
   exact (I.hok b u e).stay (fun _ _ _ q=>q) (fun c q=>by rw [zah (nD _ _ q)];exact q) fun c xs q=>by rw [zah (nD _ _ q)];exact q
section
variable{X:Cx}{elt iter:Expr}{x:Str}{px pos:Pos}{ifs:List Expr}{scope:Scope}{caps:List (Str×Nat)}{wi:TI}{tt:TT}{te:TE}
noncomputable abbrev lob(its:List Value)(k:Nat):Obj:={ cls:=.type "list",data:=.seq its.toArray k }
end
section
variable{prog:Program}{w:World}{A:Around}{R:Result->Shared->Prop}{s:Shared}
theorem zly(I:Nat->Shared->Prop)
  (turn:∀n s,I n s->wpAny (model prog w) A (pyNext it) (fun r s₁=>match r with
   | none=>R (.ok .next) s₁
   | some v=>wpAny (model prog w) A (letOwnedTupleGo target it v) (fun _ s₀=>wpAny (model prog w) A (assign target env v) (fun _ s₂ =>
     wpAny (model prog w) A (forIn ifs true fun c r=>if r=true then do let ok ← isTrue c env (eval c env);pure (ForInStep.yield ok) else pure (ForInStep.yield r)) (fun ok s₃ =>
      if ok=true then wpAny (model prog w) A (eval elt env) (fun x s₄ =>
       wpAny (model prog w) A (call (.builtin "list.append") [acc,x]) (fun _ s₅=>∃m,m<n/\I m s₅) (notedBy (model prog w) A env fun e s'=>R (.error e) s') s₄) (notedBy (model prog w) A env fun e s'=>R (.error e) s') s₃
      else ∃m,m<n/\I m s₃) (notedBy (model prog w) A env fun e s'=>R (.error e) s') s₂) (notedBy (model prog w) A env fun e s'=>R (.error e) s') s₀) (notedBy (model prog w) A env fun e s'=>R (.error e) s') s₁) (notedBy (model prog w) A env fun e s'=>R (.error e) s') s)
  (n:Nat) (h:I n s):codeAny (model prog w) A (.compLoop (.ListComp elt [⟨target,iter,ifs,0⟩] scope pos) 0 it acc env) R s:=by
 refine codeAny_loop rfl I (fun n s hI=>?_) n h;show wpAny _ A ((compTurn (.ListComp elt [⟨target,iter,ifs,0⟩] scope pos) 0 it acc env).onRaise (fun x=>do noteFrame x env;theTreesLotGoes x)) _ _ s;refine wpAny_noted ?_;rw [compTurn_list];refine yaa (ycP (yaa (ybk (turn n s hI) (fun r s₁ h₁=>?_) fun _ _ h'=>h')))
 cases r with
 | none=>exact yaf h₁
 | some v =>
  refine yaa (ybk h₁ (fun _ s₀ h₀=>?_) fun _ _ h'=>h');refine yaa (ybk h₀ (fun _ s₂ h₂=>yaa (ybk h₂ (fun ok s₃ h₃=>?_) fun _ _ h'=>h')) fun _ _ h'=>h')
  cases ok with
  | false=>exact yaf ⟨rfl,h₃⟩
  | true =>
   exact yaa (yaa (ybk h₃ (fun x s₄ h₄=>yaa (ybk h₄ (fun _ s₅ h₅=>yaf (yaf ⟨rfl,h₅⟩)) fun _ _ h'=>h')) fun _ _ h'=>h'))
end
theorem zaP:∀(names:List (Str×NameKind)) (n:Nat) (acc:List (Str×Addr)),cellsFrom n names acc=cellsFrom n names []++acc
 | [],_,_=>rfl
 | (x,k)::r,n,acc=>by
  unfold cellsFrom;split
  ·rw [zaP r (n+1) ((x,n)::acc),zaP r (n+1) [(x,n)]];simp
  ·exact zaP r n acc
theorem zb8:∀(names:List (Str×NameKind)) (n:Nat) {x:Str} {c:Addr},(x,c)∈cellsFrom n names []->(x,NameKind.cell)∈names
 | [],_,_,_,h=>by cases h
 | (y,k)::r,n,x,c,h=>by
  unfold cellsFrom at h;split at h
  ·rename_i hk;rw [zaP] at h
   rcases yaR.mp h with h | h
   ·exact yag _ (zb8 r _ h)
   ·rw [yaD] at h;cases h;rw [ycK.mp hk];exact yah
  ·exact yag _ (zb8 r _ h)
theorem zby{α:Type}:∀{l m:List (Str×α)},(l++m).lookup x=(l.lookup x).or (m.lookup x)
 | [],m=>rfl
 | (y,a)::l,m=>by
  rw [List.cons_append,yaF,yaF]
  cases x == y with
  | true=>rfl
  | false=>exact zby
theorem zbt:∀(names:List (Str×NameKind)) (n:Nat) {x:Str},(x,NameKind.cell)∈names->∃c,(cellsFrom n names []).lookup x=some c
 | [],_,_,h=>by cases h
 | (y,k)::r,n,x,h=>by
  unfold cellsFrom;split
  ·rename_i hk;rw [zaP,zby]
   rcases yao.mp h with e | h
   ·cases e
    cases hq:(cellsFrom (n+1) r []).lookup y with
    | some c=>exact ⟨c,rfl⟩
    | none=>exact ⟨n,by simp [yaF]⟩
   ·obtain ⟨c,e⟩:=zbt r (n+1) h;rw [e];exact ⟨c,rfl⟩
  ·rename_i hk
   rcases yao.mp h with e | h
   ·cases e;exact absurd rfl hk
   ·exact zbt r n h
def zbV{M:Model}{A:Around}{E:Z5}{s:Shared}{scope:Scope}{globals:Addr}{closure:List (Str×Addr)}{qual:Str}{func:Option Addr}{code:Value}{outer:Env}{builtins:Addr}{Q:Env->Shared->Prop}
  (hQ:∀h',h'.Ns s.heap.objs.size (fun _=>none)->(∀b o,s.heap.get? b=some o->h'.get? b=some o)->CellsOk h' (s.heap.objs.size+1) (cellsFrom (s.heap.objs.size+1) scope.names []) →
   Q (newEnv scope s.heap.objs.size globals (cellsFrom (s.heap.objs.size+1) scope.names []++closure) qual func code (some outer) builtins) { s with heap:=h' }) :
  wpAny M A (newFunctionEnv scope globals closure [] qual func code (some outer) builtins) Q E s:=by
 simp only [newFunctionEnv,Option.isSome_some,ybK];refine yaa (wpAny_alloc ?_);refine yaa (wpAny_layCells _ (fun name kind cells=>by cases hkc:kind == NameKind.cell<;>simp [hkc]) _ _ _ _ ?_);have ok:=cellsFrom_ok scope.names (s.heap.push { cls:=.type "dict",data:=.dict #[] }) (s.heap.objs.size+1) [] ⟨fun _ _ hm=>(nomatch hm),List.Pairwise.nil⟩ (by rw [ybi];exact yak _);rw [ybi] at ok;rw [show ({ s with heap:=s.heap.push { cls:=.type "dict",data:=.dict #[] } }:Shared).heap.objs.size=s.heap.objs.size+1 from ybi ..];rw [zaP];simp only [List.forIn_nil];refine yaa (yaf (yaf ?_));exact hQ _ ((Heap.Ns.new s.heap (.type "dict")).keeps (pushCells_keeps _ _)) (fun b o e=>pushCells_keeps _ _ b o (yae _ e)) ok
structure CompScopeG(sc scope:Scope)(N:List Str)(xs:List Str)(caps:List (Str×Nat)):Prop where
 nd:(scope.names.map (·.1)).Nodup
 kind:scope.kind=.function
 names:∀y∈scope.names,y.2=.local->scope.names.lookup y.1=some .local
 free:∀y∈scope.names,y.2=.free->sc.names.lookup y.1=some .cell\/sc.names.lookup y.1=some .free
 cap:∀p∈caps,N[p.2]?=some p.1/\(p.1,NameKind.free)∈scope.names/\sc.names.lookup p.1≠some .local
 uniq:∀p∈caps,∀z∈scope.names,z.1=p.1->z.2=.free
noncomputable def zaT(X:Cx)(xs:List Str)(caps:List (Str×Nat))(scope:Scope)(cl:List (Str×Addr))(C:Addr)(s:Shared)(H:Hp)(ex:List Addr):Cx :=
 { X with N:=xs++caps.map (·.1),s₀:=s,H₀:=H,env:=compEnvC scope cl C X.env,outer:=X.stack,ex:=ex,fn:=fun x=>decide (scope.names.lookup x=some .cell),pn:=[],xe:=fun _ _=>False }
noncomputable abbrev capσ(σ:St)(n:Nat)(caps:List (Str×Nat)):St:=List.replicate n none++caps.map fun p=>(σ[p.2]?).join
noncomputable def zhc(wi:TI)(g:TG)(tt:TT)(te:TE)(n:Nat)(caps:List (Str×Nat)):TE:=fun σ H Q=>wi σ H fun J H1=>∃W:Nat->Nat->List V->St->Hp->Prop,(∃m,W 0 m [] (capσ σ n caps) H1)/\∀i m ys σ' H,W i m ys σ' H →
 ys.length<=sizeLine/\((J.stop i H/\∀p,H p=none->Q (.ref p) (upd H p (.lst ys))) ∨
 (J.go i H/\∀x H',J.yld i H x H'->g x σ' H' fun σ2 H2=>tt σ2 H2 fun ok H3=>if ok=true then te σ2 H3 fun y H4=>∃m',m'<m/\W (i+1) m' (ys++[y]) σ2 H4 else ∃m',m'<m/\W (i+1) m' ys σ2 H3))
section
variable{X:Cx}{elt iter tg:Expr}{xs:List Str}{pos:Pos}{ifs:List Expr}{scope:Scope}{caps:List (Str×Nat)}{wi:TI}{g:TG}{tt:TT}{te:TE}
structure OwnC(X:Cx)(scope:Scope)(lo:Nat)(h:Heap)(cl:List (Str×Addr)):Prop where
 sort:∀y c,cl.lookup y=some c->X.env.cells.lookup y=some c\/(h.IsCell c none/\lo<=c)
 inj:∀y z c,cl.lookup y=some c->cl.lookup z=some c->y=z
 has:∀y,((y,NameKind.free)∈scope.names\/(y,NameKind.cell)∈scope.names)->∃c,cl.lookup y=some c
 own:∀y c,scope.names.lookup y=some .cell->cl.lookup y=some c->lo<=c
 free:∀y,(y,NameKind.free)∈scope.names->∃c,cl.lookup y=some c/\X.env.cells.lookup y=some c
def zfE(h:(relabel scope env).names.lookup y=some .cell\/(relabel scope env).names.lookup y=some .free):(y,NameKind.free)∈scope.names\/(y,NameKind.cell)∈scope.names:=by
 have go:∀k,(relabel scope env).names.lookup y=some k->(k=.cell\/k=.free)->(y,NameKind.free)∈scope.names\/(y,NameKind.cell)∈scope.names:=fun k e hk=>by
  have hm:=yaz e;obtain ⟨⟨n,k0⟩,hp,e2⟩:=yad.mp hm
  by_cases hq:(k0 == .free&&env.scope.kind == .function&&env.kindOf n == some .cell)=true
  ·have e3:(n,NameKind.cell)=(y,k):=by rw [<-e2];show _=if _ then _ else _;rw [if_pos hq]
   cases e3
   have:k0=.free:=by simp only [yab] at hq;exact eq_of_beq hq.1.1
   subst this;exact .inl hp
  ·have e3:(n,k0)=(y,k):=by rw [<-e2];show _=if _ then _ else _;rw [if_neg hq]
   cases e3
   rcases hk with rfl | rfl
   ·exact .inr hp
   ·exact .inl hp
 rcases h with h | h
 ·exact go _ h (.inl rfl)
 ·exact go _ h (.inr rfl)
theorem zfL:∀{l:List (Str×NameKind)},(l.map (·.1)).Nodup->∀{x:Str} {a b:NameKind},(x,a)∈l->(x,b)∈l->a=b
 | [],_,_,_,_,h,_=>by cases h
 | p::l,nd,x,a,b,h,h'=>by
  rw [yas,ybo] at nd
  rcases yao.mp h with h | h<;>rcases yao.mp h' with h' | h'
  ·rw [<-h'] at h;exact (Prod.mk.inj h).2
  ·exact absurd (yad.mpr ⟨_,h',by rw [<-h]⟩) nd.1
  ·exact absurd (yad.mpr ⟨_,h,by rw [<-h']⟩) nd.1
  ·exact zfL nd.2 h h'
def zji{X:Cx}{scope:Scope}{lo n:Nat}{h:Heap}{cl:List (Str×Addr)}(nd:(scope.names.map (·.1)).Nodup)(hn:lo<=n)(hinj:∀x y c,X.env.cells.lookup x=some c->X.env.cells.lookup y=some c->x=y)
  (hcl:∀y c,cl.lookup y=some c->X.env.cells.lookup y=some c) (hlo:∀y c,X.env.cells.lookup y=some c->c<lo) (hhas:∀y,(y,NameKind.free)∈scope.names->∃c,cl.lookup y=some c) (ok:CellsOk h n (cellsFrom n scope.names [])) :
  OwnC X scope lo h (cellsFrom n scope.names []++cl):=by
 have sort:∀y c,(cellsFrom n scope.names []++cl).lookup y=some c->((cellsFrom n scope.names []).lookup y=some c)\/((cellsFrom n scope.names []).lookup y=none/\cl.lookup y=some c):=fun y c e=>by
  rw [zby] at e
  cases hq:(cellsFrom n scope.names []).lookup y with
  | some c'=>rw [hq] at e;exact .inl e
  | none=>rw [hq] at e;exact .inr ⟨rfl,e⟩
 refine ⟨fun y c e=>?_,fun y z c e e'=>?_,fun y hy=>?_,fun y c hy e=>?_,fun y hy=>?_⟩
 ·rcases sort y c e with z | ⟨_,z⟩
  ·have:=ok.empty y c (yaz z);exact .inr ⟨this.1,yaw hn this.2⟩
  ·exact .inl (hcl y c z)
 ·rcases sort y c e with a | ⟨_,a⟩<;>rcases sort z c e' with b | ⟨_,b⟩
  ·exact name_of_addr ok.apart (yaz a) (yaz b)
  ·have h1:=(ok.empty y c (yaz a)).2;have h2:=hlo z c (hcl z c b);exact absurd (yal h2 (yaw hn h1)) (ya9 _)
  ·have h1:=(ok.empty z c (yaz b)).2;have h2:=hlo y c (hcl y c a);exact absurd (yal h2 (yaw hn h1)) (ya9 _)
  ·exact hinj y z c (hcl y c a) (hcl z c b)
 ·rw [zby]
  cases hq:(cellsFrom n scope.names []).lookup y with
  | some c=>exact ⟨c,rfl⟩
  | none =>
   rcases hy with hy | hy
   ·exact hhas y hy
   ·obtain ⟨c,e⟩:=zbt scope.names n hy;rw [hq] at e;cases e
 ·obtain ⟨c',e'⟩:=zbt scope.names n (yaz hy);rw [zby,e'] at e;have:c'=c:=Option.some.inj e;subst this;exact yaw hn (ok.empty y c' (yaz e')).2
 ·obtain ⟨c,e⟩:=hhas y hy;refine ⟨c,?_,hcl y c e⟩;rw [zby]
  cases hq:(cellsFrom n scope.names []).lookup y with
  | some c' =>
   have:=zb8 scope.names n (yaz hq);cases zfL nd hy this
  | none=>exact e
theorem zkg(S:CompScopeG X.env.scope scope X.N xs caps)(hu:∀p∈caps,∀z∈scope.names,z.1=p.1->z.2=.free)
  (I:Inv X pins σ H s) (hcl:OwnC X scope s.heap.objs.size s'.heap cl)
  (hf:∀b∈fp,zkz X pins H b) (hlt:∀b∈fp,b<s.heap.objs.size) (hC:s.heap.objs.size<=C) (ho:s'.os=s.os) (hg:s'.gens=s.gens) (hk:∀b o,s.heap.get? b=some o->s'.heap.get? b=some o) (hn:s'.heap.Ns C (fun _=>none)) :
  Inv (zaT X xs caps scope cl C s H fp) [] (capσ σ xs.length caps) H s':=by
 have cellK:∀y c,cl.lookup y=some c->∃v,s'.heap.IsCell c v:=fun y c e=>by
  rcases hcl.sort y c e with z | z
  ·obtain ⟨v,o,q,d⟩:=I.cell y c z;exact ⟨v,o,hk _ _ q,d⟩
  ·exact ⟨none,z.1⟩
 refine ⟨⟨I.ok.mod,S.kind,I.ok.glob,I.ok.blt,hC,hcl.inj,fun y hy=>hcl.has y (zfE hy),fun y c z e=>hcl.own y c (yaE z) e,I.ok.hd,I.ok.frames,.inl rfl,fun b hb=>⟨yau (yal (hlt b hb) hC),fun y c e=>(hcl.sort y c e).elim (fun z=>(hf b hb).2.2.2.2.1 y c z) fun z=>yaX (yal (hlt b hb) z.2)⟩,
  I.bs,yaw I.ok.bsz I.sz,fun b o e hb=>?_,fun b hb hm=>?_,I.stack,I.stkFree⟩,ho,by rw [hg];exact I.bare,Un.kept hk,⟨_,hn,fun i y v h1 h2 h3=>?_⟩,fun y c e=>cellK y c e,I.hok.fresh hC,fun y c e=>(hcl.sort y c e).elim (I.freeC y c) fun z=>I.hok.fresh z.2,fun p hp=>absurd (show p∈([]:Z3) from hp) (by simp),I.hok.kept hk,?_⟩
 ·rcases (hf b hb).2.2.2.1 with z | z
  ·exact I.ok.noex b o e z
  ·exact absurd (yal (yap e) (yaw I.ok.bsz z)) (ya9 _)
 ·rcases yao.mp (I.stkSub b hm) with z | z
  ·exact (hf b hb).2.1 z
  ·exact (hf b hb).2.2.1 z
 ·have hi:¬ i<xs.length:=fun hi=>by
   have h2':(capσ σ xs.length caps)[i]?=some (some v):=h2;rw [ya4 (by rw [yaL];exact hi),ybB] at h2'
   split at h2'<;>cases h2'
  ·have h1':(caps.map (·.1))[i-xs.length]?=some y:=by
    have h1':(xs++caps.map (·.1))[i]?=some y:=h1;rwa [ybe (by omega)] at h1'
   rw [yav] at h1'
   have h2':(caps.map fun p=>(σ[p.2]?).join)[i-xs.length]?=some (some v):=by
    have h2':(capσ σ xs.length caps)[i]?=some (some v):=h2;rw [ybe (by rw [yaL];omega),yaL] at h2';exact h2'
   rw [yav] at h2'
   cases hp:caps[i-xs.length]? with
   | none=>rw [hp] at h1';cases h1'
   | some p =>
    rw [hp] at h1' h2';have ey:p.1=y:=Option.some.inj h1';have ev:(σ[p.2]?).join=some v:=Option.some.inj h2';subst ey;have hmem:p∈caps:=yaT hp;obtain ⟨c1,c2,c3⟩:=S.cap p hmem
    have eσ:σ[p.2]?=some (some v):=by
     cases q:σ[p.2]? with
     | none=>rw [q] at ev;cases ev
     | some w=>rw [q] at ev;have:w=some v:=ev;rw [this]
    have hfr:=S.free _ c2 rfl;have hv:Vis X.env.scope p.1:=hfr.elim (fun z=>.inr (.inl z)) (fun z=>.inr (.inr z));obtain ⟨m,_,hl⟩:=I.loc;obtain ⟨u,r,l⟩:=hl p.2 p.1 v c1 eσ hv;refine ⟨u,r,.inr ⟨zdm (scope:=scope) (env:=X.env) c2 (hu p hmem),?_⟩⟩;obtain ⟨c,ec,ec2⟩:=hcl.free p.1 c2;refine ⟨c,ec,?_⟩
    rcases l with ⟨z,_⟩ | ⟨_,c',ec',hcell⟩
    ·exact absurd z c3
    ·have:c'=c:=by rw [ec2] at ec';exact (Option.some.inj ec').symm
     subst this;obtain ⟨o,q,d⟩:=hcell;exact ⟨o,hk _ _ q,d⟩
 ·simp [zaT,capσ]
theorem zf5{use:Option (Value->Sem Unit)}{Qf:Z5}{R:VK}{pins:Z3}{s:Shared}{σ:St}{H:Hp}(hc:X.calm=true)(S:CompScopeG X.env.scope scope X.N xs caps)(hi:PI X tg iter wi)(hg:∀cl C s H fp,PG (zaT X xs caps scope cl C s H fp) tg g)
  (ht:∀cl C s H fp,PIf (zaT X xs caps scope cl C s H fp) ifs tt) (he:∀cl C s H fp,PE (zaT X xs caps scope cl C s H fp) elt te)
  (hs:∀v,foldedSetIterable iter X.env v=pure v) (I:Inv X pins σ H s) (h:zhc wi g tt te xs.length caps σ H R)
  (fin:∀(D C:Addr) (s4:Shared) (m4:Z6) (H6:Hp) (r:Flow),s4.heap.Ns C m4->(∀{σ':St} {H7:Hp} {s5:Shared} {h':Heap},Inv X pins σ' H7 s5->Heap.SameBut C s5.heap h'->H7 C=none->Inv X pins σ' H7 { s5 with heap:=h' })->H6 C=none->C≠X.env.locals->(∀y c,X.env.cells.lookup y=some c->C≠c)->Inv X pins σ H6 s4->R (.ref D) H6->compPost (model X.prog X.w) X.A X.xe use Qf (.ref D) C (.ok r) s4) :
  wpAny (model X.prog X.w) X.A (comprehension (.ListComp elt [⟨tg,iter,ifs,0⟩] scope pos) scope X.env (firstIterPos [⟨tg,iter,ifs,0⟩] pos) (newList []) false (eval iter X.env) use) Qf X.xe s:=by
 obtain ⟨cl,hclos,hcl,hhas⟩:=zio (scope:=scope) (env:=X.env) fun y hy hf=>I.ok.has y.1 (S.free y hy hf)
 refine wpAny_comprehension_free (use:=use) rfl hs hclos S.kind S.names (thn (hi pins s σ H _ I h) fun v s1 h1=>thn h1 fun itv s2 h2=>?_);obtain ⟨it,fp,tn,J,H2,rfl,I2,T,st2,f2,W,⟨m0,w0⟩,turn⟩:=h2;refine ybf (zbV (fun h₁ hns₁ hsb₁ hok₁=>?_));dsimp only at hns₁ hsb₁ hok₁ ⊢;generalize hHp:s2.heap.push { cls:=.type "list",dict:=none,data:=.seq ([]:List Value).toArray }=Hq at hns₁ hsb₁ hok₁ ⊢
 have hCe:Hq.objs.size=s2.heap.objs.size+1:=by rw [<-hHp,ybi]
 have hDC:s2.heap.objs.size≠Hq.objs.size:=by rw [hCe];exact yau (Nat.lt_succ_self _)
 have hC:s2.heap.objs.size<=Hq.objs.size:=by rw [hCe];exact ycf _
 have old:∀b o,s2.heap.get? b=some o->h₁.get? b=some o:=fun b o e=>hsb₁ b o (hHp ▸ yae _ e)
 have hacc:h₁.get? s2.heap.objs.size=some (lob [] 0):=hsb₁ _ _ (hHp ▸ yat _ rfl)
 have cellX:∀y c,X.env.cells.lookup y=some c->c<s2.heap.objs.size:=fun y c e=>by obtain ⟨v,q⟩:=I2.cell y c e;exact q.lt
 have oc:=zji (X:=X) (lo:=s2.heap.objs.size+1) S.nd (by rw [hCe];exact ycf _) I.ok.inj hcl (fun y c e=>ycg (cellX y c e)) hhas hok₁;generalize hcl2:cellsFrom (Hq.objs.size+1) scope.names []++cl=cl2 at oc ⊢;have oc':OwnC X scope s2.heap.objs.size h₁ cl2:=⟨fun y c e=>(oc.sort y c e).imp id fun z=>⟨z.1,ycL z.2⟩,oc.inj,oc.has,fun y c a e=>ycL (oc.own y c a e),oc.free⟩
 have hlt:∀b∈fp,b<s2.heap.objs.size:=fun b hb=>by obtain ⟨o,e,_⟩:=T.obj 0 _ st2 b hb;exact yap e
 generalize hY:zaT X xs caps scope cl2 Hq.objs.size s2 H2 fp=Y;have PEY:PE Y elt te:=hY ▸ he cl2 _ s2 H2 fp;have PIY:PIf Y ifs tt:=hY ▸ ht cl2 _ s2 H2 fp;have PGY:PG Y tg g:=hY ▸ hg cl2 _ s2 H2 fp
 have I3:Inv Y [] (capσ σ xs.length caps) H2 { s2 with heap:=h₁ }:=by
  rw [<-hY];exact zkg S S.uniq I2 oc' f2 hlt hC rfl rfl old hns₁
 have eYenv:Y.env=compEnvC scope cl2 Hq.objs.size X.env:=by rw [<-hY];rfl
 have eYloc:Y.env.locals=Hq.objs.size:=by rw [eYenv];rfl
 have eYfs:Y.fs=frs X.stack:=by rw [<-hY];rfl
 have eYprog:Y.prog=X.prog:=by rw [<-hY];rfl
 have eYw:Y.w=X.w:=by rw [<-hY];rfl
 have eYK:Y.K=X.K:=by rw [<-hY];rfl
 have eYA:Y.A=X.A:=by rw [<-hY];rfl
 have eYc:Y.calm=true:=by rw [<-hY];exact hc
 have eYex:Y.ex=fp:=by rw [<-hY];rfl
 have eYs:Y.s₀=s2:=by rw [<-hY];rfl
 have eYH:Y.H₀=H2:=by rw [<-hY];rfl
 have eYpn:Y.pn=[]:=by rw [<-hY];rfl
 have eYcell:∀y c,Y.env.cells.lookup y=some c->X.env.cells.lookup y=some c\/s2.heap.objs.size+1<=c:=fun y c e=>(oc.sort y c (by rwa [eYenv] at e)).imp id (·.2)
 have eYxe:∀e s',¬ Y.xe e s':=fun e s' z=>by rwa [<-hY] at z
 have stkX:∀b∈frs X.stack,b<s2.heap.objs.size:=fun b hb=>by
  rcases yao.mp (I2.stkSub b hb) with z | z
  ·rw [z];exact I2.lt
  ·refine Nat.not_le.mp fun hle=>I2.nofs hle z
 have pinX:∀p∈X.pn++pins,p.1<s2.heap.objs.size:=fun p hp=>yap (I2.pin p hp).1
 have fpY:∀{H':Hp} {its:List Value} {k:Nat},(∀b∈fp,H' b=none)->∀b∈fp,zkz Y [(s2.heap.objs.size,lob its k)] H' b:=fun {H' its k} hn b hb=>by
  refine ⟨hn b hb,by rw [eYloc];exact yau (yal (hlt b hb) hC),?_,.inl (by rw [eYex];exact hb),fun y c e=>(eYcell y c e).elim (fun z=>(f2 b hb).2.2.2.2.1 y c z) fun z=>yaX (yal (hlt b hb) (ycL z)),fun p hp=>?_⟩
  ·rw [eYfs];intro hm
   rcases yao.mp (I2.stkSub b hm) with z | z
   ·exact (f2 b hb).2.1 z
   ·exact (f2 b hb).2.2.1 z
  ·rw [eYpn] at hp
   have e:p=(s2.heap.objs.size,lob its k):=by simpa using hp
   rw [e];exact yaX (hlt b hb)
 have pinD:∀{H':Hp} {σ':St} {s':Shared} {its:List Value} {k:Nat},Inv Y [] σ' H' s'->s'.heap.get? s2.heap.objs.size=some (lob its k)->H' s2.heap.objs.size=none->Inv Y [(s2.heap.objs.size,lob its k)] σ' H' s':=fun {H' σ' s' its k} I' e n =>
  I'.pins_of fun p hp=>by
   have ep:p=(s2.heap.objs.size,lob its k):=by simpa using hp
   subst ep;refine ⟨e,n,by rw [eYloc];exact hDC,?_,fun v z=>?_⟩
   ·rw [eYfs];exact fun hm=>ya9 _ (stkX _ hm)
   ·have z':Data.seq its.toArray k=Data.cell v:=z;cases z'
 have loop:codeAny (model X.prog X.w) X.A (.compLoop (.ListComp elt [⟨tg,iter,ifs,0⟩] scope pos) 0 (.ref it) (.ref s2.heap.objs.size) (compEnvC scope cl2 Hq.objs.size X.env))
   (compPost (model X.prog X.w) X.A X.xe use Qf (.ref s2.heap.objs.size) Hq.objs.size) { s2 with heap:=h₁ }:=by
  refine zly (fun n s'=>∃i σx H' ys its k,Inv Y [(s2.heap.objs.size,lob its k)] σx H' s'/\tn i s'.heap/\(∀b∈fp,H' b=none)/\Vals ys its/\W i n ys σx H') ?_ m0
   ⟨0,capσ σ xs.length caps,H2,[],[],0,pinD I3 hacc (I2.hok.fresh (yak _)),T.keep _ _ _ st2 fun b hb o e=>old b o e,fun b hb=>(f2 b hb).1,.nil,w0⟩
  rintro n s3 ⟨i,σx,H3,ys,its,k,J3,st3,fr3,rv,w3⟩;obtain ⟨hz,hcase⟩:=turn i n ys σx H3 w3
  rcases hcase with ⟨stop,q⟩ | ⟨go,step⟩
  ·have hd:=T.done Y eYprog eYw eYK eYc i _ s3 _ H3 (notedBy (model X.prog X.w) X.A (compEnvC scope cl2 Hq.objs.size X.env) fun e s'=>compPost (model X.prog X.w) X.A X.xe use Qf (.ref s2.heap.objs.size) Hq.objs.size (.error e) s') J3 (fpY fr3) st3 stop;rw [eYA] at hd;refine thn hd fun r s4 ⟨hr,J4⟩=>?_
   subst hr;obtain ⟨m4,hn4,_⟩:=J4.loc
   have hn4':s4.heap.Ns Hq.objs.size m4:=by rw [<-eYloc];exact hn4
   have hnC:H3 Hq.objs.size=none:=by rw [<-eYloc];exact J4.free
   have hk5:HOk X.prog X.w H3 s4.heap:=by rw [<-eYprog,<-eYw];exact J4.hok
   have u5:Un (frs X.stack) fp H2 H3 s2.heap s4.heap:=by
    have ub:=J4.base;rwa [eYfs,eYex,eYH,eYs] at ub
   have J5:Inv X pins σ H3 s4:=I2.call' (s':=s4) (ch:=fp) (by have:=J4.os;rwa [eYs] at this) u5 hk5 J4.bare fun b hb=>⟨(f2 b hb).2.2.2.1,(f2 b hb).2.1,(f2 b hb).2.2.2.2.1,(f2 b hb).2.2.2.2.2⟩
   have hp4:=J4.pin (s2.heap.objs.size,lob its k) (yaC _ yah);have hD5:s4.heap.get? s2.heap.objs.size=some (lob its k):=hp4.1;have J6:Inv X pins σ (upd H3 s2.heap.objs.size (.lst ys)) s4:=J5.track hp4.2.1 I2.sz (yaX I2.lt) (fun y c e=>yau (cellX y c e)) (fun p hp=>yau (pinX p hp)) (show zaG X.prog X.w _ s4.heap _ (.lst ys) from ⟨hz,its,k,rv,hD5⟩);have hCloc:Hq.objs.size≠X.env.locals:=yaX (yal I2.lt hC);exact fin _ Hq.objs.size s4 m4 _ _ hn4' (fun {σ'} {H7} {s5} {h'} J sb' hn=>J.turned (t':=s5.toks) (it:=Hq.objs.size) (fun b o hb e=>(sb'.2 b hb).trans e) hn hCloc (.inr (yaw I2.sz hC)) (fun y c e=>yau (yal (cellX y c e) hC)) (fun p hp=>yau (yal (pinX p hp) hC))) (by rw [zah (Ne.symm hDC)];exact hnC) hCloc (fun y c e=>yaX (yal (cellX y c e) hC)) J6 (q _ hp4.2.1)
  ·have hd:=T.item Y eYprog eYw eYK eYc i _ s3 _ H3 (notedBy (model X.prog X.w) X.A (compEnvC scope cl2 Hq.objs.size X.env) fun e s'=>compPost (model X.prog X.w) X.A X.xe use Qf (.ref s2.heap.objs.size) Hq.objs.size (.error e) s') J3 (fpY fr3) st3 go;rw [eYA] at hd;refine thn hd fun r s4 ⟨u,hr,h4⟩=>?_
   subst hr;refine thn h4 fun _ s5 ⟨v4,H4,J4,r4,y4,st5,fr4⟩=>?_
   have J4':=J4.pinned (fp:=fp) (fpY fr4) (T.obj _ _ st5);have ha:=PGY _ s5 σx H4 v4 u _ J4' r4 (step v4 H4 y4);rw [eYprog,eYw,eYA,eYenv] at ha;refine ybk ha (fun _ s5' ⟨σ5,H5,J5',q5⟩=>?_) fun e s' z=>(eYxe _ _ z).elim
   have ht5:=PIY _ s5' σ5 H5 _ J5' q5;rw [eYprog,eYw,eYA,eYenv] at ht5;refine ybk ht5 (fun ok s6 ⟨H6,J6,q6⟩=>?_) fun e s' z=>(eYxe _ _ z).elim
   have back:∀{H7:Hp} {s7:Shared},Inv Y ([(s2.heap.objs.size,lob its k)]++zfJ fp s5.heap) σ5 H7 s7->tn (i+1) s7.heap/\∀b∈fp,H7 b=none:=fun {H7 s7} J7 =>
    ⟨T.keep _ _ _ st5 fun b hb o e=>(J7.pin (b,o) (yaC _ (yaC _ (zcv hb e)))).1,fun b hb=>by
     obtain ⟨o,e,d⟩:=T.obj _ _ st5 b hb
     exact (J7.pin (b,o) (yaC _ (yaC _ (zcv hb e)))).2.1⟩
   cases ok with
   | false =>
    rw [if_neg yaU] at q6;rw [if_neg yaU];obtain ⟨m',hm',w6⟩:=q6;exact ⟨m',hm',i+1,σ5,H6,ys,its,k,J6.unpinned,(back J6).1,(back J6).2,rv,w6⟩
   | true =>
    rw [if_pos rfl] at q6;rw [if_pos rfl];have he6:=PEY _ s6 _ H6 _ J6 q6;rw [eYprog,eYw,eYA,eYenv] at he6;refine ybk he6 (fun u7 s7 ⟨v7,H7,J7,r7,m',hm',w7⟩=>?_) fun e s' z=>(eYxe _ _ z).elim
    obtain ⟨st7,fr7⟩:=back J7;have hp7:=(J7.unpinned).pin (s2.heap.objs.size,lob its k) (yaC _ yah);have hl:=rv.length;refine append_at (hsz:=by show its.toArray.size<=sizeLine;rw [yai];omega) hp7.1 fun h8 sb8 hD8=>?_
    have J7':Inv Y [] σ5 H7 s7:=J7.unpinned.pins_of fun p hp=>absurd hp (by simp)
    have J8:Inv Y [] σ5 H7 { s7 with heap:=h8 }:=J7'.turned (t':=s7.toks) (it:=s2.heap.objs.size) (fun b o hb e=>(sb8.2 b hb).trans e) hp7.2.1 (by rw [eYloc];exact hDC) (.inr (by rw [eYs];exact yak _)) (fun y c e=>(eYcell y c e).elim (fun z=>yau (cellX y c z)) fun z=>yaX z) (fun p hp=>by rw [eYpn] at hp;simp at hp)
    have hD8':h8.get? s2.heap.objs.size=some (lob (its++[u7]) (k+1)):=by rw [hD8];simp [lob]
    exact ⟨m',hm',i+1,σ5,H7,ys++[v7],its++[u7],k+1,pinD J8 hD8' hp7.2.1,T.keep _ _ _ st7 fun b hb o e=>(sb8.2 b (yau (hlt b hb))).trans e,fr7,rv.append (.cons r7 .nil),w7⟩
 exact codeAny_compStart_list loop (T.self X.A 0 _ _ _ (T.keep _ _ _ st2 fun b hb o e=>old b o e) loop)
def zlj(hc:X.calm=true)(S:CompScopeG X.env.scope scope X.N xs caps)(hi:PI X tg iter wi)(hg:∀cl C s H fp,PG (zaT X xs caps scope cl C s H fp) tg g)
  (ht:∀cl C s H fp,PIf (zaT X xs caps scope cl C s H fp) ifs tt) (he:∀cl C s H fp,PE (zaT X xs caps scope cl C s H fp) elt te)
  (hs:∀v,foldedSetIterable iter X.env v=pure v:=by intro _;rfl):PE X (.ListComp elt [⟨tg,iter,ifs,0⟩] scope pos) (zhc wi g tt te xs.length caps):=by
 intro pins s σ H Q I h;rw [eval_ListComp];exact zf5 (use:=none) hc S hi hg ht he hs I h fun D C s4 m4 H6 r hn tr hC _ _ J6 q=>⟨m4,hn,fun h5 sb=>⟨.ref D,H6,tr J6 sb hC,rfl,q⟩⟩
def zk8(hc:X.calm=true)(S:CompScopeG X.env.scope scope X.N xs caps)(hN0:X.N.Nodup)(hi0:X.N[k0]?=some y0)(hx0:Loc X.env.scope y0)(hi:PI X tg iter wi)(hg:∀cl C s H fp,PG (zaT X xs caps scope cl C s H fp) tg g)
  (ht:∀cl C s H fp,PIf (zaT X xs caps scope cl C s H fp) ifs tt) (he:∀cl C s H fp,PE (zaT X xs caps scope cl C s H fp) elt te)
  (hsw:swapsWith (.ListComp elt [⟨tg,iter,ifs,0⟩] scope pos) (some (.Name y0 py)) spos.line X.env=pure true)
  (hf0:X.fn y0=true\/X.env.scope.names.lookup y0=some .local)
  (hs:∀v,foldedSetIterable iter X.env v=pure v):PS X (.Assign [.Name y0 py] (.ListComp elt [⟨tg,iter,ifs,0⟩] scope pos) spos) (zna (zhc wi g tt te xs.length caps) (zii k0)):=by
 intro pins s σ H DD I h;rw [exec_Assign_Name_used _ _ _ _ hsw];refine yaa (ycP (yaa ?_));show wpAny _ X.A (do let _ ← comprehension (.ListComp elt [⟨tg,iter,ifs,0⟩] scope pos) scope X.env _ (newList []) false (eval iter X.env) (some (assign (.Name y0 py) X.env))) _ _ s;refine yaa (ybk (zf5 (use:=some (assign (.Name y0 py) X.env)) (Qf:=fun _ s'=>SP X pins DD .next s') hc S hi hg ht he hs I h fun D C s4 m4 H6 r hn tr hC hl hce J6 q=>?_) (fun _ s' hq=>yaf (yaf hq)) fun _ _ e=>e);show wpAny _ X.A (assign (.Name y0 py) X.env (.ref D)) _ X.xe s4;refine wpAny_assign_Name (zfs (i:=k0) J6 hN0 hi0 hx0 (v:=.ref D) rfl (fun s5 J7 ⟨a,sb,ha⟩=>?_) hf0);have haC:C≠a:=ha.elim (fun z=>by rw [z];exact hl) fun z=>hce _ _ z
 exact ⟨m4,hn.sameBut sb haC,fun h' sb'=>⟨_,_,tr J7 sb' hC,q⟩⟩
end
section
variable{κ:Type}[DecidableEq κ]
noncomputable def zgm(kvs:List (κ×V))(k:κ):Option V:=(kvs.find? fun kv=>decide (kv.1=k)).map (·.2)
noncomputable def zdR(kvs:List (κ×V))(k:κ)(v:V):List (κ×V) :=
 if (kvs.any fun kv=>decide (kv.1=k))=true then kvs.map (fun kv=>if kv.1=k then (kv.1,v) else kv) else kvs++[(k,v)]
def zcL{p:κ×V}{r:List (κ×V)}{k:κ}(e:p.1=k):zgm (p::r) k=some p.2:=by simp [zgm,ybM,e]
def zcM{p:κ×V}{r:List (κ×V)}{k:κ}(e:¬ p.1=k):zgm (p::r) k=zgm r k:=by simp [zgm,ybM,e]
theorem zdA(k:κ):∀kvs:List (κ×V),(kvs.any fun kv=>decide (kv.1=k))=(zgm kvs k).isSome
 | []=>rfl
 | p::r=>by
  rw [ycR]
  by_cases e:p.1=k
  ·simp only [zcL e,yaJ e,Bool.true_or,Option.isSome_some]
  ·rw [zcM e,yaW e,Bool.false_or];exact zdA k r
theorem zb5(kvs:List (κ×V))(k:κ)(v:V):(zdR kvs k v).length<=kvs.length+1:=by
 unfold zdR;split
 ·rw [yac];omega
 ·rw [yar,yan,List.length_nil];omega
def zk5{kvs:List (κ×V)}{k:κ}(v:V)(h:zgm kvs k=none):zdR kvs k v=kvs++[(k,v)]:=by
 unfold zdR;rw [zdA,h];exact if_neg (by decide)
def zix.isSome_eq{o:Option V}{u:Option Value}(r:zix o u):o.isSome=u.isSome:=by
 cases o with
 | none=>cases u with
  | none=>rfl
  | some _=>exact (show False from r).elim
 | some _=>cases u with
  | none=>exact (show False from r).elim
  | some _=>rfl
theorem zix.getD{o:Option V}{u:Option Value}{d:V}{d':Value}(r:zix o u)(rd:zaI d d'):zaI (o.getD d) (u.getD d'):=by
 cases o with
 | none=>cases u with
  | none=>exact rd
  | some _=>exact (show False from r).elim
 | some _=>cases u with
  | none=>exact (show False from r).elim
  | some _=>exact r
def KV.val{kvs:List (κ×V)}{vs:List (κ×Value)}(r:KV kvs vs)(k:κ):zix (zgm kvs k) (valueAt vs k):=by
 unfold KV at r
 induction r with
 | nil=>exact True.intro
 | @cons p q ps qs h t ih =>
  obtain ⟨h1,h2⟩:=h
  by_cases e:p.1=k
  ·have e':q.1=k:=h1.symm.trans e
   have b:valueAt (q::qs) k=some q.2:=by simp [valueAt,ybM,e']
   rw [zcL e,b];exact h2
  ·have e':¬ q.1=k:=fun z=>e (h1.trans z)
   have b:valueAt (q::qs) k=valueAt qs k:=by simp [valueAt,ybM,e']
   rw [zcM e,b];exact ih
theorem KV.any{kvs:List (κ×V)}{vs:List (κ×Value)}(r:KV kvs vs)(k:κ):(kvs.any fun kv=>decide (kv.1=k))=vs.any fun kv=>decide (kv.1=k):=by
 unfold KV at r
 induction r with
 | nil=>rfl
 | cons h t ih=>rw [ycR,ycR,ih,h.1]
def KV.repl{kvs:List (κ×V)}{vs:List (κ×Value)}(r:KV kvs vs)(k:κ){y:V}{u:Value}(ry:zaI y u) :
  KV (kvs.map fun kv=>if kv.1=k then (kv.1,y) else kv) (vs.map fun kv=>if kv.1=k then (kv.1,u) else kv):=by
 unfold KV at r ⊢
 induction r with
 | nil=>exact .nil
 | @cons p q ps qs h t ih =>
  rw [yas,yas];refine .cons ?_ ih;obtain ⟨h1,h2⟩:=h
  by_cases e:p.1=k
  ·rw [if_pos e,if_pos (h1.symm.trans e)];exact ⟨h1,ry⟩
  ·rw [if_neg e,if_neg (fun z=>e (h1.trans z))];exact ⟨h1,h2⟩
def KV.put{kvs:List (κ×V)}{vs:List (κ×Value)}(r:KV kvs vs)(k:κ){y:V}{u:Value}(ry:zaI y u):KV (zdR kvs k y) (stored vs k u):=by
 unfold zdR stored;rw [r.any k]
 by_cases e:(vs.any fun kv=>decide (kv.1=k))=true
 ·rw [if_pos e,if_pos e];exact r.repl k ry
 ·rw [if_neg e,if_neg e];exact Paired.snoc r ⟨rfl,ry⟩
def KV.keys{kvs:List (κ×V)}{vs:List (κ×Value)}(r:KV kvs vs):kvs.map (·.1)=vs.map (·.1):=by
 unfold KV at r
 induction r with
 | nil=>rfl
 | cons h t ih=>rw [yas,yas,ih,h.1]
theorem KV.length{kvs:List (κ×V)}{vs:List (κ×Value)}(r:KV kvs vs):kvs.length=vs.length:=Paired.length r
end
def zfU{P:Program}{w:World}{k:Key}{u:Value}(r:zaI (kV k) u):(zap P w).is k u=true:=by
 cases k with
 | inl i=>obtain ⟨t,e⟩:=(show ∃t,u=Value.int i t from r);subst e;exact zgJ P w i t
 | inr x=>obtain ⟨t,e⟩:=(show ∃t,u=Value.str x t from r);subst e;exact zgI P w x t
theorem zfV{P:Program}{w:World}:∀{ks:List Key} {us:List Value},Vals (ks.map kV) us->ItemsAre (zap P w) ks us
 | [],_,r=>by rw [List.map_nil] at r;cases r;exact .nil
 | k::ks,_,r=>by
  rw [yas] at r
  cases r with
  | cons h t=>exact .cons (zfU h) (zfV t)
noncomputable abbrev KT(H:Hp):List (List Key×V)->List (List Key×Addr×Value)->Prop:=Paired fun p q=>p.1=q.1/\H q.2.1=some (.tup (p.1.map kV))/\zaI p.2 q.2.2
def KT.val{H:Hp}{kvs:List (List Key×V)}{xs:List (List Key×Addr×Value)}(r:KT H kvs xs)(k:List Key):zix (zgm kvs k) ((atKey xs k).map (·.2)):=by
 induction r with
 | nil=>exact True.intro
 | @cons p q ps qs h t ih =>
  obtain ⟨h1,_,h2⟩:=h
  by_cases e:p.1=k
  ·have e':q.1=k:=h1.symm.trans e
   have b:atKey (q::qs) k=some q.2:=by simp [atKey,ybM,e']
   rw [zcL e,b];exact h2
  ·have e':¬ q.1=k:=fun z=>e (h1.trans z)
   have b:atKey (q::qs) k=atKey qs k:=by simp [atKey,ybM,e']
   rw [zcM e,b];exact ih
def KT.repl{H:Hp}{kvs:List (List Key×V)}{xs:List (List Key×Addr×Value)}(r:KT H kvs xs)(k:List Key){y:V}{u:Value}(ry:zaI y u) :
  KT H (kvs.map fun kv=>if kv.1=k then (kv.1,y) else kv) (xs.map (putAt k u)):=by
 induction r with
 | nil=>exact .nil
 | @cons p q ps qs h t ih =>
  rw [yas,yas];refine .cons ?_ ih;obtain ⟨h1,h2,h3⟩:=h;unfold putAt
  by_cases e:p.1=k
  ·rw [if_pos e,if_pos (h1.symm.trans e)];exact ⟨h1,h2,ry⟩
  ·rw [if_neg e,if_neg (fun z=>e (h1.trans z))];exact ⟨h1,h2,h3⟩
def KT.put{H:Hp}{kvs:List (List Key×V)}{xs:List (List Key×Addr×Value)}(r:KT H kvs xs)(k:List Key){b:Addr}{y:V}{u:Value}(hb:H b=some (.tup (k.map kV)))(ry:zaI y u) :
  KT H (zdR kvs k y) (storedH xs k b u):=by
 have e:(kvs.any fun kv=>decide (kv.1=k))=(atKey xs k).isSome:=by
  rw [zdA,(r.val k).isSome_eq,ycM]
 unfold zdR storedH;rw [e]
 by_cases q:(atKey xs k).isSome=true
 ·rw [if_pos q,if_pos q];exact r.repl k ry
 ·rw [if_neg q,if_neg q];exact Paired.snoc r ⟨rfl,hb,ry⟩
def KT.keeps{H H':Hp}{kvs:List (List Key×V)}{xs:List (List Key×Addr×Value)}(r:KT H kvs xs)(ht:∀b ys,H b=some (.tup ys)->H' b=some (.tup ys)):KT H' kvs xs :=
 Paired.mapP r fun _ _ z=>⟨z.1,ht _ _ z.2.1,z.2.2⟩
section
variable{P:Program}{w:World}{H:Hp}{h:Heap}{a:Addr}
def zp2{u:HO}(ok:HOk P w H h)(e:Rd H a u):zaG P w H h a u:=e.ok ok
def zed{kvs:List (Key×V)}(ok:HOk P w H h)(e:Rd H a (.dK kvs)):kvs.length<=sizeLine/\(a == sysModules)=false/\∃vs,KV kvs vs/\h.DictOf (zap P w) a vs :=
 show zaG P w H h a (.dK kvs) from zp2 ok e
def zrm{kvs:List (Key×V)}(ok:HOk P w H h)(e:H a=some (.dK kvs)):kvs.length<=sizeLine/\(a == sysModules)=false/\∃vs,KV kvs vs/\h.DictOf (zap P w) a vs:=zed ok (.inl e)
def zen{ks:List Key}(ok:HOk P w H h)(e:H a=some (.tup (ks.map kV))):(tupleKind (zap P w)).is h ks a:=by
 obtain ⟨_,its,r,o,h1,h2,n,h3,_⟩:=(show zaG P w H h a (.tup (ks.map kV)) from ok a _ e);exact ⟨o,its.toArray,n,h1,h2,h3,by simpa using zfV r⟩
def zgV{kvs:List (List Key×V)}(ok:HOk P w H h)(e:Rd H a (.dT kvs)):kvs.length<=sizeLine/\(a == sysModules)=false ∧
  ∃xs,KT H kvs xs/\h.DictOfH (tupleKind (zap P w)) a xs:=by
 obtain ⟨z,y,xs,r,o,es,ep,h1,h2,h3,h4,h5⟩:=(show zaG P w H h a (.dT kvs) from zp2 ok e);refine ⟨z,y,xs,r,o,es,ep,h1,h2,h3,h4,fun x hx=>?_,h5⟩
 have all:∀{l:List (List Key×V)} {m:List (List Key×Addr×Value)},KT H l m->∀x∈m,(tupleKind (zap P w)).is h x.1 x.2.1:=by
  intro l m q
  induction q with
  | nil=>intro x hx;exact nomatch hx
  | @cons p q ps qs hq t ih =>
   intro x hx
   rcases yao.mp hx with e | hx
   ·subst e;exact zen ok (by rw [<-hq.1];exact hq.2.1)
   ·exact ih x hx
 exact all r x hx
def ztF{kvs:List (List Key×V)}(ok:HOk P w H h)(e:H a=some (.dT kvs)):kvs.length<=sizeLine/\(a == sysModules)=false ∧
  ∃xs,KT H kvs xs/\h.DictOfH (tupleKind (zap P w)) a xs:=zgV ok (.inl e)
end
noncomputable def zmV(H:Hp)(a:Addr)(y:V)(r:Option V):Prop :=
 (∃kvs k,Rd H a (.dK kvs)/\y=kV k/\r=zgm kvs k)\/∃kvs k b,Rd H a (.dT kvs)/\y=.ref b/\H b=some (.tup (k.map kV))/\r=zgm kvs k
noncomputable def zrP(H:Hp)(a:Addr)(y v:V)(H':Hp):Prop :=
 (∃kvs k,H a=some (.dK kvs)/\y=kV k/\kvs.length<sizeLine/\H'=upd H a (.dK (zdR kvs k v))) ∨
 ∃kvs k b,H a=some (.dT kvs)/\y=.ref b/\H b=some (.tup (k.map kV))/\kvs.length<sizeLine/\H'=upd H a (.dT (zdR kvs k v))
theorem zrP.k{H:Hp}{a:Addr}{kvs:List (Key×V)}{k:Key}{v:V}(e:H a=some (.dK kvs))(hl:kvs.length<sizeLine):zrP H a (kV k) v (upd H a (.dK (zdR kvs k v))):=.inl ⟨kvs,k,e,rfl,hl,rfl⟩
section
variable{X:Cx}{pins:Z3}{σ:St}{H:Hp}{s:Shared}{a:Addr}{y v:V}{u r:Value}{o:Option V}{A:Around}{E:Z5}
def Inv.big(I:Inv X pins σ H s):sysModules<s.heap.objs.size:=by
 have h:mainGlobals<s.heap.objs.size:=(I.mod.glob.keeps I.bk).lt;exact ycG (by decide) h
def zkc{Q:Z5}(hu:A.units+1<cLine)(I:Inv X pins σ H s)(g:zmV H a y (some v))(ry:zaI y u)(h:∀w' s',Inv X pins σ H s'->zaI v w'->Q w' s') :
  wpAny (model X.prog X.w) A (getItem (.ref a) u) Q E s:=by
 rcases g with ⟨kvs,k,e,ey,l⟩ | ⟨kvs,k,b,e,ey,eb,l⟩
 ·subst ey;obtain ⟨z,hd,vs,rel,dd⟩:=zed I.hok e;obtain ⟨w',hw,rw'⟩:=zix.some_of (v:=v) (o:=valueAt vs k) (by rw [l];exact rel.val k);exact wpAny_getItem_of (zfU ry) dd.mapOf hw (h w' _ (I.tok _) rw')
 ·subst ey;cases (show u=Value.ref b from ry);obtain ⟨z,hd,xs,rel,dd⟩:=zgV I.hok e;obtain ⟨w',hw,rw'⟩:=zix.some_of (v:=v) (o:=(atKey xs k).map (·.2)) (by rw [l];exact rel.val k);obtain ⟨p,hp,hp2⟩:=yax.mp hw;refine wpAny_getItem_heap (ybG hu) (zen I.hok eb) dd hp ?_;rw [hp2];exact h w' _ (I.tok _) rw'
def zwQ{Q:Z5}(hu:A.units+1<cLine)(I:Inv X pins σ H s)(g:zmV H a y o)(ry:zaI y u)(h:∀s',Inv X pins σ H s'->Q (.bool o.isSome) s') :
  wpAny (model X.prog X.w) A (compareOp .In u (.ref a)) Q E s:=by
 rcases g with ⟨kvs,k,e,ey,l⟩ | ⟨kvs,k,b,e,ey,eb,l⟩
 ·subst ey;obtain ⟨z,hd,vs,rel,dd⟩:=zed I.hok e;refine wpAny_in_of (zfU ry) hd dd.mapOf ?_;rw [<-(rel.val k).isSome_eq,<-l];exact h _ (I.tok _)
 ·subst ey;cases (show u=Value.ref b from ry);obtain ⟨z,hd,xs,rel,dd⟩:=zgV I.hok e;refine wpAny_in_heap (ybG hu) (zen I.hok eb) hd dd ?_;have q:=(rel.val k).isSome_eq;rw [ycM] at q;rw [<-q,<-l];exact h _ (I.tok _)
def zoD{Q:Z5}(hu:A.units+1<cLine)(I:Inv X pins σ H s)(g:zmV H a y o)(ry:zaI y u)(h:∀s',Inv X pins σ H s'->Q (.bool (!o.isSome)) s') :
  wpAny (model X.prog X.w) A (compareOp .NotIn u (.ref a)) Q E s:=by
 rcases g with ⟨kvs,k,e,ey,l⟩ | ⟨kvs,k,b,e,ey,eb,l⟩
 ·subst ey;obtain ⟨z,hd,vs,rel,dd⟩:=zed I.hok e;refine wpAny_notIn_of (zfU ry) hd dd.mapOf ?_;rw [<-(rel.val k).isSome_eq,<-l];exact h _ (I.tok _)
 ·subst ey;cases (show u=Value.ref b from ry);obtain ⟨z,hd,xs,rel,dd⟩:=zgV I.hok e;refine wpAny_notIn_heap (ybG hu) (zen I.hok eb) hd dd ?_;have q:=(rel.val k).isSome_eq;rw [ycM] at q;rw [<-q,<-l];exact h _ (I.tok _)
def zgZ{h':Heap}{t':Nat}{ob:HO}(I:Inv X pins σ H s)(mu:Mut (H a))(hs:Heap.SameBut a s.heap h')(he:∃q,h'.get? a=some q)(new:zaG X.prog X.w (upd H a ob) h' a ob) :
  Inv X pins σ (upd H a ob) { s with heap:=h',toks:=t' } :=
 I.write (x:=a) (e:=a) mu (.inl rfl) (fun b q hb z=>(hs.2 b hb).trans z) he new
def zmH{P:Program}{w:World}{H':Hp}{h':Heap}{kvs:List (Key×V)}{vs:List (Key×Value)}(z:kvs.length<=sizeLine)(hd:(a == sysModules)=false)(rel:KV kvs vs)(dd:h'.DictOf (zap P w) a vs) :
  zaG P w H' h' a (.dK kvs):=⟨z,hd,vs,rel,dd⟩
def zkb{H':Hp}{Q:Unit->Shared->Prop}(hu:A.units+1<cLine)(I:Inv X pins σ H s)(g:zrP H a y v H')(ry:zaI y u)(rv:zaI v r)(h:∀s',Inv X pins σ H' s'->Q () s') :
  wpAny (model X.prog X.w) A (setItem (.ref a) u r) Q E s:=by
 rcases g with ⟨kvs,k,e,ey,l,eH⟩ | ⟨kvs,k,b,e,ey,eb,l,eH⟩
 ·subst ey eH;obtain ⟨z,hd,vs,rel,dd⟩:=zrm I.hok e
  have hz:vs.length<=sizeLine:=by rw [<-rel.length];exact z
  have hl:(zdR kvs k v).length<=sizeLine:=by have:=zb5 kvs k v;omega
  refine wpAny_setItem_pairs (hsz:=hz) (zfU ry) dd fun h' dd' hs=>h _ ?_
  have he:∃q,h'.get? a=some q:=let ⟨q,_,_,hq,_⟩:=dd';⟨q,hq⟩
  exact zgZ I (by rw [e];exact True.intro) hs he (zmH hl hd (rel.put k rv) dd')
 ·subst ey eH;cases (show u=Value.ref b from ry);obtain ⟨z,hd,xs,rel,dd⟩:=ztF I.hok e
  have hz:xs.length<=sizeLine:=by rw [<-Paired.length rel];exact z
  have hl:(zdR kvs k v).length<=sizeLine:=by have:=zb5 kvs k v;omega
  refine wpAny_setItem_heap (hsz:=hz) (ybG hu) (zen I.hok eb) dd fun h' dd' hs=>h _ ?_
  obtain ⟨q,es,ep,hq,h2,h3,h4,_,h5⟩:=dd';refine zgZ I (by rw [e];exact True.intro) hs ⟨q,hq⟩ ⟨hl,hd,_,(rel.put k eb rv).keeps fun c ys ec=>?_,q,es,ep,hq,h2,h3,h4,h5⟩;rw [zah (ztd ec e (fun z=>nomatch z))];exact ec
end
def zgW{X:Cx}{pins:Z3}{σ:St}{H:Hp}{s:Shared}{a:Addr}{y:V}{o:Option V}(I:Inv X pins σ H s)(g:zmV H a y o):s.TypeIs (.ref a) "dict":=by
 rcases g with ⟨kvs,k,e,_,_⟩ | ⟨kvs,k,b,e,_,_,_⟩
 ·obtain ⟨_,_,vs,_,dd⟩:=zed I.hok e;exact dd.typeIs
 ·obtain ⟨_,_,xs,_,dd⟩:=zgV I.hok e;exact dd.typeIs
def zhN{P:Program}{w:World}{H:Hp}(h:Heap)(hb:sysModules<h.objs.size):zaG P w H (h.push { cls:=.type "dict",data:=.dict #[] }) h.objs.size (.dK []) :=
 ⟨yaP _,ycu.mpr (Ne.symm (yau hb)),[],.nil,Heap.DictOf.new h⟩
noncomputable def zpk:TE:=fun _ H Q=>∀p,H p=none->Q (.ref p) (upd H p (.dK []))
section
variable{X:Cx}{pos:Pos}
def zlh:PE X (.Dict [] [] pos) zpk:=fun pins s σ H Q I h =>
 wpAny_Dict_empty ⟨.ref s.heap.objs.size,_,I.laid (a:=s.heap.objs.size) (o:=.dK []) (t':=s.toks) (fun _ _ q=>yae _ q) (yak _) (zhN s.heap I.big),rfl,h _ (I.hok.fresh (yak _))⟩
end
noncomputable def ziL:List (TE×TE)->St->Hp->(List (V×V)->Hp->Prop)->Prop
 | [],_,H,Q=>Q [] H
 | (tk,tv)::r,σ,H,Q=>tk σ H fun x H1=>tv σ H1 fun y H2=>ziL r σ H2 fun ps H3=>Q ((x,y)::ps) H3
noncomputable abbrev VV:List (V×V)->List (Value×Value)->Prop:=Paired fun p q=>zaI p.1 q.1/\zaI p.2 q.2
noncomputable def PPs(X:Cx)(pos:Pos)(keys:List (Option Expr))(values:List Expr)(trs:List (TE×TE)):Prop :=
 ∀(pins:Z3) (s:Shared) (σ:St) (H:Hp) (Q:List (V×V)->Hp->Prop),Inv X pins σ H s->ziL trs σ H Q →
  wpAny (model X.prog X.w) X.A (evalPairs (pairTrees keys values X.env pos)) (fun vs s'=>∃ps H',Inv X pins σ H' s'/\VV ps vs/\Q ps H') X.xe s
def znG{X:Cx}{pos:Pos}:PPs X pos [] [] []:=fun pins s σ H Q I h=>pairTrees_nil_walk ⟨[],H,I,.nil,h⟩
def zlb{X:Cx}{pos:Pos}{k v:Expr}{ks:List (Option Expr)}{vs:List Expr}{tk tv:TE}{trs:List (TE×TE)}(hk:PE X k tk)(hv:PE X v tv)(hr:PPs X pos ks vs trs) :
  PPs X pos (some k::ks) (v::vs) ((tk,tv)::trs):=fun pins s σ H Q I h =>
 pairTrees_cons_walk (thn (hk pins s σ H _ I h) fun u s1 ⟨x,H1,I1,rx,q1⟩=>thn (hv pins s1 σ H1 _ I1 q1) fun w2 s2 ⟨y,H2,I2,ry,q2⟩ =>
  thn (hr pins s2 σ H2 _ I2 q2) fun ws s3 ⟨ps,H3,I3,rel,q3⟩=>⟨(x,y)::ps,H3,I3,.cons ⟨rx,ry⟩ rel,q3⟩)
noncomputable def zel(kvs more:List (Key×V)):List (Key×V):=more.foldl (fun acc kv=>zdR acc kv.1 kv.2) kvs
def KV.merge:∀{more:List (Key×V)} {rs:List (Key×Value)} {kvs:List (Key×V)} {vs:List (Key×Value)},KV more rs->KV kvs vs->KV (zel kvs more) (merged vs rs):=by
 intro more rs kvs vs r;unfold KV at r
 induction r generalizing kvs vs with
 | nil=>intro q;exact q
 | @cons p q ps qs h t ih =>
  intro r0
  have e:KV (zdR kvs p.1 p.2) (stored vs q.1 q.2):=by
   have:=r0.put p.1 h.2;rw [<-h.1];exact this
  exact ih e
theorem zcT:∀(more kvs:List (Key×V)),(zel kvs more).length<=kvs.length+more.length
 | [],kvs=>by show kvs.length<=kvs.length+0;omega
 | p::r,kvs=>by
  have h1:=zcT r (zdR kvs p.1 p.2);have h2:=zb5 kvs p.1 p.2;show (zel (zdR kvs p.1 p.2) r).length<=_;rw [yan];omega
theorem zex{P:Program}{w:World}:∀{kvs:List (Key×V)} {ws:List (Value×Value)},VV (kvs.map fun kv=>(kV kv.1,kv.2)) ws->∃rs,Carries (zap P w) ws rs/\KV kvs rs
 | [],_,r=>by rw [List.map_nil] at r;cases r;exact ⟨[],True.intro,.nil⟩
 | p::kvs,_,r=>by
  rw [yas] at r
  cases r with
  | @cons a b as bs h t =>
   obtain ⟨rs,c,q⟩:=zex (P:=P) (w:=w) t;obtain ⟨b1,b2⟩:=b;exact ⟨(p.1,b2)::rs,⟨zfU h.1,rfl,c⟩,.cons ⟨rfl,h.2⟩ q⟩
noncomputable def zsE(trs:List (TE×TE)):TE:=fun σ H Q=>∀p,H p=none->ziL trs σ (upd H p (.dK [])) fun ps H2=>H2 p=some (.dK [])/\∃kvs:List (Key×V),ps=kvs.map (fun kv=>(kV kv.1,kv.2))/\kvs.length<=15/\Q (.ref p) (upd H2 p (.dK (zel [] kvs)))
def znQ{X:Cx}{pos:Pos}{keys:List (Option Expr)}{values:List Expr}{trs:List (TE×TE)}(h:PPs X pos keys values trs)(hall:keys.all (·.isSome)=true)(hl:keys.length=values.length)(h0:keys≠[])
  (h15:keys.length<=15):PE X (.Dict keys values pos) (zsE trs):=by
 intro pins s σ H Q I q;have hn:=I.hok.fresh (yak s.heap.objs.size);have I1:=I.laid (a:=s.heap.objs.size) (o:=.dK []) (h':=s.heap.push { cls:=.type "dict",data:=.dict #[] }) (t':=s.toks) (fun _ _ q=>yae _ q) (yak _) (zhN s.heap I.big);refine wpAny_Dict_walk (knd:=zap X.prog X.w) hall hl h0 h15 (thn (h pins _ σ _ _ I1 (q _ hn)) fun ws s2 ⟨ps,H2,I2,rel,e,kvs,ep,lk,q2⟩=>?_);subst ep;obtain ⟨rs,c,rk⟩:=zex (P:=X.prog) (w:=X.w) rel;obtain ⟨z,hd,vs0,r0,dd⟩:=zrm I2.hok e;cases r0;refine ⟨rs,c,dd,fun h' dd' hs=>⟨.ref s.heap.objs.size,_,?_,rfl,q2⟩⟩
 have hz:(zel [] kvs).length<=sizeLine:=by
  have h1:=zcT kvs [];rw [List.length_nil] at h1;rw [ycQ];omega
 have he:∃q,h'.get? s.heap.objs.size=some q:=let ⟨q,_,_,hq,_⟩:=dd';⟨q,hq⟩
 exact zgZ I2 (by rw [e];exact True.intro) hs he (zmH hz hd (rk.merge .nil) dd')
structure M2(X:Cx)(o:Expr)(m:Str)(apos:Pos)(e f:Expr)(cpos:Pos):Prop where
 base:attributeBase o m X.env (eval o X.env)=eval o X.env
 few:((backTo cpos (starEach [e,f] X.env)).all (fun x=>!x.1)&&(backToKw cpos (keywordEach [] X.env)).all (fun x=>x.1.isSome)
  && decide (([e,f]:List Expr).length+([]:List Keyword).length+(if ([]:List Keyword).isEmpty then 0 else 1)<30))=true
 line:(apos.endLine == cpos.line)=true
 trees:backTo cpos (starEach [e,f] X.env)=[(false,eval e X.env),(false,eval f X.env)]
noncomputable def IsD(H:Hp)(a:Addr):Prop:=(∃kvs,Rd H a (.dK kvs))\/∃kvs,Rd H a (.dT kvs)
def zrc{X:Cx}{pins:Z3}{σ:St}{H:Hp}{s:Shared}{a:Addr}(I:Inv X pins σ H s)(d:IsD H a) :
  s.TypeIs (.ref a) "dict" /\ (∀b,Value.ref a=.ref b->∃ob,s.heap.get? b=some ob/\ob.dict=none)/\(a == sysModules)=false:=by
 rcases d with ⟨kvs,e⟩ | ⟨kvs,e⟩
 ·obtain ⟨_,hd,vs,_,dd⟩:=zed I.hok e;refine ⟨dd.typeIs,fun b q=>?_,hd⟩;cases q;obtain ⟨ob,_,_,h1,h2,_⟩:=dd;exact ⟨ob,h1,h2.2.1⟩
 ·obtain ⟨_,hd,xs,_,dd⟩:=zgV I.hok e;refine ⟨dd.typeIs,fun b q=>?_,hd⟩;cases q;obtain ⟨ob,_,_,h1,h2,_⟩:=dd;exact ⟨ob,h1,h2.2.1⟩
section
variable{X:Cx}{pins:Z3}{σ:St}{H:Hp}{s:Shared}{a:Addr}{y d:V}{u r:Value}{o:Option V}{A:Around}{E:Z5}
def zrp{Q:Z5}(hu:A.units+1<cLine)(I:Inv X pins σ H s)(g:zmV H a y o)(ry:zaI y u)(rd:zaI d r)(h:∀w' s',Inv X pins σ H s'->zaI (o.getD d) w'->Q w' s') :
  wpAny (model X.prog X.w) A (call (.builtin "dict.get") [.ref a,u,r]) Q E s:=by
 rcases g with ⟨kvs,k,e,ey,l⟩ | ⟨kvs,k,b,e,ey,eb,l⟩
 ·subst ey;obtain ⟨z,hd,vs,rel,dd⟩:=zed I.hok e;refine call_meetsIn ycj dd.typeIs PySem.F.entry_dict_get (PySem.F.args_dict_get_3 _ _ _) (meets_dict_get_default (zap X.prog X.w) a (zfU ry) hd r) ⟨_,dd.mapOf,h _ _ (I.tok _) ?_⟩;rw [l];exact (rel.val k).getD rd
 ·subst ey;cases (show u=Value.ref b from ry);obtain ⟨z,hd,xs,rel,dd⟩:=zgV I.hok e;refine call_meetsIn ycj dd.typeIs PySem.F.entry_dict_get (PySem.F.args_dict_get_3 _ _ _) (meetsH_dict_get_default (tupleKind (zap X.prog X.w)) a b hd r) ⟨ybG hu,k,xs,zen I.hok eb,dd,h _ _ (I.tok _) ?_⟩;rw [l];exact (rel.val k).getD rd
end
noncomputable def zpl(td ty tx:TE):TE:=fun σ H Q=>td σ H fun x H1=>∃a,x=.ref a/\IsD H1 a/\ty σ H1 fun y H2=>tx σ H2 fun z H3=>∃o,zmV H3 a y o/\Q (o.getD z) H3
section
variable{X:Cx}{o e f:Expr}{apos cpos:Pos}{td ty tx:TE}
def zli(hu:X.A.units+1<cLine)(ho:PE X o td)(he:PE X e ty)(hf:PE X f tx)(m:M2 X o "get" apos e f cpos):PE X (.Call (.Attribute o "get" apos) [e,f] [] cpos) (zpl td ty tx):=by
 intro pins s σ H Q I h;refine wpAny_Call_method m.base m.few m.line PySem.F.plainAttrs_dict ycj PySem.F.type_dict_get (thn (ho pins s σ H _ I h) fun u s1 ⟨x,H1,I1,rx,a,ex,d,q1⟩=>?_);subst ex;obtain rfl:u=Value.ref a:=rx;obtain ⟨t1,t2,_⟩:=zrc I1 d;refine ⟨t1,t2,?_⟩;rw [m.trees]
 refine Calls.callWith_builtin rfl (ycr (ycE (thn (he pins s1 σ H1 _ I1 q1) fun iv s2 ⟨y,H2,I2,ry,q2⟩ =>
  ycE (thn (hf pins s2 σ H2 _ I2 q2) fun fv s3 ⟨z,H3,I3,rz,ov,g,q3⟩=>Calls.spliced_nil ?_))))
 exact zrp hu I3 g ry rz fun w' s4 I4 rw'=>⟨_,H3,I4,rw',q3⟩
end
noncomputable def zrQ(qual:Str)(oc:Obj):Prop:=∃us t,oc.data=.fields us/\us[1]?=some (.str qual t)
noncomputable def zo0(mg:Z6)(h:Heap):Prop:=∃bm ob,mg "__builtins__" = some (.ref bm)/\bm≠builtinsNs/\h.get? bm=some ob/\ob.cls=.type "module" /\ ob.dict=some builtinsNs/\ob.data=.plain
def zkG{H:Hp}{a:Addr}{o:HO}(h:H a=some o):upd H a o=H:=by
 funext b
 by_cases e:b=a
 ·rw [e,zaL,h]
 ·rw [zah e]
def Inv.fz{X:Cx}{pins:Z3}{σ:List (Option V)}{H:Hp}{s:Shared}{a:Addr}{kvs:List (Key×V)}(I:Inv X pins σ H s)(e:H a=some (.dK kvs)):∃ob,Inv X pins σ (upd H a (.frz ob (.dK kvs))) s:=by
 have x:zaG X.prog X.w H s.heap a (.dK kvs):=I.hok a _ e;obtain ⟨z,y,vs,r,ob,es,ep,g,c⟩:=id x
 have ne:∀(b:Addr) (u:HO),H b=some u->u≠.dK kvs->upd H a (.frz ob (.dK kvs)) b=some u:=fun b u hb hn=>by
  rw [zah (fun q=>hn (by rw [q,e] at hb;cases hb;rfl))];exact hb
 refine ⟨ob,I.un (t':=s.toks) ⟨fun _ _ g _ _ _=>g,fun _ o g _ _ _=>⟨o.slots,g⟩,fun b o _ n _=>?_,fun _ o g _=>⟨o,g⟩,fun b xs h=>ne b _ h (by simp),fun b o u h=>ne b _ h (by simp),fun b ps h=>⟨#[],by rw [Array.append_empty];exact ne b _ h (by simp)⟩⟩
  (HOk.write I.hok (x:=a) (by rw [e];trivial) (.inl rfl) (fun _ _ _ g=>g) ⟨ob,g⟩ ⟨g,?_⟩)⟩
 ·rw [zah (fun q=>by rw [q,e] at n;cases n)];exact n
 ·exact x.stay (fun _ _ _ g=>g) (fun b h=>ne b _ h (by simp)) fun b xs h=>ne b _ h (by simp)
end L2
namespace S2
open PySem PySem.Spec PyProof.Rows L2
noncomputable abbrev St:=L2.St
inductive D where
 | non | bl (b:Bool) | int (i:Int) | str (x:Str) | tup (l:List D) | lst (l:List D) | dic (l:List (D×D)) | ref (n:Nat) | exc (c:Str) | scr (l:List Int)
inductive Root where
 | slot (i:Nat) | fld (n:Nat) (f:Str) | obj (n:Nat) | far | tab
 deriving DecidableEq
noncomputable abbrev Ow:=Addr->Option Root
structure Cf where
 ad:Str->Addr
 K:PySem.W.Frag
 P:Program
 wo:PySem.World
 tabs:Addr->Option Str:=fun _=>none
noncomputable instance:CoeFun Cf (fun _=>Str->Addr):=⟨Cf.ad⟩
structure Wd where
 H:Hp
 ow:Ow
 mu:List Addr
mutual
inductive Shd(cl:Cf)(w:Wd):V->D->Prop
 | non:Shd cl w .non .non
 | bl (b:Bool):Shd cl w (.bl b) (.bl b)
 | int (i:Int):Shd cl w (.int i) (.int i)
 | str (x:Str):Shd cl w (.str x) (.str x)
 | tup {a:Addr} {xs:List V} {ds:List D}:w.H a=some (.tup xs)->w.ow a=none->Shds cl w xs ds->Shd cl w (.ref a) (.tup ds)
 | lst {a:Addr} {xs:List V} {ds:List D}:w.H a=some (.lst xs)->w.ow a=none->Shds cl w xs ds->Shd cl w (.ref a) (.lst ds)
 | dicK {a:Addr} {ob:Obj} {kvs:List (Key×V)} {ds:List (D×D)}:w.H a=some (.frz ob (.dK kvs))->w.ow a=none->ShdK cl w kvs ds->Shd cl w (.ref a) (.dic ds)
 | ref {n:Nat} {a:Addr}:w.mu[n]?=some a->Shd cl w (.ref a) (.ref n)
 | scr {a:Addr} {o:Obj} {l:List Int}:w.H a=some (.frz o (.lst (l.map V.int)))->w.ow a=none->Shd cl w (.ref a) (.scr l)
 | scrK {a:Addr} {l:List Int}:(∀H:Hp,SqL cl.K H a (l.map V.int))->Shd cl w (.ref a) (.scr l)
 | exc {a:Addr} {c:Str} {ob:Obj}:w.H a=some (.frz ob (.own a))->w.ow a=none->ob.cls=.ref (cl c)->Shd cl w (.ref a) (.exc c)
inductive Shds(cl:Cf)(w:Wd):List V->List D->Prop
 | nil:Shds cl w [] []
 | cons {v:V} {d:D} {vs:List V} {ds:List D}:Shd cl w v d->Shds cl w vs ds->Shds cl w (v::vs) (d::ds)
inductive ShdK(cl:Cf)(w:Wd):List (Key×V)->List (D×D)->Prop
 | nil:ShdK cl w [] []
 | consI {i:Int} {v:V} {d:D} {vs:List (Key×V)} {ds:List (D×D)}:Shd cl w v d->ShdK cl w vs ds->ShdK cl w ((.inl i,v)::vs) ((.int i,d)::ds)
 | consS {x:Str} {v:V} {d:D} {vs:List (Key×V)} {ds:List (D×D)}:Shd cl w v d->ShdK cl w vs ds->ShdK cl w ((.inr x,v)::vs) ((.str x,d)::ds)
end
structure Fut(w w':Wd):Prop where
 keep:∀a o,w.H a=some o->w.ow a=none->w'.H a=some o/\w'.ow a=none
 mu:∀(n:Nat) (a:Addr),w.mu[n]?=some a->w'.mu[n]?=some a
def Fut.refl(w:Wd):Fut w w:=⟨fun _ _ h k=>⟨h,k⟩,fun _ _ h=>h⟩
def Fut.trans(a:Fut w w1)(b:Fut w1 w2):Fut w w2:=⟨fun c o h k=>b.keep c o (a.keep c o h k).1 (a.keep c o h k).2,fun n c h=>b.mu n c (a.mu n c h)⟩
mutual
theorem Shd.up{cl:Cf}{w w':Wd}(f:Fut w w'):∀{v:V} {d:D},Shd cl w v d->Shd cl w' v d
 | _,_,.non=>.non
 | _,_,.bl b=>.bl b
 | _,_,.int i=>.int i
 | _,_,.str x=>.str x
 | _,_,.tup e k r=>.tup (f.keep _ _ e k).1 (f.keep _ _ e k).2 (Shds.up f r)
 | _,_,.lst e k r=>.lst (f.keep _ _ e k).1 (f.keep _ _ e k).2 (Shds.up f r)
 | _,_,.dicK e k r=>.dicK (f.keep _ _ e k).1 (f.keep _ _ e k).2 (ShdK.up f r)
 | _,_,.ref e=>.ref (f.mu _ _ e)
 | _,_,.scr e k=>.scr (f.keep _ _ e k).1 (f.keep _ _ e k).2
 | _,_,.scrK h=>.scrK h
 | _,_,.exc e k h=>.exc (f.keep _ _ e k).1 (f.keep _ _ e k).2 h
theorem Shds.up{cl:Cf}{w w':Wd}(f:Fut w w'):∀{vs:List V} {ds:List D},Shds cl w vs ds->Shds cl w' vs ds
 | _,_,.nil=>.nil
 | _,_,.cons r t=>.cons (Shd.up f r) (Shds.up f t)
theorem ShdK.up{cl:Cf}{w w':Wd}(f:Fut w w'):∀{vs:List (Key×V)} {ds:List (D×D)},ShdK cl w vs ds->ShdK cl w' vs ds
 | _,_,.nil=>.nil
 | _,_,.consI r t=>.consI (Shd.up f r) (ShdK.up f t)
 | _,_,.consS r t=>.consS (Shd.up f r) (ShdK.up f t)
end
section
variable{cl:Cf}{w:Wd}
theorem Shds.length:∀{vs:List V} {ds:List D},Shds cl w vs ds->vs.length=ds.length
 | _,_,.nil=>rfl
 | _,_,.cons _ t=>by rw [yan,yan,Shds.length t]
theorem Shds.get:∀{vs:List V} {ds:List D},Shds cl w vs ds->∀{i:Nat} {v:V},vs[i]?=some v->∃d,ds[i]?=some d/\Shd cl w v d
 | _,_,.nil,i,v,e=>by simp at e
 | _,_,.cons r _,0,v,e=>by simp at e;subst e;exact ⟨_,rfl,r⟩
 | _,_,.cons _ t,i+1,v,e=>by
  obtain ⟨d,h1,h2⟩:=Shds.get t (i:=i) (v:=v) (by simpa using e);exact ⟨d,by simpa using h1,h2⟩
theorem Shds.at:∀{vs:List V} {ds:List D},Shds cl w vs ds->∀{i:Nat} {d:D},ds[i]?=some d->∃v,vs[i]?=some v/\Shd cl w v d
 | _,_,.nil,i,v,e=>by simp at e
 | _,_,.cons r _,0,v,e=>by simp at e;subst e;exact ⟨_,rfl,r⟩
 | _,_,.cons _ t,i+1,v,e=>by
  obtain ⟨d,h1,h2⟩:=Shds.at t (i:=i) (d:=v) (by simpa using e);exact ⟨d,by simpa using h1,h2⟩
theorem Shds.append:∀{vs ws:List V} {ds es:List D},Shds cl w vs ds->Shds cl w ws es->Shds cl w (vs++ws) (ds++es)
 | _,_,_,_,.nil,s=>s
 | _,_,_,_,.cons r t,s=>.cons r (Shds.append t s)
theorem Shds.take:∀{vs:List V} {ds:List D} (n:Nat),Shds cl w vs ds->Shds cl w (vs.take n) (ds.take n)
 | _,_,0,_=>.nil
 | _,_,_+1,.nil=>.nil
 | _,_,n+1,.cons r t=>.cons r (Shds.take n t)
theorem Shds.drop:∀{vs:List V} {ds:List D} (n:Nat),Shds cl w vs ds->Shds cl w (vs.drop n) (ds.drop n)
 | _,_,0,s=>s
 | _,_,_+1,.nil=>.nil
 | _,_,n+1,.cons _ t=>Shds.drop n t
theorem Shds.flat(h:Shds cl w vs ds):∀n:Nat,Shds cl w (List.replicate n vs).flatten (List.replicate n ds).flatten
 | 0=>.nil
 | n+1=>by
  rw [ya6,ya6,ya1,ya1];exact Shds.append h (Shds.flat h n)
end
inductive Top(cl:Cf)(w:Wd):HO->D->Prop
 | lst {xs:List V} {ds:List D}:Shds cl w xs ds->Top cl w (.lst xs) (.lst ds)
 | dicK {kvs:List (Key×V)} {ds:List (D×D)}:ShdK cl w kvs ds->Top cl w (.dK kvs) (.dic ds)
theorem Top.up(f:Fut w w'):Top cl w o d->Top cl w' o d
 | .lst h=>.lst (h.up f)
 | .dicK h=>.dicK (h.up f)
noncomputable def zgi(cl:Cf)(w:Wd)(r:Root):Bool->V->D->Prop
 | false,v,d=>Shd cl w v d
 | true,v,d=>∃a o,v=.ref a/\w.ow a=some r/\w.H a=some o/\Top cl w o d
theorem zgi.keep(f:Fut w w')(k:∀a o,w.H a=some o->w.ow a=some r->w'.H a=some o/\w'.ow a=some r):∀{b:Bool} {v:V} {d:D},zgi cl w r b v d->zgi cl w' r b v d
 | false,_,_,h=>Shd.up f h
 | true,_,_,⟨a,o,e,h1,h2,t⟩=>⟨a,o,e,(k a o h2 h1).2,(k a o h2 h1).1,t.up f⟩
noncomputable def zmc(cl:Cf)(w:Wd)(r:Root)(own:Bool)(v:V)(d:D):Prop:=(own=false/\Shd cl w v d)\/(own=true/\∃d0,d=.tup [d0]/\zgi cl w r true v d0)
theorem zmc.keep(f:Fut w w')(k:∀a o,w.H a=some o->w.ow a=some r->w'.H a=some o/\w'.ow a=some r)(h:zmc cl w r b v d):zmc cl w' r b v d:=by
 rcases h with ⟨e,h⟩ | ⟨e,d0,e1,h⟩
 ·exact .inl ⟨e,h.up f⟩
 ·exact .inr ⟨e,d0,e1,h.keep f k⟩
structure Ob where
 cls:Str
 fs:List (Str×Bool×D)
noncomputable abbrev Sto:=List Ob
noncomputable def zrO(cl:Cf)(w:Wd)(n:Nat):List (Str×V)->List (Str×Bool×D)->Prop:=Paired fun p q=>p.1=q.1/\zmc cl w (.fld n q.1) q.2.1 p.2 q.2.2
noncomputable def zsd(cl:Cf)(w:Wd)(n:Nat)(a:Addr)(ob:Ob):Prop:=w.ow a=some (.obj n)/\∃dx fs,w.H a=some (.ins (cl ob.cls) dx fs)/\zrO cl w n fs ob.fs
noncomputable def zqD(n:Nat):Option Root->Prop | some (.obj m)=>m=n | some (.fld m _)=>m=n | _=>False
theorem zrO.keep(f:Fut w w')(k:∀a o,w.H a=some o->zqD n (w.ow a)->w'.H a=some o/\w'.ow a=w.ow a):∀{fs:List (Str×V)} {gs:List (Str×Bool×D)},zrO cl w n fs gs->zrO cl w' n fs gs
 | _,_,.nil=>.nil
 | _,_,.cons ⟨e,h⟩ t=>.cons ⟨e,h.keep f fun a o ha hr=>by
   have:=k a o ha (by rw [hr];rfl)
   exact ⟨this.1,this.2.trans hr⟩⟩ (zrO.keep f k t)
theorem zsd.keep(f:Fut w w')(k:∀a o,w.H a=some o->zqD n (w.ow a)->w'.H a=some o/\w'.ow a=w.ow a)(h:zsd cl w n a ob):zsd cl w' n a ob:=by
 obtain ⟨h1,dx,fs,h2,h3⟩:=h;have:=k a _ h2 (by rw [h1];rfl);exact ⟨this.2.trans h1,dx,fs,this.1,h3.keep f k⟩
noncomputable def zl8(w:Wd)(qual:Str)(ps:Array Value):Prop:=TriplesOk ps.toList/\∀pos cv,codeAmong pos ps.toList=some cv->∃c oc,cv=.ref c/\(w.H c=some (.frz oc (.own c))/\w.ow c=none)/\zrQ qual oc
def zl8.up{w w':Wd}(f:Fut w w'){q:Str}{ps:Array Value}(h:zl8 w q ps):zl8 w' q ps :=
 ⟨h.1,fun pos cv e=>let ⟨c,oc,h1,h2,h3⟩:=h.2 pos cv e;⟨c,oc,h1,f.keep _ _ h2.1 h2.2,h3⟩⟩
noncomputable def zl9(cl:Cf)(w:Wd):Prop:=∀P q,cl.tabs P=some q->∃ps,w.H P=some (.tbl ps)/\w.ow P=some .tab/\zl8 w q ps
def zl9.keep{cl:Cf}{w w':Wd}(h:zl9 cl w)(f:Fut w w')(k:∀P ps,w.H P=some (.tbl ps)->w.ow P=some .tab->w'.H P=some (.tbl ps)/\w'.ow P=some .tab):zl9 cl w':=fun P q e =>
 let ⟨ps,h1,h2,h3⟩:=h P q e;⟨ps,(k P ps h1 h2).1,(k P ps h1 h2).2,h3.up f⟩
structure Base where
 Fr:Hp
 fw:Ow
structure World'(cl:Cf)(B:Base)(w:Wd)(S:Sto):Prop where
 fr:∀a o,B.Fr a=some o->w.H a=some o/\w.ow a=B.fw a
 own:∀a r,w.ow a=some r->r=.far\/B.Fr a=none
 len:w.mu.length=S.length
 obj:∀(n:Nat) (ob:Ob),S[n]?=some ob->∃a,w.mu[n]?=some a/\zsd cl w n a ob
 tab:zl9 cl w
noncomputable abbrev Env:=List (Option (Bool×D))
structure Rel(cl:Cf)(B:Base)(σ:St)(w:Wd)(ρ:Env)(S:Sto):Prop where
 wd:World' cl B w S
 len:σ.length=ρ.length
 slots:∀(i:Nat) (o:Bool) (d:D),ρ[i]?=some (some (o,d))->∃v,σ[i]?=some (some v)/\zgi cl w (.slot i) o v d
structure Grow(w w':Wd):Prop where
 keep:∀a o,w.H a=some o->w'.H a=some o/\w'.ow a=w.ow a
 new:∀a r,w'.ow a=some r->w.H a=none->w.ow a=some r\/r=.far
 mu:w'.mu=w.mu
def Grow.refl(w:Wd):Grow w w:=⟨fun _ _ h=>⟨h,rfl⟩,fun _ _ h _=>.inl h,rfl⟩
def Grow.fut(g:Grow w w'):Fut w w':=⟨fun a o h k=>⟨(g.keep a o h).1,(g.keep a o h).2.trans k⟩,fun n a h=>by rw [g.mu];exact h⟩
def World'.grow(W:World' cl B w S)(g:Grow w w'):World' cl B w' S where
 fr:=fun a o h=>by
  obtain ⟨h1,h2⟩:=W.fr a o h;exact ⟨(g.keep a o h1).1,(g.keep a o h1).2.trans h2⟩
 own:=fun a r h=>by
  cases e:w.H a with
  | none=>exact (g.new a r h e).elim (W.own a r) .inl
  | some o=>exact W.own a r (by rw [<-(g.keep a o e).2];exact h)
 len:=by rw [g.mu];exact W.len
 obj:=fun n ob h=>by
  obtain ⟨a,e,x⟩:=W.obj n ob h;exact ⟨a,by rw [g.mu];exact e,x.keep g.fut fun a o ha _=>g.keep a o ha⟩
 tab:=W.tab.keep g.fut fun P ps h1 h2=>⟨(g.keep P _ h1).1,(g.keep P _ h1).2.trans h2⟩
theorem Rel.grow(R:Rel cl B σ w ρ S)(g:Grow w w'):Rel cl B σ w' ρ S where
 wd:=R.wd.grow g
 len:=R.len
 slots:=fun i o d h=>by
  obtain ⟨v,e,x⟩:=R.slots i o d h;exact ⟨v,e,x.keep g.fut fun a o ha hr=>⟨(g.keep a o ha).1,(g.keep a o ha).2.trans hr⟩⟩
def Wd.add(w:Wd)(p:Addr)(o:HO):Wd:=⟨upd w.H p o,fun a=>if a=p then none else w.ow a,w.mu⟩
def zav(h:w.H p=none)(o:HO):Grow w (w.add p o) where
 keep:=fun a u ha=>by
  have n:a≠p:=zaH ha h;refine ⟨?_,?_⟩
  ·show upd w.H p o a=_;rw [zah n];exact ha
  ·show (if a=p then none else w.ow a)=_;rw [if_neg n]
 new:=fun a r h1 h2=>by
  have h1':(if a=p then none else w.ow a)=some r:=h1;split at h1'
  ·cases h1'
  ·exact .inl h1'
 mu:=rfl
def zhW{w:Wd}:(w.add p o).ow p=none:=if_pos rfl
def zl6{w:Wd}:(w.add p o).H p=some o:=zaL
def Shd.newT(h:w.H p=none)(r:Shds cl w xs ds):Shd cl (w.add p (.tup xs)) (.ref p) (.tup ds):=.tup zl6 zhW (r.up (zav h _).fut)
def Shd.newL(h:w.H p=none)(r:Shds cl w xs ds):Shd cl (w.add p (.lst xs)) (.ref p) (.lst ds):=.lst zl6 zhW (r.up (zav h _).fut)
theorem Top.fz{X:Cx}{pins:Z3}{σ:List (Option V)}{H:Hp}{s:Shared}{cl:Cf}{w:Wd}{a:Addr}{o:HO}{d:D}(t:Top cl w o d)(I:Inv X pins σ H s)(h:H a=some o):∃o',Inv X pins σ (upd H a o') s/\∀w',Fut w w'->w'.H a=some o'->w'.ow a=none->Shd cl w' (.ref a) d:=by
 cases t with
 | lst t=>exact ⟨_,by rw [zkG h];exact I,fun w' f e k=>.lst e k (t.up f)⟩
 | dicK t =>
  obtain ⟨ob,I'⟩:=I.fz h;exact ⟨_,I',fun w' f e k=>.dicK e k (t.up f)⟩
inductive Out(α:Type) where
 | ok (a:α) (S:Sto) | exc (c:Str) (S:Sto) | bad
noncomputable abbrev Fe:=Env->Sto->Out D
inductive Fo where
 | nx (ρ:Env) (S:Sto) | rt (d:D) (S:Sto) | bk (ρ:Env) (S:Sto) | ct (ρ:Env) (S:Sto) | ex (c:Str) (ρ:Env) (S:Sto) | bad
noncomputable abbrev Fs:=Env->Sto->Fo
noncomputable def tE(cl:Cf)(E:St->XK)(f:Fe):TE:=fun σ H Q=>∃B w ρ S,w.H=H/\Rel cl B σ w ρ S/\match f ρ S with
 | .ok d S'=>∀v w',Rel cl B σ w' ρ S'->Fut w w'->Shd cl w' v d->Q v w'.H
 | .exc c S'=>∀w',Rel cl B σ w' ρ S'->Fut w w'->E σ (.ref (cl c)) none w'.H
 | .bad=>False
noncomputable def tN(cl:Cf)(E:St->XK)(f:Fe):TE:=fun σ H Q=>∃B w ρ S,w.H=H/\Rel cl B σ w ρ S/\match f ρ S with
 | .ok d S'=>∀p o w',Rel cl B σ w' ρ S'->Fut w w'->w'.H p=none->Top cl w' o d->Q (.ref p) (upd w'.H p o)
 | .exc c S'=>∀w',Rel cl B σ w' ρ S'->Fut w w'->E σ (.ref (cl c)) none w'.H
 | .bad=>False
noncomputable def Hd(cl:Cf)(σ:St)(ρ:Env)(w:Wd)(v:V)(d:D):Prop:=Shd cl w v d\/∃i:Nat,ρ[i]?=some (some (true,d))/\σ[i]?=some (some v)
noncomputable def tH(cl:Cf)(E:St->XK)(f:Fe):TE:=fun σ H Q=>∃B w ρ S,w.H=H/\Rel cl B σ w ρ S/\match f ρ S with
 | .ok d S'=>∀v w',Rel cl B σ w' ρ S'->Fut w w'->Hd cl σ ρ w' v d->Q v w'.H
 | .exc c S'=>∀w',Rel cl B σ w' ρ S'->Fut w w'->E σ (.ref (cl c)) none w'.H
 | .bad=>False
inductive TopV(cl:Cf)(w:Wd):V->D->Prop
 | sh {v:V} {d:D}:Shd cl w v d->TopV cl w v d
 | ow {a:Addr} {o:HO} {d:D}:w.H a=some o->Top cl w o d->TopV cl w (.ref a) d
def Hd.top(h:Hd cl σ ρ w v d)(R:Rel cl B σ w ρ S):TopV cl w v d:=by
 rcases h with h | ⟨i,h1,h2⟩
 ·exact .sh h
 ·obtain ⟨v',e,a,o,rfl,_,h3,t⟩:=R.slots i true d h1;rw [h2] at e;cases e;exact .ow h3 t
theorem Hd.up(f:Fut w w')(h:Hd cl σ ρ w v d):Hd cl σ ρ w' v d:=by
 rcases h with h | h
 ·exact .inl (h.up f)
 ·exact .inr h
def PE.imp(h:PE X e t)(i:∀σ H Q,t' σ H Q->t σ H Q):PE X e t':=fun pins s σ H Q I q=>h pins s σ H Q I (i _ _ _ q)
def zsB(h:tH cl E f σ H Q):tE cl E f σ H Q:=by
 obtain ⟨B,w,ρ,S,e,R,h⟩:=h;refine ⟨B,w,ρ,S,e,R,?_⟩
 cases hf:f ρ S with
 | ok d S' =>
  rw [hf] at h;intro v w' R' F' t;exact h v w' R' F' (.inl t)
 | exc c S'=>rwa [hf] at h
 | bad=>rwa [hf] at h
noncomputable def Out.bind{α β:Type}(o:Out α)(k:α->Sto->Out β):Out β:=match o with | .ok a S=>k a S | .exc c S=>.exc c S | .bad=>.bad
noncomputable def Out.of{α:Type}(o:Option α)(S:Sto):Out α:=match o with | some a=>.ok a S | none=>.bad
@[simp] def Out.bind_ok{α β:Type}(a:α)(S:Sto)(k:α->Sto->Out β):(Out.ok a S).bind k=k a S:=rfl
@[simp] def Out.bind_exc{α β:Type}(c:Str)(S:Sto)(k:α->Sto->Out β):(Out.exc c S:Out α).bind k=.exc c S:=rfl
@[simp] def Out.bind_bad{α β:Type}(k:α->Sto->Out β):(Out.bad:Out α).bind k=.bad:=rfl
@[simp] def Out.of_some{α:Type}(a:α)(S:Sto):Out.of (some a) S=.ok a S:=rfl
noncomputable def zaf(i:Nat):Fe:=fun ρ S=>match ρ[i]? with | some (some (false,d))=>.ok d S | _=>.bad
noncomputable def zad(i:Nat):Fe:=fun ρ S=>match ρ[i]? with | some (some (_,d))=>.ok d S | _=>.bad
noncomputable def zab(d:D):Fe:=fun _ S=>.ok d S
def eUn(g:D->Option D)(f:Fe):Fe:=fun ρ S=>(f ρ S).bind fun a S1=>Out.of (g a) S1
def zag(g:D->D->Option D)(f h:Fe):Fe:=fun ρ S=>(f ρ S).bind fun a S1=>(h ρ S1).bind fun b S2=>Out.of (g a b) S2
noncomputable def isB:D->Option Bool | .bl b=>some b | _=>none
def eIf(c f h:Fe):Fe:=fun ρ S=>(c ρ S).bind fun d S1=>match isB d with | some true=>f ρ S1 | some false=>h ρ S1 | none=>.bad
def zf3(f h:Fe):Fe:=fun ρ S=>(f ρ S).bind fun d S1=>match isB d with | some true=>h ρ S1 | some false=>.ok (.bl false) S1 | none=>.bad
def eOr(f h:Fe):Fe:=fun ρ S=>(f ρ S).bind fun d S1=>match isB d with | some true=>.ok (.bl true) S1 | some false=>h ρ S1 | none=>.bad
noncomputable def zcS:D->Option D | .bl b=>some (.bl (!b)) | _=>none
def zao:List Fe->Env->Sto->Out (List D)
 | [],_,S=>.ok [] S
 | f::fs,ρ,S=>(f ρ S).bind fun d S1=>(zao fs ρ S1).bind fun ds S2=>.ok (d::ds) S2
noncomputable def small(n:Nat):Bool:=decide (n<=100000)
def zfe(fs:List Fe):Fe:=fun ρ S=>(zao fs ρ S).bind fun ds S1=>if small ds.length then .ok (.tup ds) S1 else .bad
def zes(fs:List Fe):Fe:=fun ρ S=>(zao fs ρ S).bind fun ds S1=>if small ds.length then .ok (.lst ds) S1 else .bad
def zaq(g:List D->Option D)(fs:List Fe):Fe:=fun ρ S=>(zao fs ρ S).bind fun ds S1=>Out.of (g ds) S1
def zaA(h:small n=true):n<=sizeLine:=yaw (yaE h) (by decide)
noncomputable def za4:Expr->Bool | .Starred _ _=>false | _=>true
def za7(h:za4 e=true):starEach (e::es) env=(false,eval e env)::starEach es env:=by
 cases e<;>first | rfl | cases h
theorem zci:∀{es:List Expr},es.all za4=true->(backTo pos (starEach es env)).any (·.1)=false
 | [],_=>rfl
 | e::es,h=>by
  rw [ya5,yab] at h;rw [za7 h.1];show (false||(backTo pos (starEach es env)).any (·.1))=false;rw [zci h.2];rfl
theorem zfI:∀{es:List Expr},es.all za4=true->(backTo pos (starEach es env)).all (fun x=>!x.1)=true
 | [],_=>rfl
 | e::es,h=>by
  rw [ya5,yab] at h;rw [za7 h.1];show (true&&(backTo pos (starEach es env)).all (fun x=>!x.1))=true;rw [zfI h.2];rfl
def zf1(h:es.all za4=true)(hl:es.length<30):((backTo pos (starEach es env)).all (fun x=>!x.1)&&(backToKw pos (keywordEach [] env)).all (fun x=>x.1.isSome)
   && decide (es.length+([]:List Keyword).length+(if ([]:List Keyword).isEmpty then 0 else 1)<30))=true:=by
 rw [zfI h];show (true&&true&&decide (es.length+0+0<30))=true;simpa using hl
noncomputable def Hds(cl:Cf)(σ:St)(ρ:Env)(w:Wd):List V->List D->Prop:=Paired (Hd cl σ ρ w)
noncomputable def zkx(cl:Cf)(w:Wd):List V->List D->Prop:=Paired (TopV cl w)
theorem Hds.top(R:Rel cl B σ w ρ S):∀{vs:List V} {ds:List D},Hds cl σ ρ w vs ds->zkx cl w vs ds
 | _,_,.nil=>.nil
 | _,_,.cons h t=>.cons (h.top R) (Hds.top R t)
noncomputable def tAs(cl:Cf)(E:St->XK)(fs:List Fe):TA:=fun σ H Q=>∃B w ρ S,w.H=H/\Rel cl B σ w ρ S/\match zao fs ρ S with
 | .ok ds S'=>∀vs w',Rel cl B σ w' ρ S'->Fut w w'->Shds cl w' vs ds->Q vs w'.H
 | .exc c S'=>∀w',Rel cl B σ w' ρ S'->Fut w w'->E σ (.ref (cl c)) none w'.H
 | .bad=>False
noncomputable def tHs(cl:Cf)(E:St->XK)(fs:List Fe):TA:=fun σ H Q=>∃B w ρ S,w.H=H/\Rel cl B σ w ρ S/\match zao fs ρ S with
 | .ok ds S'=>∀vs w',Rel cl B σ w' ρ S'->Fut w w'->Hds cl σ ρ w' vs ds->Q vs w'.H
 | .exc c S'=>∀w',Rel cl B σ w' ρ S'->Fut w w'->E σ (.ref (cl c)) none w'.H
 | .bad=>False
def PA.imp(h:PA X es t)(i:∀σ H Q,t' σ H Q->t σ H Q):PA X es t':=fun pos pins s σ H Q I q=>h pos pins s σ H Q I (i _ _ _ q)
def PT.imp(h:PT X e t)(i:∀σ H Q,t' σ H Q->t σ H Q):PT X e t':=fun pins s σ H Q I q=>h pins s σ H Q I (i _ _ _ q)
section
variable{X:Cx}{cl:Cf}{E:St->XK}{a b c e:Expr}{f h g:Fe}{pos:Pos}
def zpL(hN:X.N[i]?=some x)(hv:Vis X.env.scope x)(hd:(x == ("__debug__":Str))=false)(hcd:(x == ("__classdict__":Str))=false):PE X (.Name x pos) (tE cl E (zaf i)):=by
 refine PE.imp (zdo hN hv hd hcd) ?_;rintro σ H Q ⟨B,w,ρ,S,rfl,R,q⟩;unfold zaf at q;split at q
 ·rename_i o d S' hm;split at hm
  ·rename_i d' he;cases hm;obtain ⟨v,e,r⟩:=R.slots i false d he;exact ⟨v,e,q v w R (Fut.refl _) r⟩
  ·cases hm
 ·rename_i hm;split at hm<;>cases hm
 ·exact q.elim
def zpS(hN:X.N[i]?=some x)(hv:Vis X.env.scope x)(hd:(x == ("__debug__":Str))=false)(hcd:(x == ("__classdict__":Str))=false):PE X (.Name x pos) (tH cl E (zad i)):=by
 refine PE.imp (zdo hN hv hd hcd) ?_;rintro σ H Q ⟨B,w,ρ,S,rfl,R,q⟩;unfold zad at q;split at q
 ·rename_i o d S' hm;split at hm
  ·rename_i b d' he;cases hm;obtain ⟨v,e,r⟩:=R.slots i b d he;refine ⟨v,e,q v w R (Fut.refl _) ?_⟩
   cases b with
   | false=>exact .inl r
   | true=>exact .inr ⟨i,he,e⟩
  ·cases hm
 ·rename_i hm;split at hm<;>cases hm
 ·exact q.elim
def ziX(h:PE X e (tC v))(hd:∀w,Shd cl w v d):PE X e (tE cl E (zab d)):=by
 refine PE.imp h ?_;rintro σ H Q ⟨B,w,ρ,S,rfl,R,q⟩;exact q v w R (Fut.refl _) (hd w)
def ziZ(h:PE X e (tE cl E f)):PE X e (tH cl E f):=PE.imp h fun _ _ _=>zsB
def zbK(h:PE X e (tN cl E f)):PE X e (tE cl E f):=by
 intro pins s σ H Q I q;obtain ⟨B,w,ρ,S,rfl,R,q⟩:=q;refine ybk (h pins s σ w.H (fun v H'=>∀s',Inv X pins σ H' s'->∃H'',Inv X pins σ H'' s'/\Q v H'') I ⟨B,w,ρ,S,rfl,R,?_⟩) (fun v s' hv=>?_) (fun _ _ x=>x)
 ·cases hf:f ρ S with
  | ok d S' =>
   rw [hf] at q;intro p o w' R' F' hp t s' I';obtain ⟨o',I2,hs⟩:=t.fz I' zaL;rw [zmZ] at I2;exact ⟨_,I2,q (.ref p) (w'.add p o') (R'.grow (zav hp o')) (F'.trans (zav hp o').fut) (hs _ (zav hp o').fut zl6 zhW)⟩
  | exc c S'=>rwa [hf] at q
  | bad=>rwa [hf] at q
 ·obtain ⟨x,H',I',r,q'⟩:=hv;obtain ⟨H2,I2,q2⟩:=q' _ I';exact ⟨x,H2,I2,r,q2⟩
noncomputable def OpD(X:Cx)(cl:Cf)(op:Value->Value->Sem Value)(g:D->D->Option D):Prop:=OpR X op fun x y H Q=>∃w d e r,w.H=H/\TopV cl w x d/\TopV cl w y e/\g d e=some r/\∀v w',Grow w w'->Shd cl w' v r->Q v w'.H
noncomputable def UnD(X:Cx)(cl:Cf)(op:Value->Sem Value)(g:D->Option D):Prop:=UnR X op fun x H Q=>∃w d r,w.H=H/\TopV cl w x d/\g d=some r/\∀v w',Grow w w'->Shd cl w' v r->Q v w'.H
noncomputable def zfl(X:Cx)(cl:Cf)(fv:Value)(g:List D->Option D):Prop:=zb9 X fv fun xs H Q=>∃w ds r,w.H=H/\zkx cl w xs ds/\g ds=some r/\∀v w',Grow w w'->Shd cl w' v r->Q v w'.H
noncomputable def zmd(X:Cx)(cl:Cf)(fv:Value)(g:List D->Option D):Prop:=zb9 X fv fun xs H Q=>∃w ds r,w.H=H/\zkx cl w xs ds/\g ds=some r/\∀p o w',Grow w w'->w'.H p=none->Top cl w' o r->Q (.ref p) (upd w'.H p o)
noncomputable def IxD(X:Cx)(cl:Cf)(g:D->D->Option D):Prop:=IxR X fun x y H Q=>∃w d e r,w.H=H/\TopV cl w x d/\TopV cl w y e/\g d e=some r/\∀v w',Grow w w'->Shd cl w' v r->Q v w'.H
def two(hr:∀x y H Q,(∃w d e r,w.H=H/\TopV cl w x d/\TopV cl w y e/\gg d e=some r/\∀v w',Grow w w'->Shd cl w' v r->Q v w'.H)->r2 x y H Q)(σ:St)(H:Hp)(Q:VK)(q:tE cl E (zag gg f h) σ H Q):tOp r2 (tH cl E f) (tH cl E h) σ H Q:=by
 obtain ⟨B,w,ρ,S,rfl,R,q⟩:=q;refine ⟨B,w,ρ,S,rfl,R,?_⟩;unfold zag at q
 cases hf:f ρ S with
 | bad=>rwa [hf] at q
 | exc c S1=>rwa [hf] at q
 | ok d S1 =>
  rw [hf] at q;intro v w1 R1 F1 h1;refine ⟨B,w1,ρ,S1,rfl,R1,?_⟩;dsimp only [Out.bind] at q
  cases hh:h ρ S1 with
  | bad=>rwa [hh] at q
  | exc c S2=>rw [hh] at q;exact fun w2 R2 F2=>q w2 R2 (F1.trans F2)
  | ok e S2 =>
   rw [hh] at q;intro y w2 R2 F2 h2;dsimp only at q
   cases hg:gg d e with
   | none=>rw [hg] at q;exact q.elim
   | some r =>
    rw [hg] at q;exact hr _ _ _ _ ⟨w2,d,e,r,rfl,(h1.up F2).top R2,h2.top R2,hg,fun v' w' gr sh=>q v' w' (R2.grow gr) (F1.trans (F2.trans gr.fut)) sh⟩
def zmm(ho:OpD X cl (binaryOp op) gg)(ha:PE X a (tH cl E f))(hb:PE X b (tH cl E h)):PE X (.BinOp a op b pos) (tE cl E (zag gg f h)) :=
 PE.imp (zqk ho ha hb) (two fun _ _ _ _ z=>z)
def zsP(ho:IxD X cl gg)(ha:PE X a (tH cl E f))(hb:PE X b (tH cl E h))(hs:zg4 b):PE X (.Subscript a b pos) (tE cl E (zag gg f h)) :=
 PE.imp (zs2 ho ha hb hs) (two fun _ _ _ _ z=>z)
def zpR(ho:OpD X cl (compareOp op) gg)(ha:PE X a (tH cl E f))(hb:PE X b (tH cl E h))(hm:behindInMarks op b=false):PE X (.Compare a [op] [b] pos) (tE cl E (zag gg f h)) :=
 PE.imp (znR ho ha hb hm) (two fun _ _ _ _ z=>z)
def zsN(ho:UnD X cl (unaryOp op) gg)(ha:PE X a (tH cl E f)):PE X (.UnaryOp op a pos) (tE cl E (eUn gg f)):=by
 refine PE.imp (zs0 ho ha) ?_;rintro σ H Q ⟨B,w,ρ,S,rfl,R,q⟩;refine ⟨B,w,ρ,S,rfl,R,?_⟩;unfold eUn at q
 cases hf:f ρ S with
 | bad=>rwa [hf] at q
 | exc c S1=>rwa [hf] at q
 | ok d S1 =>
  rw [hf] at q;intro v w1 R1 F1 h1;dsimp only [Out.bind] at q
  cases hg:gg d with
  | none=>rw [hg] at q;exact q.elim
  | some r =>
   rw [hg] at q;exact ⟨w1,d,r,rfl,h1.top R1,hg,fun v' w' gr sh=>q v' w' (R1.grow gr) (F1.trans gr.fut) sh⟩
noncomputable def tTr(cl:Cf)(E:St->XK)(f:Fe):TT:=fun σ H Q=>∃B w ρ S,w.H=H/\Rel cl B σ w ρ S/\match f ρ S with
 | .ok d S'=>match isB d with
  | some b=>∀w',Rel cl B σ w' ρ S'->Fut w w'->Q b w'.H
  | none=>False
 | .exc c S'=>∀w',Rel cl B σ w' ρ S'->Fut w w'->E σ (.ref (cl c)) none w'.H
 | .bad=>False
def zcw{d:D}{b:Bool}(h:isB d=some b):d=.bl b:=by
 cases d<;>simp [isB] at h
 subst h;rfl
def zfw{w:Wd}{v:V}{b:Bool}(h:Shd cl w v (.bl b)):v=.bl b:=by cases h;rfl
def ziK(q:tTr cl E f σ H Q):tB (tE cl E f) σ H Q:=by
 obtain ⟨B,w,ρ,S,rfl,R,q⟩:=q;refine ⟨B,w,ρ,S,rfl,R,?_⟩
 cases hf:f ρ S with
 | bad=>rwa [hf] at q
 | exc c S1=>rwa [hf] at q
 | ok d S1 =>
  rw [hf] at q;intro v w1 R1 F1 h1;dsimp only at q
  cases hb:isB d with
  | none=>rw [hb] at q;exact q.elim
  | some b =>
   rw [hb] at q;rw [zcw hb] at h1;exact ⟨b,zfw h1,q w1 R1 F1⟩
def zbp(h:PE X e (tE cl E f))(he:∀whole,isTrue e X.env whole=(do let v ← whole;standAt e.pos;holding [v] (truthy v))):PT X e (tTr cl E f) :=
 PT.imp (zp7 h he) fun _ _ _ q=>ziK q
def ziJ(hr:∀x y H Q,(∃w d e r,w.H=H/\TopV cl w x d/\TopV cl w y e/\gg d e=some r/\∀v w',Grow w w'->Shd cl w' v r->Q v w'.H)->r2 x y H Q)(q:tTr cl E (zag gg f h) σ H Q):zm7 (tOp r2 (tH cl E f) (tH cl E h)) σ H Q :=
 two hr σ H _ (ziK q)
def zpv(ho:OpD X cl (compareOp op) gg)(ha:PE X a (tH cl E f))(hb:PE X b (tH cl E h))(hm:behindInMarks op b=false):PT X (.Compare a [op] [b] pos) (tTr cl E (zag gg f h)) :=
 PT.imp (znA ho ha hb hm) fun _ _ _ q=>ziJ (fun _ _ _ _ z=>z) q
def PW.imp(h:PW X e t)(i:∀σ H Q,t' σ H Q->t σ H Q):PW X e t':=fun whole pins s σ H Q I q=>h whole pins s σ H Q I (i _ _ _ q)
def zm6(q:tTr cl E (zf3 f h) σ H Q):zut (tTr cl E f) (tTr cl E h) σ H Q:=by
 obtain ⟨B,w,ρ,S,rfl,R,q⟩:=q;refine ⟨B,w,ρ,S,rfl,R,?_⟩;unfold zf3 at q
 cases hf:f ρ S with
 | bad=>rwa [hf] at q
 | exc c S1=>rwa [hf] at q
 | ok d S1 =>
  rw [hf] at q;dsimp only [Out.bind] at q ⊢
  cases hb:isB d with
  | none=>rw [hb] at q;exact q.elim
  | some b =>
   rw [hb] at q;intro w1 R1 F1
   cases b with
   | false=>exact zmB (q w1 R1 F1)
   | true =>
    refine zmA ⟨B,w1,ρ,S1,rfl,R1,?_⟩;dsimp only at q
    cases hh:h ρ S1 with
    | bad=>rwa [hh] at q
    | exc c S2=>rw [hh] at q;exact fun w2 R2 F2=>q w2 R2 (F1.trans F2)
    | ok e S2 =>
     rw [hh] at q;dsimp only at q ⊢
     cases hb2:isB e with
     | none=>rw [hb2] at q;exact q.elim
     | some b2=>rw [hb2] at q;exact fun w2 R2 F2=>q w2 R2 (F1.trans F2)
def zph(q:tTr cl E (eOr f h) σ H Q):tOr (tTr cl E f) (tTr cl E h) σ H Q:=by
 obtain ⟨B,w,ρ,S,rfl,R,q⟩:=q;refine ⟨B,w,ρ,S,rfl,R,?_⟩;unfold eOr at q
 cases hf:f ρ S with
 | bad=>rwa [hf] at q
 | exc c S1=>rwa [hf] at q
 | ok d S1 =>
  rw [hf] at q;dsimp only [Out.bind] at q ⊢
  cases hb:isB d with
  | none=>rw [hb] at q;exact q.elim
  | some b =>
   rw [hb] at q;intro w1 R1 F1
   cases b with
   | true=>exact zmA (q w1 R1 F1)
   | false =>
    refine zmB ⟨B,w1,ρ,S1,rfl,R1,?_⟩;dsimp only at q
    cases hh:h ρ S1 with
    | bad=>rwa [hh] at q
    | exc c S2=>rw [hh] at q;exact fun w2 R2 F2=>q w2 R2 (F1.trans F2)
    | ok e S2 =>
     rw [hh] at q;dsimp only at q ⊢
     cases hb2:isB e with
     | none=>rw [hb2] at q;exact q.elim
     | some b2=>rw [hb2] at q;exact fun w2 R2 F2=>q w2 R2 (F1.trans F2)
def zm5(q:tTr cl E (eUn zcS f) σ H Q):zus (tTr cl E f) σ H Q:=by
 obtain ⟨B,w,ρ,S,rfl,R,q⟩:=q;refine ⟨B,w,ρ,S,rfl,R,?_⟩;unfold eUn at q
 cases hf:f ρ S with
 | bad=>rwa [hf] at q
 | exc c S1=>rwa [hf] at q
 | ok d S1 =>
  rw [hf] at q;dsimp only [Out.bind] at q ⊢
  cases hb:isB d with
  | none =>
   have:zcS d=none:=by cases d<;>simp [isB] at hb<;>rfl
   rw [this] at q;exact q.elim
  | some b =>
   rwa [zcw hb] at q
def zpu(ha:PT X a (tTr cl E f)):PT X (.UnaryOp .Not a pos) (tTr cl E (eUn zcS f)):=PT.imp (zp8 ha) fun _ _ _ q=>zm5 q
def zpr{za0:List Expr}(ha:PT X a (tTr cl E f))(hb:PW X (.BoolOp .And (b::za0) pos) (tTr cl E h)):PW X (.BoolOp .And (a::b::za0) pos) (tTr cl E (zf3 f h)):=PW.imp (zp5 ha hb) fun _ _ _ q=>zm6 q
def zsG{za0:List Expr}(ha:PT X a (tTr cl E f))(hb:PW X (.BoolOp .Or (b::za0) pos) (tTr cl E h)):PW X (.BoolOp .Or (a::b::za0) pos) (tTr cl E (eOr f h)):=PW.imp (zsX ha hb) fun _ _ _ q=>zph q
def zpT{za0:List Expr}(ha:PE X a (tE cl E f))(hb:PE X (.BoolOp .And (b::za0) pos) (tE cl E h)):PE X (.BoolOp .And (a::b::za0) pos) (tE cl E (zf3 f h)):=by
 refine PE.imp (zqq ha hb) ?_;rintro σ H Q ⟨B,w,ρ,S,rfl,R,q⟩;refine ⟨B,w,ρ,S,rfl,R,?_⟩;unfold zf3 at q
 cases hf:f ρ S with
 | bad=>rwa [hf] at q
 | exc c S1=>rwa [hf] at q
 | ok d S1 =>
  rw [hf] at q;intro v w1 R1 F1 h1;dsimp only [Out.bind] at q
  cases hb:isB d with
  | none=>rw [hb] at q;exact q.elim
  | some b =>
   rw [hb] at q;rw [zcw hb] at h1;refine ⟨b,zfw h1,?_⟩
   cases b with
   | false=>exact zmB (q _ w1 R1 F1 (.bl false))
   | true =>
    refine zmA ⟨B,w1,ρ,S1,rfl,R1,?_⟩;dsimp only at q
    cases hh:h ρ S1 with
    | bad=>rwa [hh] at q
    | exc c S2=>rw [hh] at q;exact fun w2 R2 F2=>q w2 R2 (F1.trans F2)
    | ok e S2=>rw [hh] at q;exact fun v w2 R2 F2=>q v w2 R2 (F1.trans F2)
def zsO{za0:List Expr}(ha:PE X a (tE cl E f))(hb:PE X (.BoolOp .Or (b::za0) pos) (tE cl E h)):PE X (.BoolOp .Or (a::b::za0) pos) (tE cl E (eOr f h)):=by
 refine PE.imp (zs1 ha hb) ?_;rintro σ H Q ⟨B,w,ρ,S,rfl,R,q⟩;refine ⟨B,w,ρ,S,rfl,R,?_⟩;unfold eOr at q
 cases hf:f ρ S with
 | bad=>rwa [hf] at q
 | exc c S1=>rwa [hf] at q
 | ok d S1 =>
  rw [hf] at q;intro v w1 R1 F1 h1;dsimp only [Out.bind] at q
  cases hb:isB d with
  | none=>rw [hb] at q;exact q.elim
  | some b =>
   rw [hb] at q;rw [zcw hb] at h1;refine ⟨b,zfw h1,?_⟩
   cases b with
   | true=>exact zmA (q _ w1 R1 F1 (.bl true))
   | false =>
    refine zmB ⟨B,w1,ρ,S1,rfl,R1,?_⟩;dsimp only at q
    cases hh:h ρ S1 with
    | bad=>rwa [hh] at q
    | exc c S2=>rw [hh] at q;exact fun w2 R2 F2=>q w2 R2 (F1.trans F2)
    | ok e S2=>rw [hh] at q;exact fun v w2 R2 F2=>q v w2 R2 (F1.trans F2)
def zpO(ha:PE X a (tE cl E f)):PE X (.UnaryOp .Not a pos) (tE cl E (eUn zcS f)):=by
 refine PE.imp (zqm ha) ?_;rintro σ H Q ⟨B,w,ρ,S,rfl,R,q⟩;refine ⟨B,w,ρ,S,rfl,R,?_⟩;unfold eUn at q
 cases hf:f ρ S with
 | bad=>rwa [hf] at q
 | exc c S1=>rwa [hf] at q
 | ok d S1 =>
  rw [hf] at q;intro v w1 R1 F1 h1;dsimp only [Out.bind] at q
  cases hb:isB d with
  | none =>
   have:zcS d=none:=by cases d<;>simp [isB] at hb<;>rfl
   rw [this] at q;exact q.elim
  | some b =>
   rw [zcw hb] at q h1;exact ⟨b,zfw h1,q _ w1 R1 F1 (.bl _)⟩
def zsC(q:tE cl E (eIf g f h) σ H Q):tIf (tTr cl E g) (tE cl E f) (tE cl E h) σ H Q:=by
 obtain ⟨B,w,ρ,S,rfl,R,q⟩:=q;refine ⟨B,w,ρ,S,rfl,R,?_⟩;unfold eIf at q
 cases hg:g ρ S with
 | bad=>rwa [hg] at q
 | exc c S1=>rwa [hg] at q
 | ok d S1 =>
  rw [hg] at q;dsimp only [Out.bind] at q ⊢
  cases hb:isB d with
  | none=>rw [hb] at q;exact q.elim
  | some b =>
   rw [hb] at q;intro w1 R1 F1
   cases b with
   | true =>
    refine zmA ⟨B,w1,ρ,S1,rfl,R1,?_⟩;dsimp only at q
    cases hh:f ρ S1 with
    | bad=>rwa [hh] at q
    | exc c S2=>rw [hh] at q;exact fun w2 R2 F2=>q w2 R2 (F1.trans F2)
    | ok e S2=>rw [hh] at q;exact fun v w2 R2 F2=>q v w2 R2 (F1.trans F2)
   | false =>
    refine zmB ⟨B,w1,ρ,S1,rfl,R1,?_⟩;dsimp only at q
    cases hh:h ρ S1 with
    | bad=>rwa [hh] at q
    | exc c S2=>rw [hh] at q;exact fun w2 R2 F2=>q w2 R2 (F1.trans F2)
    | ok e S2=>rw [hh] at q;exact fun v w2 R2 F2=>q v w2 R2 (F1.trans F2)
def zsQ(hc:PT X c (tTr cl E g))(ha:PE X a (tE cl E f))(hb:PE X b (tE cl E h)):PE X (.IfExp c a b pos) (tE cl E (eIf g f h)):=PE.imp (zlg hc ha hb) fun _ _ _ q=>zsC q
def zfy:PA X [] (tAs cl E []):=by
 refine PA.imp zdp ?_;rintro σ H Q ⟨B,w,ρ,S,rfl,R,q⟩;exact q [] w R (Fut.refl _) .nil
def zc7(ha:PE X e (tE cl E f))(hr:PA X es (tAs cl E fs))(hs:starEach (e::es) X.env=(false,eval e X.env)::starEach es X.env):PA X (e::es) (tAs cl E (f::fs)):=by
 refine PA.imp (zbB ha hr hs) ?_;rintro σ H Q ⟨B,w,ρ,S,rfl,R,q⟩;refine ⟨B,w,ρ,S,rfl,R,?_⟩;unfold zao at q
 cases hf:f ρ S with
 | bad=>rwa [hf] at q
 | exc c S1=>rwa [hf] at q
 | ok d S1 =>
  rw [hf] at q;intro v w1 R1 F1 h1;refine ⟨B,w1,ρ,S1,rfl,R1,?_⟩;dsimp only [Out.bind] at q
  cases hh:zao fs ρ S1 with
  | bad=>rwa [hh] at q
  | exc c S2=>rw [hh] at q;exact fun w2 R2 F2=>q w2 R2 (F1.trans F2)
  | ok ds S2 =>
   rw [hh] at q;exact fun vs w2 R2 F2 h2=>q _ w2 R2 (F1.trans F2) (.cons (h1.up F2) h2)
def zmi:PA X [] (tHs cl E []):=by
 refine PA.imp zdp ?_;rintro σ H Q ⟨B,w,ρ,S,rfl,R,q⟩;exact q [] w R (Fut.refl _) .nil
def ziU(ha:PE X e (tH cl E f))(hr:PA X es (tHs cl E fs))(hs:starEach (e::es) X.env=(false,eval e X.env)::starEach es X.env):PA X (e::es) (tHs cl E (f::fs)):=by
 refine PA.imp (zbB ha hr hs) ?_;rintro σ H Q ⟨B,w,ρ,S,rfl,R,q⟩;refine ⟨B,w,ρ,S,rfl,R,?_⟩;unfold zao at q
 cases hf:f ρ S with
 | bad=>rwa [hf] at q
 | exc c S1=>rwa [hf] at q
 | ok d S1 =>
  rw [hf] at q;intro v w1 R1 F1 h1;refine ⟨B,w1,ρ,S1,rfl,R1,?_⟩;dsimp only [Out.bind] at q
  cases hh:zao fs ρ S1 with
  | bad=>rwa [hh] at q
  | exc c S2=>rw [hh] at q;exact fun w2 R2 F2=>q w2 R2 (F1.trans F2)
  | ok ds S2 =>
   rw [hh] at q;exact fun vs w2 R2 F2 h2=>q _ w2 R2 (F1.trans F2) (.cons (h1.up F2) h2)
def zpM(h:PA X es (tAs cl E fs)):PE X (.Tuple es k pos) (tE cl E (zfe fs)):=by
 refine PE.imp (zqi h) ?_;rintro σ H Q ⟨B,w,ρ,S,rfl,R,q⟩;refine ⟨B,w,ρ,S,rfl,R,?_⟩;unfold zfe at q
 cases hf:zao fs ρ S with
 | bad=>rwa [hf] at q
 | exc c S1=>rwa [hf] at q
 | ok ds S1 =>
  rw [hf] at q;intro vs w1 R1 F1 h1;dsimp only [Out.bind] at q
  cases hz:small ds.length with
  | false=>rw [hz,if_neg (by decide)] at q;exact q.elim
  | true =>
   rw [hz,if_pos rfl] at q;refine ⟨by rw [h1.length];exact zaA hz,fun p hp=>?_⟩;exact q _ (w1.add p (.tup vs)) (R1.grow (zav hp _)) (F1.trans (zav hp _).fut) (Shd.newT hp h1)
def zpQ(h:PA X es (tAs cl E fs)):PE X (.List es pos) (tN cl E (zes fs)):=by
 refine PE.imp (zqo h) ?_;rintro σ H Q ⟨B,w,ρ,S,rfl,R,q⟩;refine ⟨B,w,ρ,S,rfl,R,?_⟩;unfold zes at q
 cases hf:zao fs ρ S with
 | bad=>rwa [hf] at q
 | exc c S1=>rwa [hf] at q
 | ok ds S1 =>
  rw [hf] at q;intro vs w1 R1 F1 h1;dsimp only [Out.bind] at q
  cases hz:small ds.length with
  | false=>rw [hz,if_neg (by decide)] at q;exact q.elim
  | true =>
   rw [hz,if_pos rfl] at q;refine ⟨by rw [h1.length];exact zaA hz,fun p hp=>?_⟩;exact q _ (.lst vs) w1 R1 F1 hp (.lst h1)
def zpn(hr:∀xs H Q,(∃w ds r,w.H=H/\zkx cl w xs ds/\gg ds=some r/\∀v w',Grow w w'->Shd cl w' v r->Q v w'.H)->r xs H Q)(q:tE cl E (zaq gg fs) σ H Q):tCB r (tHs cl E fs) σ H Q:=by
 obtain ⟨B,w,ρ,S,rfl,R,q⟩:=q;refine ⟨B,w,ρ,S,rfl,R,?_⟩;unfold zaq at q
 cases hf:zao fs ρ S with
 | bad=>rwa [hf] at q
 | exc c S1=>rwa [hf] at q
 | ok ds S1 =>
  rw [hf] at q;intro vs w1 R1 F1 h1;dsimp only [Out.bind] at q
  cases hg:gg ds with
  | none=>rw [hg] at q;exact q.elim
  | some d =>
   rw [hg] at q;exact hr _ _ _ ⟨w1,ds,d,rfl,h1.top R1,hg,fun v w' gr sh=>q v w' (R1.grow gr) (F1.trans gr.fut) sh⟩
def zpm(hr:∀xs H Q,(∃w ds r,w.H=H/\zkx cl w xs ds/\gg ds=some r/\∀p o w',Grow w w'->w'.H p=none->Top cl w' o r->Q (.ref p) (upd w'.H p o))->r xs H Q)(q:tN cl E (zaq gg fs) σ H Q):tCB r (tHs cl E fs) σ H Q:=by
 obtain ⟨B,w,ρ,S,rfl,R,q⟩:=q;refine ⟨B,w,ρ,S,rfl,R,?_⟩;unfold zaq at q
 cases hf:zao fs ρ S with
 | bad=>rwa [hf] at q
 | exc c S1=>rwa [hf] at q
 | ok ds S1 =>
  rw [hf] at q;intro vs w1 R1 F1 h1;dsimp only [Out.bind] at q
  cases hg:gg ds with
  | none=>rw [hg] at q;exact q.elim
  | some d =>
   rw [hg] at q;exact hr _ _ _ ⟨w1,ds,d,rfl,h1.top R1,hg,fun p o w' gr hp t=>q p o w' (R1.grow gr) (F1.trans gr.fut) hp t⟩
end
noncomputable def Root.out:Option Root->Option Root | some (.slot _)=>some .far | o=>o
def Root.out_none:Root.out o=none↔o=none:=by
 cases o with
 | none=>exact ⟨fun h=>h,fun h=>h⟩
 | some r=>cases r<;>simp [Root.out]
noncomputable def zcV:Option Root->Bool | some (.fld _ _)=>true | some (.obj _)=>true | some .tab=>true | _=>false
def Wd.inn(w:Wd):Wd:=⟨w.H,fun a=>Root.out (w.ow a),w.mu⟩
def Wd.base(w:Wd):Base:=⟨fun a=>if zcV (w.ow a)=true then none else w.H a,fun a=>Root.out (w.ow a)⟩
def Wd.back(w w':Wd):Wd:=⟨w'.H,fun a=>if (w.base.Fr a).isSome=true then w.ow a else Root.out (w'.ow a),w'.mu⟩
def zdd(w:Wd):Fut w w.inn:=⟨fun a o h k=>⟨h,by show Root.out (w.ow a)=none;rw [k];rfl⟩,fun _ _ h=>h⟩
def zgh{w:Wd}(h:w.H a=some o)(k:zcV (w.ow a)=false):w.base.Fr a=some o:=by
 show (if zcV (w.ow a)=true then none else w.H a)=_;rw [k,if_neg (by decide)];exact h
def znX{w:Wd}(h:w.base.Fr a=some o):w.H a=some o/\zcV (w.ow a)=false:=by
 have h':(if zcV (w.ow a)=true then none else w.H a)=some o:=h;split at h'
 ·cases h'
 ·rename_i z;exact ⟨h',by simpa using z⟩
section
variable{cl:Cf}{B:Base}{σ:St}{w w':Wd}{ρ:Env}{S S':Sto}
def World'.enter(W:World' cl B w S):World' cl w.base w.inn S where
 fr:=fun a o h=>⟨(znX h).1,rfl⟩
 own:=fun a r h=>by
  have h':Root.out (w.ow a)=some r:=h
  cases e:w.ow a with
  | none=>rw [e] at h';cases h'
  | some q =>
   cases q with
   | slot i=>rw [e] at h';cases h';exact .inl rfl
   | far=>rw [e] at h';cases h';exact .inl rfl
   | fld n f=>exact .inr (by show (if zcV (w.ow a)=true then none else w.H a)=none;rw [e];rfl)
   | obj n=>exact .inr (by show (if zcV (w.ow a)=true then none else w.H a)=none;rw [e];rfl)
   | tab=>exact .inr (by show (if zcV (w.ow a)=true then none else w.H a)=none;rw [e];rfl)
 len:=W.len
 obj:=fun n ob h=>by
  obtain ⟨a,e,x⟩:=W.obj n ob h;refine ⟨a,e,x.keep (zdd w) fun a o ha hn=>⟨ha,?_⟩⟩;show Root.out (w.ow a)=w.ow a
  cases e:w.ow a with
  | none=>rfl
  | some q=>cases q with
   | slot i=>rw [e] at hn;exact hn.elim
   | _=>rfl
 tab:=W.tab.keep (zdd w) fun P ps h1 h2=>⟨h1,by show Root.out (w.ow P)=_;rw [h2];rfl⟩
def zcq(W:World' cl B w S)(h:B.Fr a=some o):w.base.Fr a=some o:=by
 refine zgh (W.fr a o h).1 ?_
 cases e:w.ow a with
 | none=>rfl
 | some q =>
  rcases W.own a q e with rfl | z
  ·rfl
  ·rw [h] at z;cases z
def zdD(W':World' cl w.base w' S'):Fut w' (w.back w') where
 keep:=fun a o h k=>by
  refine ⟨h,?_⟩;show (if (w.base.Fr a).isSome=true then w.ow a else Root.out (w'.ow a))=none;split
  ·rename_i z;obtain ⟨u,hu⟩:=Option.isSome_iff_exists.mp z;have:=(W'.fr a u hu).2;rw [k] at this;exact Root.out_none.mp this.symm
  ·rw [k];rfl
 mu:=fun _ _ h=>h
def Rel.leave(R:Rel cl B σ w ρ S)(W':World' cl w.base w' S')(F:Fut w.inn w'):Rel cl B σ (w.back w') ρ S'/\Fut w (w.back w'):=by
 have fb:=zdD W';have ff:Fut w (w.back w'):=(zdd w).trans (F.trans fb)
 have in_:∀a o,w.base.Fr a=some o->(w.back w').H a=some o/\(w.back w').ow a=w.ow a:=fun a o h=>by
  refine ⟨(W'.fr a o h).1,?_⟩;show (if (w.base.Fr a).isSome=true then w.ow a else _)=_;rw [h];rfl
 refine ⟨⟨⟨fun a o h=>?_,fun a r h=>?_,W'.len,fun n ob h=>?_,fun P q h=>?_⟩,R.len,fun i o d h=>?_⟩,ff⟩
 ·have:=in_ a o (zcq R.wd h);exact ⟨this.1,this.2.trans (R.wd.fr a o h).2⟩
 ·cases hb:B.Fr a with
  | none=>exact .inr rfl
  | some o =>
   have:=(in_ a o (zcq R.wd hb)).2;rw [h] at this
   rcases R.wd.own a r this.symm with z | z
   ·exact .inl z
   ·rw [hb] at z;cases z
 ·obtain ⟨a,e,x⟩:=W'.obj n ob h;refine ⟨a,e,x.keep fb fun a o ha hn=>⟨ha,?_⟩⟩;show (if (w.base.Fr a).isSome=true then w.ow a else Root.out (w'.ow a))=_
  cases e:w'.ow a with
  | none=>rw [e] at hn;exact hn.elim
  | some q =>
   rcases W'.own a q e with rfl | z
   ·rw [e] at hn;exact hn.elim
   ·rw [z]
    cases q with
    | slot i=>rw [e] at hn;exact hn.elim
    | _=>rfl
 ·obtain ⟨ps,h1,h2,h3⟩:=W'.tab P q h;obtain ⟨_,_,g2,_⟩:=R.wd.tab P q h;refine ⟨ps,h1,?_,h3.up fb⟩
  have hb:w.base.Fr P=none:=by show (if zcV (w.ow P)=true then none else w.H P)=none;rw [g2];rfl
  show (if (w.base.Fr P).isSome=true then w.ow P else Root.out (w'.ow P))=_;rw [hb,h2];rfl
 ·obtain ⟨v,e,x⟩:=R.slots i o d h;refine ⟨v,e,x.keep ff fun a u ha hr=>?_⟩;have:=in_ a u (zgh ha (by rw [hr];rfl));exact ⟨this.1,this.2.trans hr⟩
noncomputable def Wd.del(w:Wd)(a:Addr):Wd:=⟨fun b=>if b=a then none else w.H b,w.ow,w.mu⟩
def zgP(k:w.ow a≠none):Fut w (w.del a) where
 keep:=fun b o h e=>⟨by
  show (if b=a then none else w.H b)=_
  rw [if_neg (fun z=>k (by rw [<-z];exact e))];exact h,e⟩
 mu:=fun _ _ h=>h
def zm0(h:w.H a=some o):upd (w.del a).H a o=w.H:=by
 funext b
 by_cases e:b=a
 ·rw [e,zaL,h]
 ·rw [zah e];show (if b=a then none else w.H b)=_;rw [if_neg e]
theorem Rel.del(R:Rel cl B σ w ρ S)(k:w.ow a=some .far)(hb:B.Fr a=none):Rel cl B σ (w.del a) ρ S:=by
 have fd:Fut w (w.del a):=zgP (by rw [k];exact yaG _)
 have kp:∀b o,w.H b=some o->b≠a->(w.del a).H b=some o:=fun b o h n=>by
  show (if b=a then none else w.H b)=_;rw [if_neg n];exact h
 refine ⟨⟨fun b o h=>⟨kp b o (R.wd.fr b o h).1 (fun z=>by rw [z,hb] at h;cases h),(R.wd.fr b o h).2⟩,R.wd.own,R.wd.len,fun n ob h=>?_,R.wd.tab.keep fd fun P ps h1 h2=>⟨kp P _ h1 (fun z=>by rw [z,k] at h2;cases h2),h2⟩⟩,R.len,fun i o d h=>?_⟩
 ·obtain ⟨c,e,x⟩:=R.wd.obj n ob h;exact ⟨c,e,x.keep fd fun b o hb' hn=>⟨kp b o hb' (fun z=>by rw [z,k] at hn;exact hn.elim),rfl⟩⟩
 ·obtain ⟨v,e,x⟩:=R.slots i o d h;exact ⟨v,e,x.keep fd fun b o hb' hr=>⟨kp b o hb' (fun z=>by rw [z,k] at hr;cases hr),hr⟩⟩
end
noncomputable def zvk(cl:Cf)(w:Wd):Bool->V->D->Prop
 | false,v,d=>Shd cl w v d
 | true,v,d=>∃a o i,v=.ref a/\w.ow a=some (.slot i)/\w.H a=some o/\Top cl w o d
noncomputable def zkR(cl:Cf)(n:Nat)(own:Bool)(G:List D->Sto->Out D):Sp:=fun vs H Q E=>vs.length=n/\∃B w ds S,w.H=H/\World' cl B w S/\Shds cl w vs ds/\match G ds S with
 | .ok d S'=>∀v w',World' cl B w' S'->Fut w w'->zvk cl w' own v d->Q v w'.H
 | .exc c S'=>∀w',World' cl B w' S'->Fut w w'->E (.ref (cl c)) none w'.H
 | .bad=>False
noncomputable def zfk(CX:CXT)(X:Cx)(E:St->XK):Prop:=∀(pins:Z3) (σ:St) (H:Hp) (s:Shared) (e:Value) (s':Shared),Inv X pins σ H s->CX X.stack H s (E σ) e s'->X.xe e s'
noncomputable def zfq(sp:Sp)(dvs:List V)(E:St->XK)(t:TA):TE:=fun σ H Q=>t σ H fun vs H1=>sp (vs++dvs) H1 Q (E σ)
section
variable{X:Cx}{CX:CXT}{k:Nat}{f C:Addr}{fd:FuncData}{ps:List Str}{sp:Sp}{dvs:List V}{ds:List Value}{E:St->XK}{x m:Str}{p pos apos:Pos}{e o:Expr}{es:List Expr}{ta:TE}{t:TA}
def zi4(F:FnOk X.prog X.w X.K X.mg X.base CX k f fd ps sp)(hr:Room k X.A)(hb:zdz X.K fd ps ds)(hd:Vals dvs ds)(hx:zfk CX X E)
  (I:Inv X pins σ H s) (r:Vals vs us) (h:sp (vs++dvs) H Q (E σ)):wpAny (model X.prog X.w) X.A (call (.ref f) us) (EP X pins σ Q) X.xe s:=by
 have r2:Vals (vs++dvs) (us++ds):=r.append hd
 have hl:(us++ds).length=ps.length:=by rw [<-r2.length];exact F.len _ _ _ _ h
 refine wpAny_call (ycF (F.run X.A X.stack s H ⟨us,[]⟩ (us++ds) (vs++dvs) Q (E σ) hr I.env0 (hb s us I.kIn hl) r2 h) fun r s' hq=>?_)
 cases r with
 | error e=>exact hx pins σ H s e s' I hq
 | ok fl =>
  cases fl with
  | ret u=>exact I.after hq
  | next=>exact False.elim hq
  | brk=>exact False.elim hq
  | cont=>exact False.elim hq
def zll(F:FnOk X.prog X.w X.K X.mg X.base CX k f fd ps sp)(hr:Room k X.A)(hg:Gl X x)(hm:X.mg x=some (.ref f))(hk:PySem.W.keepIn X.K (.ref f)=true)(hb:zdz X.K fd ps ds)(hd:Vals dvs ds)(hx:zfk CX X E)
  (ha:PA X (e::es) t) (hdb:(x == ("__debug__":Str))=false) (he:starEach (e::es) X.env=(false,eval e X.env)::starEach es X.env) (hpl:(backTo pos (starEach es X.env)).any (·.1)=false) :
  PE X (.Call (.Name x p) (e::es) [] pos) (zfq sp dvs E t):=by
 intro pins s σ H Q I h;refine yb5 (zdW I hg hm ?_ hdb);refine PySem.W.callWith_K (h₀:=X.base) I.ok.mod.kin hk (thn (ha pos pins s σ H _ I h) fun us s1 ⟨vs,H1,I1,r,q⟩=>⟨I1.kIn,?_⟩) he hpl;exact zi4 F hr hb hd hx I1 r q
def zjg(F:FnOk X.prog X.w X.K X.mg X.base CX k f fd ps sp)(hr:Room k X.A)(hg:Gl X x)(hm:X.mg x=some (.ref f))(hk:PySem.W.keepIn X.K (.ref f)=true)(hb:zdz X.K fd ps ds)(hd:Vals dvs ds)(hx:zfk CX X E)
  (hdb:(x == ("__debug__":Str))=false):PE X (.Call (.Name x p) [] [] pos) (zfq sp dvs E zsA):=by
 intro pins s σ H Q I h;refine yb5 (zdW I hg hm ?_ hdb);exact PySem.W.callWith_K0 I.kIn hk (zi4 (us:=[]) F hr hb hd hx I .nil h)
end
def eFn(G:List D->Sto->Out D)(fs:List Fe):Fe:=fun ρ S=>(zao fs ρ S).bind fun ds S1=>G ds S1
section
variable{cl:Cf}{E:St->XK}{fs:List Fe}{G:List D->Sto->Out D}{σ:St}{H:Hp}{Q:VK}{n:Nat}
def zrE(q:tE cl E (eFn G fs) σ H Q)(hn:fs.length=n):zfq (zkR cl n false G) [] E (tAs cl E fs) σ H Q:=by
 obtain ⟨B,w,ρ,S,rfl,R,q⟩:=q;refine ⟨B,w,ρ,S,rfl,R,?_⟩;unfold eFn at q
 cases hf:zao fs ρ S with
 | bad=>rwa [hf] at q
 | exc c S1=>rwa [hf] at q
 | ok ds S1 =>
  rw [hf] at q;intro vs w1 R1 F1 h1;dsimp only [Out.bind] at q
  have hl:∀(fs:List Fe) (S S1:Sto) (ds:List D),zao fs ρ S=.ok ds S1->ds.length=fs.length:=by
   intro fs
   induction fs with
   | nil=>intro S S1 ds h;cases h;rfl
   | cons f fs ih =>
    intro S S1 ds h;unfold zao at h
    cases h1:f ρ S with
    | bad=>rw [h1] at h;cases h
    | exc c S2=>rw [h1] at h;cases h
    | ok d S2 =>
     rw [h1] at h;dsimp only [Out.bind] at h
     cases h2:zao fs ρ S2 with
     | bad=>rw [h2] at h;cases h
     | exc c S3=>rw [h2] at h;cases h
     | ok es S3=>rw [h2] at h;cases h;rw [yan,yan,ih S2 _ es h2]
  refine ⟨by rw [ybj,h1.length,hl fs S S1 ds hf];exact hn,w1.base,w1.inn,ds,S1,rfl,R1.wd.enter,by rw [ybj];exact h1.up (zdd w1),?_⟩
  cases hg:G ds S1 with
  | bad=>rwa [hg] at q
  | exc c S2 =>
   rw [hg] at q;intro w2 W2 F2;obtain ⟨R3,F3⟩:=R1.leave W2 F2;exact q (w1.back w2) R3 (F1.trans F3)
  | ok d S2 =>
   rw [hg] at q;intro v w2 W2 F2 r2;obtain ⟨R3,F3⟩:=R1.leave W2 F2;exact q v (w1.back w2) R3 (F1.trans F3) (Shd.up (zdD W2) r2)
def zrD(q:tN cl E (eFn G fs) σ H Q)(hn:fs.length=n):zfq (zkR cl n true G) [] E (tAs cl E fs) σ H Q:=by
 obtain ⟨B,w,ρ,S,rfl,R,q⟩:=q;refine ⟨B,w,ρ,S,rfl,R,?_⟩;unfold eFn at q
 cases hf:zao fs ρ S with
 | bad=>rwa [hf] at q
 | exc c S1=>rwa [hf] at q
 | ok ds S1 =>
  rw [hf] at q;intro vs w1 R1 F1 h1;dsimp only [Out.bind] at q
  have hl:∀(fs:List Fe) (S S1:Sto) (ds:List D),zao fs ρ S=.ok ds S1->ds.length=fs.length:=by
   intro fs
   induction fs with
   | nil=>intro S S1 ds h;cases h;rfl
   | cons f fs ih =>
    intro S S1 ds h;unfold zao at h
    cases h1:f ρ S with
    | bad=>rw [h1] at h;cases h
    | exc c S2=>rw [h1] at h;cases h
    | ok d S2 =>
     rw [h1] at h;dsimp only [Out.bind] at h
     cases h2:zao fs ρ S2 with
     | bad=>rw [h2] at h;cases h
     | exc c S3=>rw [h2] at h;cases h
     | ok es S3=>rw [h2] at h;cases h;rw [yan,yan,ih S2 _ es h2]
  refine ⟨by rw [ybj,h1.length,hl fs S S1 ds hf];exact hn,w1.base,w1.inn,ds,S1,rfl,R1.wd.enter,by rw [ybj];exact h1.up (zdd w1),?_⟩
  cases hg:G ds S1 with
  | bad=>rwa [hg] at q
  | exc c S2 =>
   rw [hg] at q;intro w2 W2 F2;obtain ⟨R3,F3⟩:=R1.leave W2 F2;exact q (w1.back w2) R3 (F1.trans F3)
  | ok d S2 =>
   rw [hg] at q;intro v w2 W2 F2 r2;obtain ⟨R3,F3⟩:=R1.leave W2 F2;obtain ⟨a,o,i,rfl,k1,k2,t⟩:=r2;have hfr:w1.base.Fr a=none:=(W2.own a _ k1).elim (fun z=>by cases z) fun z=>z
   have k3:(w1.back w2).ow a=some .far:=by
    show (if (w1.base.Fr a).isSome=true then w1.ow a else Root.out (w2.ow a))=_;rw [hfr,k1];rfl
   have hb:B.Fr a=none:=by
    cases z:B.Fr a with
    | none=>rfl
    | some u=>rw [zcq R1.wd z] at hfr;cases hfr
   have hd:=zgP (w:=w1.back w2) (a:=a) (by rw [k3];exact yaG _);have:=q a o ((w1.back w2).del a) (R3.del k3 hb) (F1.trans (F3.trans hd)) (if_pos rfl) ((t.up (zdD W2)).up hd);rwa [zm0 (w:=w1.back w2) k2] at this
end
noncomputable def frz1(ρ:Env)(i:Nat):Env:=match ρ[i]? with | some (some (true,d))=>ρ.set i (some (false,d)) | _=>ρ
def frz(is:List Nat)(ρ:Env):Env:=is.foldl frz1 ρ
def sFz(is:List Nat)(f:Fs):Fs:=fun ρ S=>f (frz is ρ) S
noncomputable def sNx:Fs:=fun ρ S=>.nx ρ S
noncomputable def zae(f g:Fs):Fs:=fun ρ S=>match f ρ S with | .nx ρ' S'=>g ρ' S' | o=>o
noncomputable def zbj(i:Nat)(own:Bool)(f:Fe):Fs:=fun ρ S=>match f ρ S with | .ok d S'=>.nx (ρ.set i (some (own,d))) S' | .exc c S'=>.ex c ρ S' | .bad=>.bad
noncomputable def zrW(f:Fe):Fs:=fun ρ S=>match f ρ S with | .ok _ S'=>.nx ρ S' | .exc c S'=>.ex c ρ S' | .bad=>.bad
noncomputable def za9(f:Fe):Fs:=fun ρ S=>match f ρ S with | .ok d S'=>.rt d S' | .exc c S'=>.ex c ρ S' | .bad=>.bad
noncomputable def znt:Fs:=fun _ S=>.rt .non S
noncomputable def zi1(i:Nat):Fs:=fun ρ S=>match ρ[i]? with | some (some (true,d))=>.rt d S | _=>.bad
def sIf(c:Fe)(f g:Fs):Fs:=fun ρ S=>match c ρ S with | .ok d S'=>(match isB d with | some true=>f ρ S' | some false=>g ρ S' | none=>.bad) | .exc x S'=>.ex x ρ S' | .bad=>.bad
noncomputable def zhX(cl:Cf)(E:St->XK)(own:Bool)(B:Base)(w:Wd)(De:Ends):Fo->Prop
 | .nx ρ' S'=>∀σ' w',Rel cl B σ' w' ρ' S'->Fut w w'->De.nx σ' w'.H
 | .bk ρ' S'=>∀σ' w',Rel cl B σ' w' ρ' S'->Fut w w'->De.bk σ' w'.H
 | .ct ρ' S'=>∀σ' w',Rel cl B σ' w' ρ' S'->Fut w w'->De.ct σ' w'.H
 | .rt d S'=>∀v w',World' cl B w' S'->Fut w w'->zvk cl w' own v d->De.rt v w'.H
 | .ex c ρ' S'=>∀σ' w',Rel cl B σ' w' ρ' S'->Fut w w'->E σ' (.ref (cl c)) none w'.H
 | .bad=>False
theorem zhX.up(f:Fut w w1):∀{o:Fo},zhX cl E own B w De o->zhX cl E own B w1 De o
 | .nx _ _,h=>fun σ' w' R F=>h σ' w' R (f.trans F)
 | .bk _ _,h=>fun σ' w' R F=>h σ' w' R (f.trans F)
 | .ct _ _,h=>fun σ' w' R F=>h σ' w' R (f.trans F)
 | .rt _ _,h=>fun v w' R F=>h v w' R (f.trans F)
 | .ex _ _ _,h=>fun σ' w' R F=>h σ' w' R (f.trans F)
 | .bad,h=>h
noncomputable def tS(cl:Cf)(E:St->XK)(own:Bool)(f:Fs):TS:=fun De σ H=>∃B w ρ S,w.H=H/\Rel cl B σ w ρ S/\zhX cl E own B w De (f ρ S)
def PS.imp{X:Cx}{st:Stmt}{t t':TS}(h:PS X st t)(i:∀De σ H,t' De σ H->t De σ H):PS X st t':=fun pins s σ H De I q=>h pins s σ H De I (i _ _ _ q)
def PSs.imp{X:Cx}{st:List Stmt}{t t':TS}(h:PSs X st t)(i:∀De σ H,t' De σ H->t De σ H):PSs X st t':=fun pins s σ H De I q=>h pins s σ H De I (i _ _ _ q)
section
variable{cl:Cf}{B:Base}{σ:St}{w:Wd}{ρ:Env}{S:Sto}
def Rel.put(R:Rel cl B σ w ρ S)(h:Shd cl w v d):Rel cl B (σ.set i (some v)) w (ρ.set i (some (false,d))) S where
 wd:=R.wd
 len:=by rw [yaI,yaI];exact R.len
 slots:=fun j o e hj=>by
  by_cases hij:i=j
  ·subst hij
   have hlt:i<ρ.length:=by
    have:=(yam.mp hj).1;rwa [yaI] at this
   rw [yay hlt] at hj;cases hj;exact ⟨v,by rw [yay (by rw [R.len];exact hlt)],h⟩
  ·rw [yaN hij] at hj ⊢;exact R.slots j o e hj
def Wd.addAs(w:Wd)(p:Addr)(o:HO)(r:Root):Wd:=⟨upd w.H p o,fun a=>if a=p then some r else if w.ow a=some r then some .far else w.ow a,w.mu⟩
def zbl(h:w.H p=none):Fut w (w.addAs p o r) where
 keep:=fun a u ha hk=>by
  have n:a≠p:=zaH ha h;refine ⟨?_,?_⟩
  ·show upd w.H p o a=_;rw [zah n];exact ha
  ·show (if a=p then some r else if w.ow a=some r then some Root.far else w.ow a)=none;rw [if_neg n,if_neg (by rw [hk];exact fun z=>by cases z)];exact hk
 mu:=fun _ _ h=>h
theorem Rel.own(R:Rel cl B σ w ρ S)(hp:w.H p=none)(t:Top cl w o d):Rel cl B (σ.set i (some (.ref p))) (w.addAs p o (.slot i)) (ρ.set i (some (true,d))) S:=by
 have ff:=zbl (w:=w) (p:=p) (o:=o) (r:=.slot i) hp
 have kp:∀a u,w.H a=some u->w.ow a≠some (.slot i)->(w.addAs p o (.slot i)).H a=some u/\(w.addAs p o (.slot i)).ow a=w.ow a:=fun a u ha hk=>by
  have n:a≠p:=zaH ha hp;refine ⟨?_,?_⟩
  ·show upd w.H p o a=_;rw [zah n];exact ha
  ·show (if a=p then _ else if w.ow a=some (Root.slot i) then some Root.far else w.ow a)=_;rw [if_neg n,if_neg hk]
 have hBp:B.Fr p=none:=by
  cases z:B.Fr p with
  | none=>rfl
  | some u=>have:=(R.wd.fr p u z).1;rw [hp] at this;cases this
 refine ⟨⟨fun a u h=>?_,fun a r h=>?_,R.wd.len,fun n ob h=>?_,R.wd.tab.keep ff fun P ps h1 h2=>⟨(kp P _ h1 (by rw [h2];simp)).1,(kp P _ h1 (by rw [h2];simp)).2.trans h2⟩⟩,by rw [yaI,yaI];exact R.len,fun j b e hj=>?_⟩
 ·have hne:w.ow a≠some (.slot i):=fun z=>by
   rcases R.wd.own a _ z with y | y
   ·cases y
   ·rw [h] at y;cases y
  have:=kp a u (R.wd.fr a u h).1 hne;exact ⟨this.1,this.2.trans (R.wd.fr a u h).2⟩
 ·have h':(if a=p then some (Root.slot i) else if w.ow a=some (Root.slot i) then some Root.far else w.ow a)=some r:=h;split at h'
  ·rename_i e;rw [e];exact .inr hBp
  ·split at h'
   ·cases h';exact .inl rfl
   ·exact R.wd.own a r h'
 ·obtain ⟨a,e,x⟩:=R.wd.obj n ob h;exact ⟨a,e,x.keep ff fun b u hb hn=>kp b u hb fun z=>by rwa [z] at hn⟩
 ·by_cases hij:i=j
  ·subst hij
   have hlt:i<ρ.length:=by
    have:=(yam.mp hj).1;rwa [yaI] at this
   rw [yay hlt] at hj;cases hj;exact ⟨.ref p,by rw [yay (by rw [R.len];exact hlt)],p,o,rfl,if_pos rfl,zaL,t.up ff⟩
  ·rw [yaN hij] at hj ⊢;obtain ⟨v,e1,x⟩:=R.slots j b e hj;refine ⟨v,e1,x.keep ff fun a u ha hr=>?_⟩;have:=kp a u ha (by rw [hr];exact fun z=>hij (by cases z;rfl));exact ⟨this.1,this.2.trans hr⟩
def Wd.mut(w:Wd)(p:Addr)(o:HO):Wd:=⟨upd w.H p o,w.ow,w.mu⟩
def zfb(h:w.ow p≠none):Fut w (w.mut p o) where
 keep:=fun a u ha hk=>⟨by
  show upd w.H p o a=_
  rw [zah (fun z=>h (by rw [<-z];exact hk))];exact ha,hk⟩
 mu:=fun _ _ h=>h
theorem Rel.mut{i:Nat}{p:Addr}{o:HO}{d d0:D}(R:Rel cl B σ w ρ S)(hs:σ[i]?=some (some (.ref p)))(hk:w.ow p=some (.slot i))(t:Top cl w o d):Rel cl B σ (w.mut p o) (ρ.set i (some (true,d))) S:=by
 have ff:=zfb (w:=w) (p:=p) (o:=o) (by rw [hk];exact yaG _)
 have kp:∀a u,w.H a=some u->w.ow a≠some (.slot i)->(w.mut p o).H a=some u/\(w.mut p o).ow a=w.ow a:=fun a u ha hn=>⟨by
  show upd w.H p o a=_
  rw [zah (fun z=>hn (by rw [z];exact hk))];exact ha,rfl⟩
 have hBp:B.Fr p=none:=(R.wd.own p _ hk).elim (fun z=>by cases z) fun z=>z
 refine ⟨⟨fun a u h=>?_,R.wd.own,R.wd.len,fun n ob h=>?_,R.wd.tab.keep ff fun P ps h1 h2=>⟨(kp P _ h1 (by rw [h2];simp)).1,(kp P _ h1 (by rw [h2];simp)).2.trans h2⟩⟩,by rw [yaI];exact R.len,fun j b e hj=>?_⟩
 ·have hne:w.ow a≠some (.slot i):=fun z=>by
   rcases R.wd.own a _ z with y | y
   ·cases y
   ·rw [h] at y;cases y
  have:=kp a u (R.wd.fr a u h).1 hne;exact ⟨this.1,(R.wd.fr a u h).2⟩
 ·obtain ⟨a,e,x⟩:=R.wd.obj n ob h;exact ⟨a,e,x.keep ff fun b u hb hn=>kp b u hb fun z=>by rwa [z] at hn⟩
 ·by_cases hij:i=j
  ·subst hij
   have hlt:i<ρ.length:=by
    have:=(yam.mp hj).1;rwa [yaI] at this
   rw [yay hlt] at hj;cases hj;exact ⟨.ref p,hs,p,o,rfl,hk,zaL,t.up ff⟩
  ·rw [yaN hij] at hj;obtain ⟨v,e1,x⟩:=R.slots j b e hj;refine ⟨v,e1,x.keep ff fun a u ha hr=>?_⟩;have:=kp a u ha (by rw [hr];exact fun z=>hij (by cases z;rfl));exact ⟨this.1,this.2.trans hr⟩
noncomputable def Wd.free(w:Wd)(r:Root):Wd:=⟨w.H,fun a=>if w.ow a=some r then none else w.ow a,w.mu⟩
theorem Rel.frz1{X:Cx}{pins:Z3}{s:Shared}(R:Rel cl B σ w ρ S)(i:Nat)(I:Inv X pins σ w.H s):∃w',Inv X pins σ w'.H s/\Fut w w'/\Rel cl B σ w' (frz1 ρ i) S:=by
 unfold S2.frz1;split
 ·rename_i d hd;obtain ⟨v,e1,a,o,rfl,h1,h2,t⟩:=R.slots i true d hd;obtain ⟨o',I',hsh⟩:=t.fz I h2;generalize hw:((w.mut a o').free (.slot i):Wd)=w'
  have eH:w'.H=upd w.H a o':=by rw [<-hw];rfl
  have eO:∀b,w'.ow b=if w.ow b=some (.slot i) then none else w.ow b:=fun b=>by rw [<-hw];rfl
  have eM:w'.mu=w.mu:=by rw [<-hw];rfl
  have kp:∀b u,w.H b=some u->w.ow b≠some (.slot i)->w'.H b=some u/\w'.ow b=w.ow b:=fun b u hb hn=>⟨by
   rw [eH,zah (fun z=>hn (by rw [z];exact h1))];exact hb,by rw [eO,if_neg hn]⟩
  have ff:Fut w w':=⟨fun b u hb hk=>⟨(kp b u hb (by rw [hk];simp)).1,(kp b u hb (by rw [hk];simp)).2.trans hk⟩,fun n b h=>by rw [eM];exact h⟩;refine ⟨w',by rw [eH];exact I',ff,⟨fun b u h=>?_,fun b r h=>?_,by rw [eM];exact R.wd.len,fun n ob h=>?_,R.wd.tab.keep ff fun P ps h1 h2=>⟨(kp P _ h1 (by rw [h2];simp)).1,(kp P _ h1 (by rw [h2];simp)).2.trans h2⟩⟩,by rw [yaI];exact R.len,fun j b e hj=>?_⟩
  ·have hne:w.ow b≠some (.slot i):=fun z=>by
    rcases R.wd.own b _ z with y | y
    ·cases y
    ·rw [h] at y;cases y
   have:=kp b u (R.wd.fr b u h).1 hne;exact ⟨this.1,this.2.trans (R.wd.fr b u h).2⟩
  ·rw [eO] at h;split at h
   ·cases h
   ·exact R.wd.own b r h
  ·obtain ⟨b,e,x⟩:=R.wd.obj n ob h;exact ⟨b,by rw [eM];exact e,x.keep ff fun b u hb hn=>kp b u hb fun z=>by rwa [z] at hn⟩
  ·by_cases hij:i=j
   ·subst hij;have hlt:i<ρ.length:=(yam.mp hd).1;rw [yay hlt] at hj;cases hj;exact ⟨.ref a,e1,hsh w' ff (by rw [eH,zaL]) (by rw [eO,if_pos h1])⟩
   ·rw [yaN hij] at hj;obtain ⟨v,e1,x⟩:=R.slots j b e hj;refine ⟨v,e1,x.keep ff fun a u ha hr=>?_⟩;have:=kp a u ha (by rw [hr];exact fun z=>hij (by cases z;rfl));exact ⟨this.1,this.2.trans hr⟩
 ·exact ⟨w,I,Fut.refl _,R⟩
theorem Rel.frz{X:Cx}{pins:Z3}{s:Shared}:∀(is:List Nat) {w:Wd} {ρ:Env},Rel cl B σ w ρ S->Inv X pins σ w.H s->∃w',Inv X pins σ w'.H s/\Fut w w'/\Rel cl B σ w' (frz is ρ) S
 | [],w,ρ,R,I=>⟨w,I,Fut.refl _,R⟩
 | i::is,w,ρ,R,I=>by
  obtain ⟨w1,I1,f1,R1⟩:=R.frz1 i I;obtain ⟨w2,I2,f2,R2⟩:=Rel.frz is R1 I1;exact ⟨w2,I2,f1.trans f2,R2⟩
end
section
variable{X:Cx}{cl:Cf}{E:St->XK}{own:Bool}{st:Stmt}{za0:List Stmt}{f g:Fs}{e:Expr}{fe:Fe}{pos pos':Pos}
def zsL(is:List Nat)(h:PS X st (tS cl E own f)):PS X st (tS cl E own (sFz is f)):=by
 intro pins s σ H De I q;obtain ⟨B,w,ρ,S,rfl,R,q⟩:=q;obtain ⟨w',I',f',R'⟩:=R.frz is I;exact h pins s σ w'.H De I' ⟨B,w',frz is ρ,S,rfl,R',zhX.up f' q⟩
def zpx:PSs X [] (tS cl E own sNx):=by
 refine PSs.imp znC ?_;rintro De σ H ⟨B,w,ρ,S,rfl,R,q⟩;exact q σ w R (Fut.refl _)
def zni(h1:PS X st (tS cl E own f))(h2:PSs X za0 (tS cl E own g)):PSs X (st::za0) (tS cl E own (zae f g)):=by
 refine PSs.imp (zk7 h1 h2) ?_;rintro De σ H ⟨B,w,ρ,S,rfl,R,q⟩;refine ⟨B,w,ρ,S,rfl,R,?_⟩;unfold zae at q
 cases hf:f ρ S with
 | nx ρ' S' =>
  rw [hf] at q;intro σ' w' R' F';exact ⟨B,w',ρ',S',rfl,R',zhX.up F' q⟩
 | bk ρ' S'=>rwa [hf] at q
 | ct ρ' S'=>rwa [hf] at q
 | rt d S'=>rwa [hf] at q
 | ex c ρ' S'=>rwa [hf] at q
 | bad=>rwa [hf] at q
def znh:PS X (.Pass pos) (tS cl E own sNx):=by
 refine PS.imp znF ?_;rintro De σ H ⟨B,w,ρ,S,rfl,R,q⟩;exact q σ w R (Fut.refl _)
def ztO(q:tS cl E own (zbj i false fe) De σ H):zna (tE cl E fe) (zii i) De σ H:=by
 obtain ⟨B,w,ρ,S,rfl,R,q⟩:=q;refine ⟨B,w,ρ,S,rfl,R,?_⟩;unfold zbj at q
 cases hf:fe ρ S with
 | bad=>rwa [hf] at q
 | exc c S1=>rw [hf] at q;exact fun w' R' F'=>q σ w' R' F'
 | ok d S1 =>
  rw [hf] at q;intro v w' R' F' h';exact q _ w' (R'.put h') F'
def zrI(q:tS cl E own (zbj i true fe) De σ H):zna (tN cl E fe) (zii i) De σ H:=by
 obtain ⟨B,w,ρ,S,rfl,R,q⟩:=q;refine ⟨B,w,ρ,S,rfl,R,?_⟩;unfold zbj at q
 cases hf:fe ρ S with
 | bad=>rwa [hf] at q
 | exc c S1=>rw [hf] at q;exact fun w' R' F'=>q σ w' R' F'
 | ok d S1 =>
  rw [hf] at q;intro p o w' R' F' hp t;exact q _ (w'.addAs p o (.slot i)) (R'.own hp t) (F'.trans (zbl hp))
def zpA(hN:X.N.Nodup)(hi:X.N[i]?=some x)(hx:Loc X.env.scope x)(he:PE X e (tE cl E fe))(hs:swapsWith e (some (.Name x pos')) pos.line X.env=pure false)(hf:X.fn x=true\/X.env.scope.names.lookup x=some .local):PS X (.Assign [.Name x pos'] e pos) (tS cl E own (zbj i false fe)) :=
 PS.imp (zi9 hN hi hx he hs hf) fun _ _ _ q=>ztO q
def ziP(hN:X.N.Nodup)(hi:X.N[i]?=some x)(hx:Loc X.env.scope x)(he:PE X e (tN cl E fe))(hs:swapsWith e (some (.Name x pos')) pos.line X.env=pure false)(hf:X.fn x=true\/X.env.scope.names.lookup x=some .local):PS X (.Assign [.Name x pos'] e pos) (tS cl E own (zbj i true fe)) :=
 PS.imp (zi9 hN hi hx he hs hf) fun _ _ _ q=>zrI q
def zmh(he:PE X e (tE cl E fe))(hs:swapsWith e none pos.line X.env=pure false):PS X (.Expr e pos) (tS cl E own (zrW fe)):=by
 refine PS.imp (zgC he hs) ?_;rintro De σ H ⟨B,w,ρ,S,rfl,R,q⟩;refine ⟨B,w,ρ,S,rfl,R,?_⟩;unfold zrW at q
 cases hf:fe ρ S with
 | bad=>rwa [hf] at q
 | exc c S1=>rw [hf] at q;exact fun w' R' F'=>q σ w' R' F'
 | ok d S1=>rw [hf] at q;exact fun v w' R' F' _=>q σ w' R' F'
def zpw(he:PE X e (tE cl E fe)):PS X (.Return (some e) pos) (tS cl E false (za9 fe)):=by
 refine PS.imp (zja he) ?_;rintro De σ H ⟨B,w,ρ,S,rfl,R,q⟩;refine ⟨B,w,ρ,S,rfl,R,?_⟩;unfold za9 at q
 cases hf:fe ρ S with
 | bad=>rwa [hf] at q
 | exc c S1=>rw [hf] at q;exact fun w' R' F'=>q σ w' R' F'
 | ok d S1=>rw [hf] at q;exact fun v w' R' F' h'=>q v w' R'.wd F' h'
def zne(he:PE X e (tN cl E fe)):PS X (.Return (some e) pos) (tS cl E true (za9 fe)):=by
 refine PS.imp (zja he) ?_;rintro De σ H ⟨B,w,ρ,S,rfl,R,q⟩;refine ⟨B,w,ρ,S,rfl,R,?_⟩;unfold za9 at q
 cases hf:fe ρ S with
 | bad=>rwa [hf] at q
 | exc c S1=>rw [hf] at q;exact fun w' R' F'=>q σ w' R' F'
 | ok d S1 =>
  rw [hf] at q;intro p o w' R' F' hp t;have ff:=zbl (w:=w') (p:=p) (o:=o) (r:=.slot 0) hp;exact q (.ref p) (w'.addAs p o (.slot 0)) (Rel.own (i:=0) R' hp t).wd (F'.trans ff) ⟨p,o,0,rfl,if_pos rfl,zaL,t.up ff⟩
def znd(hN:X.N[i]?=some x)(hv:Vis X.env.scope x)(hd:(x == ("__debug__":Str))=false)(hcd:(x == ("__classdict__":Str))=false):PS X (.Return (some (.Name x pos')) pos) (tS cl E true (zi1 i)):=by
 refine PS.imp (zja (zdo hN hv hd hcd)) ?_;rintro De σ H ⟨B,w,ρ,S,rfl,R,q⟩;unfold zi1 at q;split at q
 ·rename_i d hd;obtain ⟨v,e1,a,o,rfl,h1,h2,t⟩:=R.slots i true d hd;exact ⟨_,e1,q _ w R.wd (Fut.refl _) ⟨a,o,i,rfl,h1,h2,t⟩⟩
 ·exact q.elim
def znf:PS X (.Return none pos) (tS cl E false znt):=by
 refine PS.imp znE ?_;rintro De σ H ⟨B,w,ρ,S,rfl,R,q⟩;exact q .non w R.wd (Fut.refl _) .non
def zsK(hc:PT X c (tTr cl E fc))(ha:PSs X a (tS cl E own f))(hb:PSs X b (tS cl E own g)):PS X (.If c a b pos) (tS cl E own (sIf fc f g)):=by
 refine PS.imp (zsZ hc ha hb) ?_;rintro De σ H ⟨B,w,ρ,S,rfl,R,q⟩;refine ⟨B,w,ρ,S,rfl,R,?_⟩;unfold sIf at q
 cases hg:fc ρ S with
 | bad=>rwa [hg] at q
 | exc c S1=>rw [hg] at q;exact fun w' R' F'=>q σ w' R' F'
 | ok d S1 =>
  rw [hg] at q;dsimp only at q ⊢
  cases hb:isB d with
  | none=>rw [hb] at q;exact q.elim
  | some b =>
   rw [hb] at q;intro w1 R1 F1
   cases b with
   | true=>exact zmA ⟨B,w1,ρ,S1,rfl,R1,zhX.up F1 q⟩
   | false=>exact zmB ⟨B,w1,ρ,S1,rfl,R1,zhX.up F1 q⟩
end
def zmo(i:Nat)(fe:Fe):Fs:=fun ρ S=>match ρ[i]? with
 | some (some (true,.lst l))=>(match fe ρ S with
  | .ok d S'=>if small l.length then .nx (ρ.set i (some (true,.lst (l++[d])))) S' else .bad
  | .exc c S'=>.ex c ρ S' | .bad=>.bad)
 | _=>.bad
section
variable{X:Cx}{cl:Cf}{E:St->XK}{own:Bool}{e:Expr}{fe:Fe}{pos pos':Pos}
def zhf(h:small n=true):n<sizeLine:=yb7 (yaE h) (by decide)
def Rel.list(R:Rel cl B σ w ρ S)(h:ρ[i]?=some (some (true,.lst l))):∃a xs,σ[i]?=some (some (.ref a))/\w.ow a=some (.slot i)/\w.H a=some (.lst xs)/\Shds cl w xs l:=by
 obtain ⟨v,e1,a,o,rfl,h1,h2,t⟩:=R.slots i true _ h
 cases t with
 | lst t=>exact ⟨a,_,e1,h1,h2,t⟩
def zpB(hN:X.N[i]?=some x)(hv:Vis X.env.scope x)(hd:(x == ("__debug__":Str))=false)(hcd:(x == ("__classdict__":Str))=false)(he:PE X e (tE cl E fe))
  (hpl:za4 e=true) (hln:(ap.endLine == cp.line)=true):PS X (.Expr (.Call (.Attribute (.Name x pos') "append" ap) [e] [] cp) pos) (tS cl E own (zmo i fe)):=by
 refine PS.imp (zgC (zlm (es:=[]) yb8 PySem.F.slot_list_append PySem.F.type_list_append zjs (zdo hN hv hd hcd) (zbB he zdp (za7 hpl)) (hfew:=zf1 (by simp [hpl]) (by simp)) (hline:=hln) (hs:=za7 hpl) (hplain:=rfl))) ?_;rintro De σ H ⟨B,w,ρ,S,rfl,R,q⟩;unfold zmo at q;split at q
 ·rename_i l hl;obtain ⟨a,xs,e1,h1,h2,t⟩:=R.list hl;refine ⟨_,e1,.inl ⟨rfl,_,SqL.of h2⟩,B,w,ρ,S,rfl,R,?_⟩
  cases hf:fe ρ S with
  | bad=>rwa [hf] at q
  | exc c S1=>rw [hf] at q;exact fun w' R' F'=>q σ w' R' F'
  | ok d S1 =>
   rw [hf] at q;intro v w' R' F' h';dsimp only at q
   cases hz:small l.length with
   | false=>rw [hz,if_neg (by decide)] at q;exact q.elim
   | true =>
    rw [hz,if_pos rfl] at q;obtain ⟨a',xs',e1',h1',h2',t'⟩:=R'.list hl;rw [e1] at e1';cases e1';refine ⟨a,xs',v,rfl,rfl,h2',by rw [t'.length];exact zhf hz,?_⟩;exact q σ (w'.mut a (.lst (xs'++[v]))) (R'.mut (d0:=.non) e1 h1' (.lst (t'.append (.cons h' .nil)))) (F'.trans (zfb (by rw [h1'];exact yaG _)))
 ·exact q.elim
end
end S2
namespace L2
open PySem PySem.Spec PyProof.Rows
section
variable{prog:Program}{w:World}{A:Around}{E:Z5}{s:Shared}
def zkJ{it t:Addr}{j:Nat}{vs:Array Value}{v:Value}{Q:Z5}(st:s.heap.IsTupleIter it t j)(tp:s.heap.IsTuple t vs)(e:vs[j]?=some v)
  (q:∀h',h'.IsTupleIter it t (j+1)->Heap.SameBut it s.heap h'->Q v { s with heap:=h' }):wpAny (model prog w) A (Builtin.SmallTypes.nextOf (.ref it)) Q E s:=by
 obtain ⟨o1,g1,c1,d1⟩:=id st;obtain ⟨o2,g2,_,n2,d2⟩:=tp;unfold Builtin.SmallTypes.nextOf;refine yaa (ybb (name:=Str.ofString "__next__") st.typeIs ybp (ybq ybp st.typeIs F.entry_tuple_iterator_next ?_ (F.args_tuple_iterator_next_1 _)));show wpAny _ _ (field (.ref it) 0 >>= _) _ _ s;refine yaa (ybw g1 d1 (x:=.ref t) rfl ?_);show wpAny _ _ (if (Value.ref t == Value.none)=true then _ else _) _ _ s;rw [if_neg (show ¬ ((Value.ref t == Value.none)=true) from fun z=>yaU z)];show wpAny _ _ (field (.ref it) 1 >>= _) _ _ s;refine yaa (ybw g1 d1 (x:=.int j 0) rfl ?_);show wpAny _ _ (seqItems? (.ref t) >>= _) _ _ s;refine yaa (ybx g2 d2 ?_);simp only [ybz,e];refine yaa (wpAny_setField g1 d1 (by simp) (yaf ⟨v,rfl,yaf (q _ ?_ (Heap.SameBut.update ..))⟩));refine ⟨_,yck _ g1 (Obj.isFreed_of_fields (Obj.data_mapFields d1 _)),(Obj.cls_mapFields ..).trans c1,?_⟩;rw [Obj.data_mapFields d1];simp [rawInt]
def zm1{it t:Addr}{j:Nat}{vs:Array Value}{Q:Z5}(hh:A.handled=none)(st:s.heap.IsTupleIter it t j)(tp:s.heap.IsTuple t vs)(e:vs[j]?=none)
  (q:∀h' x,Heap.ExtBut it s.heap h'->(∃o,h'.get? x=some o/\o.cls=.type "StopIteration")->E (.ref x) { s with heap:=h' }):wpAny (model prog w) A (Builtin.SmallTypes.nextOf (.ref it)) Q E s:=by
 obtain ⟨o1,g1,c1,d1⟩:=id st;obtain ⟨o2,g2,_,n2,d2⟩:=tp;unfold Builtin.SmallTypes.nextOf;refine yaa (ybb (name:=Str.ofString "__next__") st.typeIs ybp (ybq ybp st.typeIs F.entry_tuple_iterator_next ?_ (F.args_tuple_iterator_next_1 _)));show wpAny _ _ (field (.ref it) 0 >>= _) _ _ s;refine yaa (ybw g1 d1 (x:=.ref t) rfl ?_);show wpAny _ _ (if (Value.ref t == Value.none)=true then _ else _) _ _ s;rw [if_neg (show ¬ ((Value.ref t == Value.none)=true) from fun z=>yaU z)];show wpAny _ _ (field (.ref it) 1 >>= _) _ _ s;refine yaa (ybw g1 d1 (x:=.int j 0) rfl ?_);show wpAny _ _ (seqItems? (.ref t) >>= _) _ _ s;refine yaa (ybx g2 d2 ?_);simp only [ybz,e];refine yaa (ycV (yaa (wpAny_setField g1 d1 (by simp) ?_)));show wpAny _ _ (newExc (.type "StopIteration") [] >>= _) _ _ _;refine yaa ?_;simp only [newExc,newTuple];refine yaa (ybf ?_ (by size_fits));refine yaa (m:=firstArgMember _ _) (wpAny_of_eq (a:=Value.none) ?_ ?_)
 ·first | rfl | (simp only [firstArgMember];rfl)
 refine ybf ?_ (by size_fits);simp only [raiseNew];refine yaa (wpAny_handled ?_)
 first | rw [show A.in1.handled=none from hh] | rw [hh]
 refine yaa (yaf (wpAny_throw (q _ _ (((Heap.SameBut.update ..).extBut.push _).push _) ⟨_,yat _ rfl,rfl⟩)))
def zj6(hh:A.handled=none)(it t:Addr)(ne:t≠it)(vs:Array Value):Draws prog w A it [it,t] vs.size (fun j v=>vs[j]?=some v) (fun j h=>h.IsTupleIter it t j/\h.IsTuple t vs) where
 live:=fun _ _ st=>by obtain ⟨⟨o,ho,_⟩,_⟩:=st;exact ⟨o,ho⟩
 frame:=fun _ _ _ st hk=>⟨st.1.at fun o e=>hk it (by simp) o e,by obtain ⟨o,ho,r⟩:=st.2;exact ⟨o,hk t (by simp) o ho,r⟩⟩
 item:=fun j s Q E hj st hQ=>zkJ st.1 st.2 (v:=vs[j]) (by simp [hj]) fun h' st' sb=>hQ _ h' s.toks (by simp [hj]) ⟨st',by obtain ⟨o,ho,r⟩:=st.2;exact ⟨o,(sb.2 t ne).trans ho,r⟩⟩ sb
 done:=fun s Q E st hE=>zm1 hh st.1 st.2 (by simp) hE
end
section
variable{X:Cx}{pins:Z3}{σ:St}{H:Hp}{s:Shared}
def Inv.turnedL{t':Nat}{h':Heap}{ch:List Addr}(I:Inv X pins σ H s)(k:∀b o,b ∉ ch->s.heap.get? b=some o->h'.get? b=some o)(hf:∀b∈ch,zkz X pins H b):Inv X pins σ H { s with heap:=h',toks:=t' }:=by
 have nit:∀b u,H b=some u->b ∉ ch:=fun b u e z=>by rw [(hf b z).1] at e;cases e
 refine I.step (g':=s.gens) (d':=s.drawn) (ch:=ch) (fun b hb=>?_) (fun b o _ _ hc e _=>k b o hc e) (fun b o _ _ hc e _=>⟨o.slots,k b o hc e⟩) (fun _ _ _ _ n=>n) (fun b o hc e=>⟨o,k b o hc e⟩) (fun _ _ e=>e) (fun _ _ _ e=>e) (fun b ps e=>⟨#[],by rw [e];simp⟩) (fun m hm=>?_) (fun b u e=>?_) I.bare
 ·obtain ⟨f0,f1,f2,f3,f4,f5⟩:=hf b hb;exact ⟨f3,f1,f4,f5⟩
 ·obtain ⟨o,es,ep,ho,r⟩:=hm;exact ⟨o,es,ep,k _ o (fun z=>(hf _ z).2.1 rfl) ho,r⟩
 ·refine (I.hok b u e).stay (fun c v hc q=>k c v ?_ q) (fun _ q=>q) fun _ _ q=>q
  rcases hc with z | z
  ·rw [z];exact nit b u e
  ·exact nit c _ z
end
end L2
namespace S2
open PySem PySem.Spec PyProof.Rows L2
structure ItOk(cl:Cf)(w:Wd)(J:It)(ds:List D):Prop where
 go:∀w',Fut w w'->∀i,i<ds.length->J.go i w'.H
 stop:∀w',Fut w w'->J.stop ds.length w'.H
 yld:∀w',Fut w w'->∀i d x H',ds[i]?=some d->J.yld i w'.H x H'->∃w'',w''.H=H'/\Grow w' w''/\Shd cl w'' x d
noncomputable abbrev Fi:=Env->Sto->Out (List D)
noncomputable def tI(cl:Cf)(E:St->XK)(f:Fi):TI:=fun σ H R'=>∃B w ρ S,w.H=H/\Rel cl B σ w ρ S/\match f ρ S with
 | .ok ds S'=>∀J w',Rel cl B σ w' ρ S'->Fut w w'->ItOk cl w' J ds->R' J w'.H
 | .exc c S'=>∀w',Rel cl B σ w' ρ S'->Fut w w'->E σ (.ref (cl c)) none w'.H
 | .bad=>False
def PI.imp(h:PI X tg it t)(i:∀σ H Q,t' σ H Q->t σ H Q):PI X tg it t':=fun pins s σ H Q I q=>h pins s σ H Q I (i _ _ _ q)
inductive Tg where | one (i:Nat) | tup (is:List Nat)
noncomputable def zdn:List Nat->List D->Env->Option Env
 | [],[],ρ=>some ρ
 | i::is,d::ds,ρ=>zdn is ds (ρ.set i (some (false,d)))
 | _,_,_=>none
noncomputable def Tg.put:Tg->Env->D->Option Env
 | .one i,ρ,d=>some (ρ.set i (some (false,d)))
 | .tup is,ρ,.tup ds=>zdn is ds ρ
 | .tup _,_,_=>none
noncomputable def tG(cl:Cf)(n:Nat)(tg:Tg):TG:=fun v σ H Q=>∃B w ρ S d ρ',w.H=H/\Rel cl B σ w ρ S/\Shd cl w v d/\tg.put ρ d=some ρ'/\∀σ',σ'.length=σ.length->σ'.drop n=σ.drop n->Rel cl B σ' w ρ' S->Q σ' w.H
def PG.imp(h:PG X tg t)(i:∀v σ H Q,t' v σ H Q->t v σ H Q):PG X tg t':=fun pins s σ H v u Q I r q=>h pins s σ H v u Q I r (i _ _ _ _ q)
def zhH(tg:Tg)(body:Fs):List D->Env->Sto->Fo
 | [],ρ,S=>.nx ρ S
 | d::ds,ρ,S=>match tg.put ρ d with
  | none=>.bad
  | some ρ1=>match body ρ1 S with
   | .nx ρ' S'=>zhH tg body ds ρ' S'
   | .ct ρ' S'=>zhH tg body ds ρ' S'
   | .bk ρ' S'=>.nx ρ' S'
   | o=>o
noncomputable def zhi(tg:Tg)(it:Fi)(body:Fs):Fs:=fun ρ S=>match it ρ S with
 | .ok ds S'=>zhH tg body ds ρ S'
 | .exc c S'=>.ex c ρ S'
 | .bad=>.bad
section
variable{X:Cx}{cl:Cf}{E:St->XK}{own:Bool}{e iter tg:Expr}{body:List Stmt}{fb:Fs}{fi:Fi}{fc:Fe}{t:Tg}{pos:Pos}
theorem zhM{α:Type}{l:List α}{a:α}(h:i<n):(l.set i a).drop n=l.drop n:=by
 refine List.ext_getElem? fun k=>?_
 rw [ybH,ybH,yaN (by omega)]
def zpK(hin:i<n)(hN:X.N.Nodup)(hi:X.N[i]?=some x)(hx:Loc X.env.scope x)(hf:X.fn x=true\/X.env.scope.names.lookup x=some .local):PG X (.Name x pos) (tG cl n (.one i)):=by
 refine PG.imp (zjf hN hi hx hf) ?_;rintro v σ H Q ⟨B,w,ρ,S,d,ρ',rfl,R,h,hp,q⟩;cases hp;exact q _ (yaI ..) (zhM hin) (R.put h)
noncomputable def tGs(cl:Cf)(n:Nat)(is:List Nat):TGs:=fun vs σ H Q=>∃B w ρ S ds ρ',w.H=H/\Rel cl B σ w ρ S/\Shds cl w vs ds/\zdn is ds ρ=some ρ'/\∀σ',σ'.length=σ.length->σ'.drop n=σ.drop n->Rel cl B σ' w ρ' S->Q σ' w.H
def zno:PGs X [] (tGs cl n []):=by
 intro pins s σ H vs us Q I r h;obtain ⟨B,w,ρ,S,ds,ρ',rfl,R,hs,hp,q⟩:=h
 cases hs with
 | nil =>
  cases hp;exact znP pins s σ w.H [] us Q I r ⟨rfl,q σ rfl rfl R⟩
 | cons _ _=>cases hp
def zkT(hin:i<n)(hN:X.N.Nodup)(hi:X.N[i]?=some x)(hx:Loc X.env.scope x)(hf:X.fn x=true\/X.env.scope.names.lookup x=some .local)(h2:PGs X es (tGs cl n is)):PGs X (.Name x pos::es) (tGs cl n (i::is)):=by
 intro pins s σ H vs us Q I r h;obtain ⟨B,w,ρ,S,ds,ρ',rfl,R,hs,hp,q⟩:=h;refine zle (zjf hN hi hx hf) h2 rfl pins s σ w.H vs us Q I r ?_
 cases hs with
 | nil=>cases hp
 | cons h t =>
  rename_i v d vs ds;exact ⟨v,vs,rfl,B,w,_,S,ds,ρ',rfl,R.put h,t,hp,fun σ' e1 e2=>q σ' (e1.trans (yaI ..)) (e2.trans (zhM hin))⟩
def zpJ(hc:X.calm=true)(h:PGs X es (tGs cl n is))(hn:(assignEach es X.env).length=is.length)(hst:(assignEach es X.env).findIdx? (·.1)=none):PG X (.Tuple es k pos) (tG cl n (.tup is)):=by
 refine PG.imp (zqg hc h hn hst) ?_;rintro v σ H Q ⟨B,w,ρ,S,d,ρ',rfl,R,h,hp,q⟩
 cases h with
 | tup e k r =>
  have hl:∀(is:List Nat) (ds:List D) (ρ ρ':Env),zdn is ds ρ=some ρ'->ds.length=is.length:=by
   intro is
   induction is with
   | nil=>intro ds ρ ρ' h;cases ds with
    | nil=>rfl
    | cons _ _=>cases h
   | cons i is ih=>intro ds ρ ρ' h;cases ds with
    | nil=>cases h
    | cons d ds=>rw [yan,yan,ih ds _ _ h]
  rename_i a xs ds;refine ⟨a,xs,rfl,SqT.of e,by rw [r.length];exact hl is ds ρ ρ' hp,B,w,ρ,S,ds,ρ',rfl,R,r,hp,q⟩
 | _=>cases hp
theorem zpy(hp:PassesOwn (model X.prog X.w) X.A X.env X.xe)(hc:X.calm=true)(hi:PI X tg iter (tI cl E fi))(hg:PG X tg (tG cl n t))(hb:PSs X body (tS cl E own fb))(hs:∀x,foldedSetIterable iter X.env x=pure x):PS X (.For tg iter body [] pos) (tS cl E own (zhi t fi fb)):=by
 refine PS.imp (zqa hp hc hi hg hb hs) ?_;rintro De σ H ⟨B,w,ρ,S,rfl,R,q⟩;refine ⟨B,w,ρ,S,rfl,R,?_⟩;unfold zhi at q
 cases hf:fi ρ S with
 | bad=>rwa [hf] at q
 | exc c S1=>rw [hf] at q;exact fun w' R' F'=>q σ w' R' F'
 | ok ds S1 =>
  rw [hf] at q;intro J w0 R0 F0 hJ;dsimp only at q;refine ⟨fun i m σ' H'=>m=ds.length-i/\i<=ds.length/\∃w1 ρ1 S2,w1.H=H'/\Fut w0 w1/\Rel cl B σ' w1 ρ1 S2/\zhX cl E own B w1 De (zhH t fb (ds.drop i) ρ1 S2),⟨ds.length,by simp,yaP _,w0,ρ,S1,rfl,Fut.refl _,R0,by rw [ycI];exact zhX.up F0 q⟩,?_⟩;rintro i m σ1 H1 ⟨rfl,hi,w1,ρ1,S2,rfl,F1,R1,q1⟩
  by_cases hlt:i<ds.length
  ·obtain ⟨d,hd⟩:∃d,ds[i]?=some d:=⟨ds[i],yaj hlt⟩
   have hdr:ds.drop i=d::ds.drop (i+1):=by
    rw [List.drop_eq_getElem_cons hlt];rw [yaj hlt] at hd;cases hd;rfl
   rw [hdr] at q1;unfold zhH at q1
   cases hp1:t.put ρ1 d with
   | none=>rw [hp1] at q1;exact q1.elim
   | some ρ2 =>
    rw [hp1] at q1;dsimp only at q1;refine .inr ⟨hJ.go w1 F1 i hlt,fun σ' H'=>i+1<=ds.length/\∃w1 ρ1 S2,w1.H=H'/\Fut w0 w1/\Rel cl B σ' w1 ρ1 S2/\zhX cl E own B w1 De (zhH t fb (ds.drop (i+1)) ρ1 S2),fun σ' H' h'=>⟨ds.length-(i+1),by omega,rfl,h'.1,h'.2⟩,fun x H' y=>?_⟩;obtain ⟨w2,rfl,g2,s2⟩:=hJ.yld w1 F1 i d x H' hd y;refine ⟨B,w2,ρ1,S2,d,ρ2,rfl,R1.grow g2,s2,hp1,fun σ2 _ _ R2=>⟨B,w2,ρ2,S2,rfl,R2,?_⟩⟩;have q2:=zhX.up g2.fut q1
    cases hb:fb ρ2 S2 with
    | bad=>rwa [hb] at q2
    | rt d S3=>rwa [hb] at q2
    | ex c ρ3 S3=>rwa [hb] at q2
    | bk ρ3 S3=>rw [hb] at q2;exact fun σ3 w3 R3 F3=>q2 σ3 w3 R3 F3
    | nx ρ3 S3=>rw [hb] at q2;exact fun σ3 w3 R3 F3=>⟨hlt,w3,ρ3,S3,rfl,F1.trans (g2.fut.trans F3),R3,zhX.up F3 q2⟩
    | ct ρ3 S3=>rw [hb] at q2;exact fun σ3 w3 R3 F3=>⟨hlt,w3,ρ3,S3,rfl,F1.trans (g2.fut.trans F3),R3,zhX.up F3 q2⟩
  ·have e:i=ds.length:=by omega
   subst e;rw [List.drop_length] at q1;exact .inl ⟨hJ.stop w1 F1,q1 σ1 w1 R1 (Fut.refl _)⟩
def zhL(f:Fe):Fi:=fun ρ S=>(f ρ S).bind fun d S1=>match d with | .lst l=>.ok l S1 | _=>.bad
def zgS(f:Fe):Fi:=fun ρ S=>(f ρ S).bind fun d S1=>match d with | .tup l=>.ok l S1 | _=>.bad
theorem ziT(he:PE X e (tE cl E fc)):PI X tg e (tI cl E (zhL fc)):=by
 refine PI.imp (znN he) ?_;rintro σ H Q ⟨B,w,ρ,S,rfl,R,q⟩;refine ⟨B,w,ρ,S,rfl,R,?_⟩;unfold zhL at q
 cases hf:fc ρ S with
 | bad=>rwa [hf] at q
 | exc c S1=>rwa [hf] at q
 | ok d S1 =>
  rw [hf] at q;intro v w' R' F' h';dsimp only [Out.bind] at q
  cases h' with
  | lst e k r =>
   rename_i a xs ds;refine ⟨a,rfl,⟨xs,SqL.of e⟩,q _ w' R' F' ?_⟩;have hl:=r.length;refine ⟨fun w1 F1 i hi=>⟨xs,xs[i]'(by omega),SqL.of (F1.keep _ _ e k).1,yaj (by omega)⟩,fun w1 F1=>⟨xs,SqL.of (F1.keep _ _ e k).1,by omega⟩,fun w1 F1 i d x H1 hd y=>?_⟩;obtain ⟨rfl,hy⟩:=y;have hx:=hy xs (SqL.of (F1.keep _ _ e k).1);obtain ⟨d',e1,e2⟩:=r.get hx;rw [hd] at e1;cases e1;exact ⟨w1,rfl,Grow.refl _,e2.up F1⟩
  | _=>exact q.elim
def zpF(he:PE X e (tE cl E fc)):PI X tg e (tI cl E (zgS fc)):=by
 refine PI.imp (zqe he) ?_;rintro σ H Q ⟨B,w,ρ,S,rfl,R,q⟩;refine ⟨B,w,ρ,S,rfl,R,?_⟩;unfold zgS at q
 cases hf:fc ρ S with
 | bad=>rwa [hf] at q
 | exc c S1=>rwa [hf] at q
 | ok d S1 =>
  rw [hf] at q;intro v w' R' F' h';dsimp only [Out.bind] at q
  cases h' with
  | tup e k r =>
   rename_i a xs ds;refine ⟨a,rfl,⟨xs,SqT.of e⟩,q _ w' R' F' ?_⟩;have hl:=r.length;refine ⟨fun w1 F1 i hi=>⟨xs,xs[i]'(by omega),SqT.of (F1.keep _ _ e k).1,yaj (by omega)⟩,fun w1 F1=>⟨xs,SqT.of (F1.keep _ _ e k).1,by omega⟩,fun w1 F1 i d x H1 hd y=>?_⟩;obtain ⟨rfl,hy⟩:=y;have hx:=hy xs (SqT.of (F1.keep _ _ e k).1);obtain ⟨d',e1,e2⟩:=r.get hx;rw [hd] at e1;cases e1;exact ⟨w1,rfl,Grow.refl _,e2.up F1⟩
  | _=>exact q.elim
noncomputable def za3(lo hi:Int):List D:=(List.range (hi-lo).toNat).map fun (i:Nat)=>.int (lo+i)
def zdh(f:Fe):Fi:=fun ρ S=>(zao [f] ρ S).bind fun ds S1=>match ds with | [.int j]=>if -1000000<=j/\j<=1000000 then .ok (za3 0 j) S1 else .bad | _=>.bad
def zq8{w:Wd}{lo hi:Int}{n:Nat}(hn:n=(hi-lo).toNat):ItOk cl w (Itr lo n) (za3 lo hi):=by
 subst hn
 have hl:(za3 lo hi).length=(hi-lo).toNat:=by unfold za3;rw [yac,ybP]
 refine ⟨fun w1 F1 i h=>by rw [hl] at h;exact h,fun w1 F1=>by rw [hl];exact yak _,fun w1 F1 i d x H1 hd y=>?_⟩;obtain ⟨rfl,rfl⟩:=y;unfold za3 at hd;rw [yav] at hd
 cases hr:(List.range (hi-lo).toNat)[i]? with
 | none=>rw [hr] at hd;cases hd
 | some j =>
  rw [hr] at hd;have:=(yam.mp hr).2;rw [List.getElem_range] at this;subst this;cases hd;exact ⟨w1,rfl,Grow.refl _,.int _⟩
theorem znn(hg:Gl X "range")(hm:X.mg "range" = none)(ha:PA X [e] (tAs cl E [fc]))(hs:starEach [e] X.env=[(false,eval e X.env)]):PI X tg (.Call (.Name "range" p) [e] [] pos) (tI cl E (zdh fc)):=by
 refine PI.imp (zje hg hm ha hs) ?_;rintro σ H Q ⟨B,w,ρ,S,rfl,R,q⟩;refine ⟨B,w,ρ,S,rfl,R,?_⟩;unfold zdh at q
 cases hf:zao [fc] ρ S with
 | bad=>rwa [hf] at q
 | exc c S1=>rwa [hf] at q
 | ok ds S1 =>
  rw [hf] at q;intro vs w' R' F' h';dsimp only [Out.bind] at q;split at q
  ·rename_i ds' S' hm';split at hm'
   ·rename_i j;split at hm'
    ·rename_i hb;cases hm'
     cases h' with
     | cons h1 h2 =>
      cases h1;cases h2;exact ⟨j,rfl,by omega,by omega,q _ w' R' F' (zq8 (by omega))⟩
    ·cases hm'
   ·cases hm'
  ·rename_i hm';split at hm'<;>first | (split at hm'<;>cases hm') | cases hm'
  ·exact q.elim
end
noncomputable def zko(ρ:Env)(i:Nat):Option (Bool×D):=match ρ[i]? with | some (some (false,d))=>some (false,d) | _=>none
def zbo(n:Nat)(caps:List Nat)(ρ:Env):Env:=List.replicate n none++caps.map (zko ρ)
def zcz:Fe:=zab (.bl true)
def za6(tg:Tg)(c elt:Fe)(ρ0:Env):List D->Sto->Out (List D)
 | [],S=>.ok [] S
 | d::ds,S=>match tg.put ρ0 d with
  | none=>.bad
  | some ρ1=>(c ρ1 S).bind fun b S1=>match isB b with
   | some true=>(elt ρ1 S1).bind fun y S2=>(za6 tg c elt ρ0 ds S2).bind fun ys S3=>.ok (y::ys) S3
   | some false=>za6 tg c elt ρ0 ds S1
   | none=>.bad
def zbI(n:Nat)(tg:Tg)(it:Fi)(c elt:Fe)(caps:List Nat):Fe:=fun ρ S=>(it ρ S).bind fun ds S1=>match za6 tg c elt (zbo n caps ρ) ds S1 with
 | .ok ys S2=>if small ys.length then .ok (.lst ys) S2 else .bad
 | _=>.bad
noncomputable abbrev noE:St->XK:=fun _ _ _ _=>False
section
variable{cl:Cf}
theorem zjQ{caps:List (Str×Nat)}(R:Rel cl B σ w ρ S)(W1:World' cl B1 w1 S1)(F1:Fut w w1){σ':St}(hσ:σ'.length=n+caps.length)(hc:σ'.drop n=caps.map fun p=>(σ[p.2]?).join) :
  Rel cl B1 σ' w1 (zbo n (caps.map (·.2)) ρ) S1 where
 wd:=W1
 len:=by unfold zbo;rw [hσ,yar,yaL,yac,yac]
 slots:=fun i o d h=>by
  unfold zbo at h
  by_cases hi:i<n
  ·rw [ya4 (by rw [yaL];exact hi),ybB] at h
   split at h<;>cases h
  ·rw [ybe (by rw [yaL];omega),yaL,yaq,yav] at h
   cases hp:caps[i-n]? with
   | none=>rw [hp] at h;cases h
   | some p =>
    rw [hp] at h;have h':zko ρ p.2=some (o,d):=Option.some.inj h;unfold zko at h';split at h'
    ·rename_i d' hd;cases h';obtain ⟨v,e,x⟩:=R.slots p.2 false d hd;refine ⟨v,?_,Shd.up F1 x⟩;have:=congrArg (fun l=>l[i-n]?) hc;rw [ybH,yav,hp] at this;rw [show n+(i-n)=i by omega] at this;rw [this];show some ((σ[p.2]?).join)=_;rw [e];rfl
    ·cases h'
end
section
variable{X:Cx}{cl:Cf}{E:St->XK}
theorem zmN(q:tN cl E (zbI n t fi fc fe (caps.map (·.2))) σ H Q) :
  zhc (tI cl E fi) (tG cl n t) (tTr cl noE fc) (tE cl noE fe) n caps σ H Q:=by
 obtain ⟨B,w,ρ,S,rfl,R,q⟩:=q;refine ⟨B,w,ρ,S,rfl,R,?_⟩;unfold zbI at q
 cases hf:fi ρ S with
 | bad=>rwa [hf] at q
 | exc c S1=>rwa [hf] at q
 | ok ds S1 =>
  rw [hf] at q;dsimp only [Out.bind] at q;intro J w0 R0 F0 hJ
  cases hcd:za6 t fc fe (zbo n (caps.map (·.2)) ρ) ds S1 with
  | bad=>rw [hcd] at q;exact q.elim
  | exc _ _=>rw [hcd] at q;exact q.elim
  | ok all Sf =>
   rw [hcd] at q;dsimp only at q
   cases hz:small all.length with
   | false=>rw [hz,if_neg (by decide)] at q;exact q.elim
   | true =>
    rw [hz,if_pos rfl] at q;dsimp only at q;refine ⟨fun i m ys σ' H'=>m=ds.length-i/\i<=ds.length/\σ'.length=n+caps.length/\σ'.drop n=(caps.map fun p=>(σ[p.2]?).join)/\∃w1 S2 es za0,w1.H=H'/\Fut w0.inn w1/\World' cl w0.base w1 S2/\Shds cl w1 ys es/\za6 t fc fe (zbo n (caps.map (·.2)) ρ) (ds.drop i) S2=.ok za0 Sf/\es++za0=all,⟨ds.length,by simp,yaP _,by simp [capσ],by simp [capσ],w0.inn,S1,[],all,rfl,Fut.refl _,R0.wd.enter,.nil,by rw [ycI];exact hcd,rfl⟩,?_⟩;rintro i m ys σ1 H1 ⟨rfl,hi,hl1,hd1,w1,S2,es,za0,rfl,F1,W1,sh,hrest,hall⟩;refine ⟨?_,?_⟩
    ·rw [sh.length];refine yaw ?_ (zaA hz);rw [<-hall,yar];omega
    have F1':Fut w0 w1:=(zdd w0).trans F1
    by_cases hlt:i<ds.length
    ·obtain ⟨d,hdi⟩:∃d,ds[i]?=some d:=⟨ds[i],yaj hlt⟩
     have hdr:ds.drop i=d::ds.drop (i+1):=by
      rw [List.drop_eq_getElem_cons hlt];rw [yaj hlt] at hdi;cases hdi;rfl
     rw [hdr] at hrest;unfold za6 at hrest;refine .inr ⟨hJ.go w1 F1' i hlt,fun x H' y=>?_⟩;obtain ⟨w2,rfl,g2,s2⟩:=hJ.yld w1 F1' i d x H' hdi y;have R1:Rel cl w0.base σ1 w2 (zbo n (caps.map (·.2)) ρ) S2:=zjQ R0 (W1.grow g2) (F1'.trans g2.fut) hl1 hd1
     cases hp:t.put (zbo n (caps.map (·.2)) ρ) d with
     | none=>rw [hp] at hrest;cases hrest
     | some ρ1 =>
      rw [hp] at hrest;dsimp only at hrest;refine ⟨w0.base,w2,_,S2,d,ρ1,rfl,R1,s2,hp,fun σ2 hk1 hk2 R2=>⟨w0.base,w2,ρ1,S2,rfl,R2,?_⟩⟩
      cases hc:fc ρ1 S2 with
      | bad=>rw [hc] at hrest;cases hrest
      | exc _ _=>rw [hc] at hrest;cases hrest
      | ok b S3 =>
       rw [hc] at hrest;dsimp only [Out.bind] at hrest ⊢
       cases hb:isB b with
       | none=>rw [hb] at hrest;cases hrest
       | some bb =>
        rw [hb] at hrest;intro w3 R3 F3
        cases bb with
        | false=>exact zmB ⟨ds.length-(i+1),by omega,rfl,hlt,hk1.trans hl1,hk2.trans hd1,w3,S3,es,za0,rfl,F1.trans (g2.fut.trans F3),R3.wd,sh.up (g2.fut.trans F3),hrest,hall⟩
        | true =>
         refine zmA ⟨w0.base,w3,ρ1,S3,rfl,R3,?_⟩;dsimp only at hrest
         cases he:fe ρ1 S3 with
         | bad=>rw [he] at hrest;cases hrest
         | exc _ _=>rw [he] at hrest;cases hrest
         | ok yv S4 =>
          rw [he] at hrest;dsimp only at hrest
          cases hr:za6 t fc fe (zbo n (caps.map (·.2)) ρ) (ds.drop (i+1)) S4 with
          | bad=>rw [hr] at hrest;cases hrest
          | exc _ _=>rw [hr] at hrest;cases hrest
          | ok zs S5 =>
           rw [hr] at hrest;cases hrest;intro v w4 R4 F4 h4;have ff:=g2.fut.trans (F3.trans F4);exact ⟨ds.length-(i+1),by omega,rfl,hlt,hk1.trans hl1,hk2.trans hd1,w4,S4,es++[yv],zs,rfl,F1.trans ff,R4.wd,(sh.up ff).append (.cons h4 .nil),hr,by rw [<-hall,ybg];rfl⟩
    ·have e:i=ds.length:=by omega
     subst e;rw [List.drop_length] at hrest;cases hrest;rw [ybj] at hall;subst hall;refine .inl ⟨hJ.stop w1 F1',fun p hp=>?_⟩;obtain ⟨Rb,Fb⟩:=R0.leave W1 F1;exact q p (.lst ys) (w0.back w1) Rb (F0.trans Fb) hp (.lst (sh.up (zdD W1)))
end
noncomputable def zaK(k:Str):List (D×D)->Option D
 | (.str x,d)::r=>if x=k then some d else zaK k r
 | _=>none
noncomputable def putS(k:Str)(y:D):List (D×D)->List (D×D)
 | (.str x,d)::r=>if x=k then (.str x,y)::r else (.str x,d)::putS k y r
 | _=>[(.str k,y)]
def zaz:List (D×D)->Bool
 | (.str x,_)::r=>(zaK x r).isNone&&zaz r
 | []=>true
 | _=>false
noncomputable def zeZ:List (D×D)->List Str
 | (.str x,_)::r=>x::zeZ r
 | _=>[]
section
variable{cl:Cf}{w:Wd}
theorem zcD(k:Str):∀{kvs:List (Key×V)} {ds:List (D×D)},ShdK cl w kvs ds->zaz ds=true->(zgm kvs (.inr k)=none/\zaK k ds=none)\/∃v d,zgm kvs (.inr k)=some v/\zaK k ds=some d/\Shd cl w v d
 | _,_,.nil,_=>.inl ⟨rfl,rfl⟩
 | _,_,.consI r t,h=>by cases h
 | _,_,.consS (x:=x) (v:=v) (d:=d) r t,h=>by
  unfold zaz at h;rw [yab] at h;unfold zaK
  by_cases e:x=k
  ·subst e;rw [if_pos rfl,zcL rfl];exact .inr ⟨v,d,rfl,rfl,r⟩
  ·rw [if_neg e,zcM (fun z=>e (by cases z;rfl))];exact zcD k t h.2
theorem ShdK.snocS{k:Str}{v:V}{d:D}(h:Shd cl w v d):∀{kvs:List (Key×V)} {ds:List (D×D)},ShdK cl w kvs ds->zaz ds=true->zaK k ds=none->ShdK cl w (kvs++[(.inr k,v)]) (putS k d ds)
 | _,_,.nil,_,_=>.consS h .nil
 | _,_,.consI r t,ho,_=>by cases ho
 | _,_,.consS (x:=x) r t,ho,hl=>by
  unfold zaz at ho;rw [yab] at ho;unfold zaK at hl
  by_cases e:x=k
  ·rw [if_pos e] at hl;cases hl
  ·rw [if_neg e] at hl;unfold putS;rw [if_neg e];exact .consS r (ShdK.snocS h t ho.2 hl)
theorem zhu{k:Key}{y:V}:∀{kvs:List (Key×V)},zgm kvs k=none->(kvs.map fun kv=>if kv.1=k then (kv.1,y) else kv)=kvs
 | [],_=>rfl
 | p::r,h=>by
  by_cases e:p.1=k
  ·rw [zcL e] at h;cases h
  ·rw [zcM e] at h;rw [yas,if_neg e,zhu h]
theorem ShdK.replS{k:Str}{v:V}{d:D}(h:Shd cl w v d):∀{kvs:List (Key×V)} {ds:List (D×D)},ShdK cl w kvs ds->zaz ds=true->(zaK k ds).isSome=true->ShdK cl w (kvs.map fun kv=>if kv.1=.inr k then (kv.1,v) else kv) (putS k d ds)
 | _,_,.nil,_,hl=>by cases hl
 | _,_,.consI r t,ho,_=>by cases ho
 | _,_,.consS (x:=x) (vs:=vs) r t,ho,hl=>by
  unfold zaz at ho;rw [yab] at ho;unfold zaK at hl;unfold putS
  by_cases e:x=k
  ·subst e;rw [if_pos rfl,yas,if_pos rfl]
   have hn:zgm vs (.inr x)=none:=(zcD x t ho.2).elim (·.1) fun ⟨_,_,_,z,_⟩=>by rw [z] at ho;exact absurd ho.1 (by simp)
   rw [zhu hn];exact .consS h t
  ·rw [if_neg e] at hl;rw [if_neg e,yas,if_neg (fun z=>e (by cases z;rfl))];exact .consS r (ShdK.replS h t ho.2 hl)
theorem ShdK.putS{k:Str}{v:V}{d:D}{kvs:List (Key×V)}{ds:List (D×D)}(t:ShdK cl w kvs ds)(ho:zaz ds=true)(h:Shd cl w v d):ShdK cl w (zdR kvs (.inr k) v) (putS k d ds):=by
 rcases zcD k t ho with ⟨h1,h2⟩ | ⟨v',d',h1,h2,_⟩
 ·rw [zk5 v h1];exact t.snocS h ho h2
 ·unfold zdR;rw [if_pos (by rw [zdA,h1];rfl)];exact t.replS h ho (by rw [h2];rfl)
def TopV.dicI{v:V}{ds:List (D×D)}(h:TopV cl w v (.dic ds)):∃a kvs,v=.ref a/\Rd w.H a (.dK kvs)/\ShdK cl w kvs ds:=by
 cases h with
 | sh h=>cases h with | dicK e k r=>exact ⟨_,_,rfl,.inr ⟨_,e⟩,r⟩
 | ow e t=>cases t with | dicK r=>exact ⟨_,_,rfl,.inl e,r⟩
theorem ShdK.length:∀{kvs:List (Key×V)} {ds:List (D×D)},ShdK cl w kvs ds->kvs.length=ds.length
 | _,_,.nil=>rfl
 | _,_,.consI r t=>by rw [yan,yan,ShdK.length t]
 | _,_,.consS r t=>by rw [yan,yan,ShdK.length t]
theorem zeY:∀{kvs:List (Key×V)} {ds:List (D×D)},ShdK cl w kvs ds->zaz ds=true->kvs.map (·.1)=(zeZ ds).map Sum.inr/\(zeZ ds).length=ds.length
 | _,_,.nil,_=>⟨rfl,rfl⟩
 | _,_,.consI r t,h=>by cases h
 | _,_,.consS r t,h=>by
  unfold zaz at h;rw [yab] at h;obtain ⟨h1,h2⟩:=zeY t h.2;exact ⟨by rw [yas,h1];rfl,by show _+1=_+1;rw [h2]⟩
end
end S2
namespace ST
open PySem PySem.SetTable
noncomputable def stp(mask:Nat)(p:Probe):Probe :=
 if p.more > 0 then { p with j:=p.j+1,more:=p.more-1 } else
 { p with j:=(leap mask p.i p.perturb).1,more:=runEnd mask (leap mask p.i p.perturb).1-(leap mask p.i p.perturb).1,i:=(leap mask p.i p.perturb).1,perturb:=(leap mask p.i p.perturb).2 }
def zez(t:SetTable)(p:Probe):t.advance p=stp t.mask p:=rfl
def itr(mask:Nat):Nat->Probe->Probe
 | 0,p=>p
 | n+1,p=>itr mask n (stp mask p)
theorem zdZ(mask:Nat):∀(a b:Nat) (p:Probe),itr mask (a+b) p=itr mask b (itr mask a p)
 | 0,b,p=>by rw [Nat.zero_add];rfl
 | a+1,b,p=>by
  rw [show a+1+b=(a+b)+1 by omega];exact zdZ mask a b (stp mask p)
def zhB(mask n:Nat)(p:Probe):itr mask (n+1) p=stp mask (itr mask n p):=zdZ mask n 1 p
noncomputable def zea(mask i pert:Nat):Probe:={ j:=i,more:=runEnd mask i-i,i:=i,perturb:=pert,dummy:=none }
def zkN(t:SetTable)(h:Int):t.probeStart h=zea t.mask (bits h % (t.mask+1)) (bits h):=rfl
theorem zgO(mask:Nat):∀(k:Nat) (p:Probe),k<=p.more->itr mask k p={ p with j:=p.j+k,more:=p.more-k }
 | 0,p,_=>rfl
 | k+1,p,h=>by
  have hp:p.more > 0:=by omega
  show itr mask k (stp mask p)=_
  have e:stp mask p={ p with j:=p.j+1,more:=p.more-1 }:=by unfold stp;rw [if_pos hp]
  rw [e,zgO mask k _ (by show k<=p.more-1;omega)];show ({ p with j:=p.j+1+k,more:=p.more-1-k }:Probe)=_;rw [show p.j+1+k=p.j+(k+1) by omega,show p.more-1-k=p.more-(k+1) by omega]
theorem zpX(mask i:Nat):runEnd mask i-i<=9:=by unfold runEnd;split<;>omega
def zpY{mask i:Nat}(h:i<=mask):runEnd mask i<=mask:=by unfold runEnd;split<;>omega
theorem zk1(mask i:Nat):i<=runEnd mask i:=by unfold runEnd;split<;>omega
theorem ze5(mask i pert:Nat):itr mask (runEnd mask i-i+1) (zea mask i pert)=zea mask (leap mask i pert).1 (leap mask i pert).2:=by
 rw [zhB,zgO mask (runEnd mask i-i) (zea mask i pert) (yak _)];unfold stp;rw [if_neg (by show ¬ (runEnd mask i-i-(runEnd mask i-i) > 0);omega)];rfl
def zgD(mask i pert k:Nat)(h:k<=runEnd mask i-i):(itr mask k (zea mask i pert)).j=i+k:=by
 rw [zgO mask _ _ h];rfl
noncomputable def rn(mask:Nat):Nat->Nat×Nat->Nat×Nat
 | 0,x=>x
 | r+1,x=>rn mask r (leap mask x.1 x.2)
theorem zmr(mask:Nat):∀(a b:Nat) (x:Nat×Nat),rn mask (a+b) x=rn mask b (rn mask a x)
 | 0,b,x=>by rw [Nat.zero_add];rfl
 | a+1,b,x=>by
  rw [show a+1+b=(a+b)+1 by omega];exact zmr mask a b _
theorem zp1(mask:Nat):∀(r i pert:Nat),∃s,s<=10*r/\itr mask s (zea mask i pert)=zea mask (rn mask r (i,pert)).1 (rn mask r (i,pert)).2
 | 0,i,pert=>⟨0,yak _,rfl⟩
 | r+1,i,pert=>by
  obtain ⟨s,hs,e⟩:=zp1 mask r (leap mask i pert).1 (leap mask i pert).2;refine ⟨(runEnd mask i-i+1)+s,by have:=zpX mask i;omega,?_⟩;rw [zdZ,ze5,e];rfl
theorem zi7(mask:Nat):∀(r i pert:Nat),(rn mask r (i,pert)).2=pert / 32 ^ r
 | 0,i,pert=>by show pert=_;simp
 | r+1,i,pert=>by
  show (rn mask r ((leap mask i pert).1,pert / 32)).2=_;rw [zi7 mask r,Nat.div_div_eq_div_mul,Nat.pow_succ,Nat.mul_comm]
theorem zpZ(mask:Nat):∀(r i pert:Nat),i<=mask->(rn mask r (i,pert)).1<=mask
 | 0,i,pert,h=>h
 | r+1,i,pert,_=>zpZ mask r _ _ (by
   show (i*5+1+pert / 32) % (mask+1)<=mask;have:=Nat.mod_lt (i*5+1+pert / 32) (show 0<mask+1 by omega)
   omega)
noncomputable def lcg(mask:Nat):Nat->Nat->Nat
 | 0,i=>i
 | r+1,i=>lcg mask r ((i*5+1) % (mask+1))
theorem zmq(mask:Nat):∀(r i:Nat),(rn mask r (i,0)).1=lcg mask r i
 | 0,i=>rfl
 | r+1,i=>by
  show (rn mask r ((i*5+1+0 / 32) % (mask+1),0 / 32)).1=lcg mask r ((i*5+1) % (mask+1));rw [show (0 / 32:Nat)=0 from rfl,Nat.add_zero];exact zmq mask r _
theorem ztz:∀i,i<8->∀j,j<8->∃k,k<8/\lcg 7 k i=j:=by decide +kernel
theorem zre:∀i,i<32->∀j,j<32->∃k,k<32/\lcg 31 k i=j:=by decide +kernel
noncomputable def zfj(mask:Nat):Prop:=mask=7\/mask=31
theorem zcd{mask:Nat}(hm:zfj mask){i j:Nat}(hi:i<=mask)(hj:j<=mask):∃k,k<=mask/\lcg mask k i=j:=by
 rcases hm with rfl | rfl
 ·obtain ⟨k,h1,h2⟩:=ztz i (by omega) j (by omega);exact ⟨k,by omega,h2⟩
 ·obtain ⟨k,h1,h2⟩:=zre i (by omega) j (by omega);exact ⟨k,by omega,h2⟩
theorem zrq{mask:Nat}(hm:zfj mask){i pert j:Nat}(hi:i<=mask)(hp:pert<2 ^ 64)(hj:j<=mask):∃r,r<=13+mask/\(rn mask r (i,pert)).1=j:=by
 have h13:(rn mask 13 (i,pert)).2=0:=by rw [zi7];exact Nat.div_eq_of_lt (yal hp (by decide))
 obtain ⟨k,hk,e⟩:=zcd hm (zpZ mask 13 i pert hi) hj;refine ⟨13+k,by omega,?_⟩;rw [zmr,show rn mask 13 (i,pert)=((rn mask 13 (i,pert)).1,0) from Prod.ext rfl h13,zmq];exact e
theorem zkv(h:Int):bits h<2 ^ 64:=by
 unfold bits;have h1:=ybA h (show (2 ^ 64:Int)≠0 by decide);have h2:=ybl h (show (0:Int)<2 ^ 64 by decide);omega
def st(mask:Nat)(h:Int)(n:Nat):Probe:=itr mask n (zea mask (bits h % (mask+1)) (bits h))
def pos(mask:Nat)(h:Int)(n:Nat):Nat:=(st mask h n).j
def zgs(mask:Nat)(h:Int)(n:Nat):st mask h (n+1)=stp mask (st mask h n):=zhB ..
def ziO(mask:Nat)(p:Probe):(stp mask p).dummy=p.dummy:=by unfold stp;split<;>rfl
theorem zhd(mask:Nat)(h:Int):∀n,(st mask h n).dummy=none
 | 0=>rfl
 | n+1=>by rw [zgs,ziO,zhd mask h n]
theorem zdB(mask:Nat)(h:Int):bits h % (mask+1)<=mask:=by have:=Nat.mod_lt (bits h) (show 0<mask+1 by omega);omega
theorem ztA{mask:Nat}(hm:zfj mask)(h:Int){j:Nat}(hj:j<=mask):∃n,n<10*turns mask/\pos mask h n=j:=by
 obtain ⟨r,hr,e⟩:=zrq hm (zdB mask h) (zkv h) hj;obtain ⟨s,hs,q⟩:=zp1 mask r (bits h % (mask+1)) (bits h);refine ⟨s,by unfold turns;omega,?_⟩;show (itr mask s _).j=j;rw [q,e];rfl
theorem zik{mask:Nat}(hm:zfj mask)(h:Int)(ps:List Nat)(hf:∃j,j<=mask/\j ∉ ps):∃M,M<10*turns mask/\pos mask h M ∉ ps/\∀q,q<M->pos mask h q∈ps:=by
 obtain ⟨j,hj,hn⟩:=hf;obtain ⟨n,hlt,e⟩:=ztA hm h hj
 have:∀n,pos mask h n ∉ ps->∃M,M<=n/\pos mask h M ∉ ps/\∀q,q<M->pos mask h q∈ps:=by
  intro n
  induction n using Nat.strongRecOn with
  | _ n ih =>
   intro hn
   by_cases hc:∃q,q<n/\pos mask h q ∉ ps
   ·obtain ⟨q,hq,hq2⟩:=hc;obtain ⟨M,h1,h2⟩:=ih q hq hq2;exact ⟨M,by omega,h2⟩
   ·exact ⟨n,yak _,hn,fun q hq=>Classical.byContradiction fun z=>hc ⟨q,hq,z⟩⟩
 obtain ⟨M,h1,h2⟩:=this n (by rw [e];exact hn);exact ⟨M,by omega,h2⟩
theorem room{mask:Nat}{ps:List Nat}(h:ps.length<=mask):∃j,j<=mask/\j ∉ ps:=by
 refine Classical.byContradiction fun hn=>?_
 have all:∀j,j∈List.range (mask+1)->j∈ps:=fun j hj=>Classical.byContradiction fun z=>hn ⟨j,by have:=ybv.mp hj;omega,z⟩
 have:=List.Nodup.length_le_of_subset (List.nodup_range (n:=mask+1)) all;rw [ybP] at this;omega
theorem zqd{mask:Nat}(h:Int):∀n,pos mask h n<=mask:=by
 have key:∀n (p:Probe),p.i<=mask->p.j+p.more=runEnd mask p.i->(itr mask n p).i<=mask/\(itr mask n p).j+(itr mask n p).more=runEnd mask (itr mask n p).i:=by
  intro n
  induction n with
  | zero=>intro p h1 h2;exact ⟨h1,h2⟩
  | succ n ih =>
   intro p h1 h2;show (itr mask n (stp mask p)).i<=mask/\_;refine ih _ ?_ ?_
   ·unfold stp;split
    ·exact h1
    ·show (p.i*5+1+p.perturb / 32) % (mask+1)<=mask;have:=Nat.mod_lt (p.i*5+1+p.perturb / 32) (show 0<mask+1 by omega);omega
   ·unfold stp;split
    ·show p.j+1+(p.more-1)=runEnd mask p.i;omega
    ·show (leap mask p.i p.perturb).1+(runEnd mask (leap mask p.i p.perturb).1-(leap mask p.i p.perturb).1)=runEnd mask (leap mask p.i p.perturb).1;have:=zk1 mask (leap mask p.i p.perturb).1;omega
 intro n
 obtain ⟨h1,h2⟩:=key n (zea mask (bits h % (mask+1)) (bits h)) (zdB mask h) (by
  show bits h % (mask+1)+(runEnd mask (bits h % (mask+1))-bits h % (mask+1))=runEnd mask (bits h % (mask+1))
  have:=zk1 mask (bits h % (mask+1));omega)
 have:=zpY (mask:=mask) h1;show (itr mask n _).j<=mask;omega
noncomputable def Cut(ps:List Nat)(j c:Nat):Prop:=c<=ps.length/\(∀k x,k<c->ps[k]?=some x->x<j)/\∀k x,c<=k->ps[k]?=some x->j<=x
theorem zkd:∀(ps:List Nat) (j:Nat),ps.Pairwise (· < ·)->∃c,Cut ps j c
 | [],j,_=>⟨0,yak _,fun k x h _=>by omega,fun k x _ e=>by simp at e⟩
 | a::ps,j,h=>by
  obtain ⟨ha,hp⟩:=ybm.mp h
  by_cases hj:a<j
  ·obtain ⟨c,h1,h2,h3⟩:=zkd ps j hp;refine ⟨c+1,Nat.succ_le_succ h1,fun k x hk e=>?_,fun k x hk e=>?_⟩
   ·cases k with
    | zero=>simp at e;omega
    | succ k=>exact h2 k x (by omega) (by simpa using e)
   ·cases k with
    | zero=>omega
    | succ k=>exact h3 k x (by omega) (by simpa using e)
  ·refine ⟨0,yaP _,fun k x hk _=>by omega,fun k x _ e=>?_⟩
   cases k with
   | zero=>simp at e;omega
   | succ k =>
    have:=ha x (yaT (by simpa using e));omega
theorem zjW(hc:Cut xs.toList j c):∀(fuel lo hi:Nat),lo<=c->c<=hi->hi<=xs.size->hi-lo<=fuel->below.go xs j fuel lo hi=c
 | 0,lo,hi,h1,h2,h3,h4=>by unfold below.go;omega
 | fuel+1,lo,hi,h1,h2,h3,h4=>by
  unfold below.go
  by_cases hlt:lo<hi
  ·rw [if_pos hlt]
   have hm:(lo+hi) / 2<xs.size:=by omega
   have e:xs.toList[(lo+hi) / 2]?=some xs[(lo+hi) / 2]:=by rw [yaZ];exact yaB hm
   have eD:xs.getD ((lo+hi) / 2) j=xs[(lo+hi) / 2]:=by simp [Array.getD,hm]
   show (if xs.getD ((lo+hi) / 2) j<j then below.go xs j fuel ((lo+hi) / 2+1) hi else below.go xs j fuel lo ((lo+hi) / 2))=c;rw [eD]
   by_cases hx:xs[(lo+hi) / 2]<j
   ·rw [if_pos hx];refine zjW hc fuel _ _ ?_ h2 h3 (by omega);refine Classical.byContradiction fun z=>?_
    have:=hc.2.2 ((lo+hi) / 2) _ (by omega) e;omega
   ·rw [if_neg hx];refine zjW hc fuel _ _ h1 ?_ (by omega) (by omega);refine Classical.byContradiction fun z=>?_
    have:=hc.2.1 ((lo+hi) / 2) _ (by omega) e;omega
  ·rw [if_neg hlt];omega
theorem zd9(hc:Cut xs.toList j c):below xs j=c:=by
 unfold below;exact zjW hc _ _ _ (yaP _) (by have:=hc.1;simpa using this) (yak _) (by omega)
def zfD{ps:List Nat}(h:ps.Pairwise (· < ·)){a b x y:Nat}(ha:ps[a]?=some x)(hb:ps[b]?=some y)(hl:a<b):x<y:=by
 obtain ⟨h1,e1⟩:=yam.mp ha;obtain ⟨h2,e2⟩:=yam.mp hb;have:=List.pairwise_iff_getElem.mp h a b h1 h2 hl;rwa [e1,e2] at this
def zcf{t:SetTable}(hs:t.place.toList.Pairwise (· < ·)){i j:Nat}(h:t.place.toList[i]?=some j):t.slot j=.live i:=by
 have hc:Cut t.place.toList j i:=by
  refine ⟨ybI (yam.mp h).1,fun k x hk e=>zfD hs e h hk,fun k x hk e=>?_⟩
  rcases ycH hk with z | z
  ·exact ybI (zfD hs h e z)
  ·subst z;rw [h] at e;cases e;exact yak _
 unfold slot;rw [zd9 hc]
 have e:t.place[i]?=some j:=by rw [<-yaZ];exact h
 show (if (t.place[i]? == some j)=true then Slot.live i else _)=_;rw [e,if_pos (by simp)]
def ziS{t:SetTable}(hs:t.place.toList.Pairwise (· < ·))(hd:t.dummies=#[])(h:j ∉ t.place.toList):t.slot j=.empty:=by
 obtain ⟨c,hc⟩:=zkd t.place.toList j hs;unfold slot;rw [zd9 hc]
 have e:(t.place[c]? == some j)=false:=by
  rw [<-yaZ]
  cases q:t.place.toList[c]? with
  | none=>rfl
  | some x =>
   have:x≠j:=fun z=>h (z ▸ yaT q)
   simpa using this
 show (if (t.place[c]? == some j)=true then Slot.live c else if has t.dummies j=true then .dummy else .empty)=.empty;rw [e,if_neg (by simp),hd]
 have:has #[] j=false:=by unfold has below;rfl
 rw [this,if_neg (by simp)]
noncomputable def Hit(t:SetTable)(hashAt:Nat->Int)(h:Int)(q i:Nat):Prop:=t.place.toList[i]?=some (pos t.mask h q)/\hashAt i=h
theorem zho{t:SetTable}(hs:t.place.toList.Pairwise (· < ·))(hd:t.dummies=#[])(hashAt:Nat->Int)(h:Int){M:Nat}(hM:pos t.mask h M ∉ t.place.toList)(hb:∀q,q<M->pos t.mask h q∈t.place.toList) :
  ∀(fuel m:Nat),m<=M->M-m<fuel →
   (∃q i,m<=q/\q<M/\Hit t hashAt h q i/\(∀q' i',m<=q'->q'<q->¬ Hit t hashAt h q' i')/\probe.go t hashAt h fuel (st t.mask h m)=some (.candidate (pos t.mask h q) i (st t.mask h (q+1)))) ∨
   ((∀q i,m<=q->q<M->¬ Hit t hashAt h q i)/\probe.go t hashAt h fuel (st t.mask h m)=some (.empty (pos t.mask h M) none))
 | 0,m,h1,h2=>by omega
 | fuel+1,m,h1,h2=>by
  by_cases hm:m=M
  ·subst hm;refine .inr ⟨fun q i a b=>by omega,?_⟩;unfold probe.go;rw [show (st t.mask h m).j=pos t.mask h m from rfl,ziS hs hd hM];show some (Met.empty (pos t.mask h m) (st t.mask h m).dummy)=_;rw [zhd]
  ·obtain ⟨i,hi⟩:=ybU (hb m (by omega));have hsl:=zcf hs hi
   by_cases hh:hashAt i=h
   ·refine .inl ⟨m,i,yak _,by omega,⟨hi,hh⟩,fun q' i' a b=>by omega,?_⟩;unfold probe.go;rw [show (st t.mask h m).j=pos t.mask h m from rfl,hsl];show (if (hashAt i == h)=true then _ else _)=_;rw [if_pos (by simpa using hh),zez,<-zgs]
   ·have nh:∀i',¬ Hit t hashAt h m i':=fun i' z=>by
     have:=zcf hs z.1;rw [hsl] at this;cases this;exact hh z.2
    have eg:probe.go t hashAt h (fuel+1) (st t.mask h m)=probe.go t hashAt h fuel (st t.mask h (m+1)):=by
     conv=>lhs;unfold probe.go
     rw [show (st t.mask h m).j=pos t.mask h m from rfl,hsl];show (if (hashAt i == h)=true then _ else _)=_;rw [if_neg (by simpa using hh),zez,<-zgs]
    rcases zho hs hd hashAt h hM hb fuel (m+1) (by omega) (by omega) with ⟨q,i',a,b,c,d,e⟩ | ⟨d,e⟩
    ·refine .inl ⟨q,i',by omega,b,c,fun q' i'' x y=>?_,by rw [eg];exact e⟩
     by_cases z:q'=m
     ·subst z;exact nh i''
     ·exact d q' i'' (by omega) y
    ·refine .inr ⟨fun q i'' x y=>?_,by rw [eg];exact e⟩
     by_cases z:q=m
     ·subst z;exact nh i''
     ·exact d q i'' (by omega) y
theorem zla{t:SetTable}(hs:t.place.toList.Pairwise (· < ·))(hd:t.dummies=#[])(hashAt:Nat->Int)(h:Int){M:Nat}(hM:pos t.mask h M ∉ t.place.toList)(hb:∀q,q<M->pos t.mask h q∈t.place.toList)(hl:M<10*turns t.mask){m:Nat}(hm:m<=M) :
   (∃q i,m<=q/\q<M/\Hit t hashAt h q i/\(∀q' i',m<=q'->q'<q->¬ Hit t hashAt h q' i')/\t.probe hashAt h (st t.mask h m)=some (.candidate (pos t.mask h q) i (st t.mask h (q+1)))) ∨
   ((∀q i,m<=q->q<M->¬ Hit t hashAt h q i)/\t.probe hashAt h (st t.mask h m)=some (.empty (pos t.mask h M) none)) :=
 zho hs hd hashAt h hM hb _ _ hm (by omega)
structure Tab{α:Type}(t:SetTable)(es:Array (Int×α)):Prop where
 small:zfj t.mask
 dum:t.dummies=#[]
 len:t.place.size=es.size
 srt:t.place.toList.Pairwise (· < ·)
 le:∀j∈t.place.toList,j<=t.mask
 room:es.size*5<t.mask*3
 path:∀p∈t.place.toList.zip es.toList,∃n,pos t.mask p.2.1 n=p.1/\∀q,q<n->pos t.mask p.2.1 q∈t.place.toList
theorem ziB{α β:Type}:∀(xs:List α) (ys:List β) (c:Nat) (x:α) (y:β),xs.length=ys.length->(xs.take c++x::xs.drop c).zip (ys.take c++y::ys.drop c)=(xs.zip ys).take c++(x,y)::(xs.zip ys).drop c
 | xs,ys,0,x,y,h=>by simp
 | [],[],c+1,x,y,h=>by simp
 | a::xs,b::ys,c+1,x,y,h=>by
  have:=ziB xs ys c x y (by simpa using h);simp [this]
def zeV{α:Type}(xs:List α)(c:Nat)(x y:α):y∈xs.take c++x::xs.drop c↔y=x\/y∈xs:=by
 have e:y∈xs↔y∈xs.take c++xs.drop c:=by rw [ycl]
 rw [e];simp only [yaR,yao];constructor
 ·rintro (h | h | h)
  ·exact .inr (.inl h)
  ·exact .inl h
  ·exact .inr (.inr h)
 ·rintro (h | h | h)
  ·exact .inr (.inl h)
  ·exact .inl h
  ·exact .inr (.inr h)
def zc9{α:Type}(xs:Array α)(p:Nat)(x:α):(insertAt xs p x).toList=xs.toList.take p++x::xs.toList.drop p:=by
 simp [insertAt,List.extract_eq_take_drop,yce]
theorem ze8{α:Type}(xs:Array α)(p:Nat)(x:α):(insertAt xs p x).size=xs.size+1:=by
 have:(insertAt xs p x).toList.length=xs.toList.length+1:=by
  rw [zc9];simp only [yar,yan,ybd,yco];omega
 simpa using this
def zp6{t:SetTable}(hd:t.dummies=#[])(j:Nat):t.put j=({ t with place:=insertAt t.place (below t.place j) j },below t.place j):=by
 unfold put
 have:has t.dummies j=false:=by rw [hd];unfold has below;rfl
 rw [this];simp
theorem znj(hs:ps.Pairwise (· < ·))(hc:Cut ps j c)(hj:j ∉ ps):(ps.take c++j::ps.drop c).Pairwise (· < ·):=by
 rw [List.pairwise_append,ybm]
 have e:(ps.take c++ps.drop c).Pairwise (· < ·):=by rw [ycl];exact hs
 rw [List.pairwise_append] at e
 have lo:∀x∈ps.take c,x<j:=fun x hx=>by
  obtain ⟨k,hk⟩:=ybU hx;rw [List.getElem?_take] at hk;split at hk
  ·exact hc.2.1 k x (by assumption) hk
  ·cases hk
 have hi:∀x∈ps.drop c,j<x:=fun x hx=>by
  obtain ⟨k,hk⟩:=ybU hx;rw [ybH] at hk;have h1:=hc.2.2 (c+k) x (by omega) hk;have h2:x≠j:=fun z=>hj (z ▸ yaT hk)
  omega
 refine ⟨e.1,⟨hi,e.2.1⟩,fun x hx y hy=>?_⟩
 rcases yao.mp hy with rfl | hy
 ·exact lo x hx
 ·have:=lo x hx;have:=hi y hy;omega
def Tab.put{α:Type}{t:SetTable}{es:Array (Int×α)}(T:Tab t es){h:Int}{x:α}{M:Nat}(hM:pos t.mask h M ∉ t.place.toList)(hb:∀q,q<M->pos t.mask h q∈t.place.toList){pl:Bool} :
  let j:=pos t.mask h M
  let t':SetTable:={ t with place:=insertAt t.place (below t.place j) j,plain:=pl }
  let es':=insertAt es (below t.place j) (h,x)
  t'.place.size=es'.size/\t'.place.toList.Pairwise (· < ·)/\(∀k∈t'.place.toList,k<=t'.mask) ∧
   (∀p∈t'.place.toList.zip es'.toList,∃n,pos t'.mask p.2.1 n=p.1/\∀q,q<n->pos t'.mask p.2.1 q∈t'.place.toList)/\(∀e,e∈es'.toList↔e=(h,x)\/e∈es.toList)/\es'.size=es.size+1:=by
 intro j t' es';obtain ⟨c,hc⟩:=zkd t.place.toList j T.srt;have eb:below t.place j=c:=zd9 hc
 have e1:t'.place.toList=t.place.toList.take c++j::t.place.toList.drop c:=by
  show (insertAt t.place (below t.place j) j).toList=_;rw [eb];exact zc9 ..
 have e2:es'.toList=es.toList.take c++(h,x)::es.toList.drop c:=by
  show (insertAt es (below t.place j) (h,x)).toList=_;rw [eb];exact zc9 ..
 have hlen:t.place.toList.length=es.toList.length:=by simpa using T.len
 have up:∀k,k∈t.place.toList->k∈t'.place.toList:=fun k hk=>by rw [e1];exact (zeV ..).mpr (.inr hk)
 refine ⟨?_,?_,fun k hk=>?_,fun p hp=>?_,fun e=>?_,?_⟩
 ·show (insertAt t.place _ j).size=(insertAt es _ _).size;rw [ze8,ze8,T.len]
 ·rw [e1];exact znj T.srt hc hM
 ·rw [e1] at hk
  rcases (zeV ..).mp hk with rfl | hk
  ·exact zqd h M
  ·exact T.le k hk
 ·rw [e1,e2,ziB _ _ _ _ _ hlen] at hp
  rcases (zeV ..).mp hp with rfl | hp
  ·exact ⟨M,rfl,fun q hq=>up _ (hb q hq)⟩
  ·obtain ⟨n,h1,h2⟩:=T.path p hp;exact ⟨n,h1,fun q hq=>up _ (h2 q hq)⟩
 ·rw [e2];exact zeV ..
 ·exact ze8 ..
noncomputable def Occ(owner:Array (Option Nat))(j:Nat):Prop:=∃i,owner[j]?=some (some i)
def getD_none{owner:Array (Option Nat)}{x:Nat}(h:(owner.getD x (some 0)).isNone=true):owner[x]?=some none:=by
 by_cases hx:x<owner.size
 ·have e:owner.getD x (some 0)=owner[x]:=by simp [Array.getD,hx]
  rw [e] at h;rw [yaB hx]
  cases q:owner[x] with
  | none=>rfl
  | some y=>rw [q] at h;cases h
 ·have e:owner.getD x (some 0)=some 0:=by simp [Array.getD,hx]
  rw [e] at h;cases h
def zhG{owner:Array (Option Nat)}{x:Nat}(hx:x<owner.size)(h:¬ (owner.getD x (some 0)).isNone=true):Occ owner x:=by
 have e:owner.getD x (some 0)=owner[x]:=by simp [Array.getD,hx]
 rw [e] at h
 cases q:owner[x] with
 | none=>rw [q] at h;exact absurd rfl h
 | some y=>exact ⟨y,by rw [yaB hx,q]⟩
def zjY{owner:Array (Option Nat)}{x:Nat}(h:owner[x]?=some none):(owner.getD x (some 0)).isNone=true:=by
 obtain ⟨hx,e⟩:=yaQ.mp h
 have e':owner.getD x (some 0)=owner[x]:=by simp [Array.getD,hx]
 rw [e',e];rfl
theorem zfY{mask:Nat}{owner:Array (Option Nat)}(hz:owner.size=mask+1):∀(fuel i pert j:Nat),i<=mask->layClean.free mask owner fuel i pert=some j →
  owner[j]?=some none/\∃n,(itr mask n (zea mask i pert)).j=j/\∀q,q<n->Occ owner (itr mask q (zea mask i pert)).j
 | 0,i,pert,j,hi,h=>by unfold layClean.free at h;cases h
 | fuel+1,i,pert,j,hi,h=>by
  unfold layClean.free at h;have hin:=zpY hi;have hge:=zk1 mask i
  cases e:(List.range (runEnd mask i+1-i)).find? fun k=>(owner.getD (i+k) (some 0)).isNone with
  | some k =>
   rw [e] at h
   have hj:j=i+k:=by simpa using h.symm
   obtain ⟨h1,h2,h3⟩:=List.find?_range_eq_some.mp e
   have hk:k<runEnd mask i+1-i:=by simpa using h2
   subst hj;refine ⟨getD_none h1,k,zgD mask i pert k (by omega),fun q hq=>?_⟩;rw [zgD mask i pert q (by omega)];refine zhG (by omega) ?_;have:=h3 q hq;intro z;rw [z] at this;cases this
  | none =>
   rw [e] at h;have hall:=List.find?_range_eq_none.mp e;have h':layClean.free mask owner fuel (leap mask i pert).1 (leap mask i pert).2=some j:=h
   obtain ⟨h1,n,h2,h3⟩:=zfY hz fuel _ _ j (by
    show (i*5+1+pert / 32) % (mask+1)<=mask;have:=Nat.mod_lt (i*5+1+pert / 32) (show 0<mask+1 by omega)
    omega) h'
   refine ⟨h1,(runEnd mask i-i+1)+n,by rw [zdZ,ze5];exact h2,fun q hq=>?_⟩
   by_cases hq':q<runEnd mask i-i+1
   ·rw [zgD mask i pert q (by omega)];refine zhG (by omega) ?_;have:=hall q (by omega);intro z;rw [z] at this;cases this
   ·have e2:q=(runEnd mask i-i+1)+(q-(runEnd mask i-i+1)):=by omega
    rw [e2,zdZ,ze5];exact h3 _ (by omega)
theorem zfZ{mask:Nat}{owner:Array (Option Nat)}:∀(fuel i pert:Nat),(∃r,r<fuel/\owner[(rn mask r (i,pert)).1]?=some none)->∃j,layClean.free mask owner fuel i pert=some j
 | 0,i,pert,h=>by obtain ⟨r,hr,_⟩:=h;omega
 | fuel+1,i,pert,h=>by
  unfold layClean.free
  cases e:(List.range (runEnd mask i+1-i)).find? fun k=>(owner.getD (i+k) (some 0)).isNone with
  | some k=>exact ⟨i+k,rfl⟩
  | none =>
   have hall:=List.find?_range_eq_none.mp e;obtain ⟨r,hr,hn⟩:=h
   cases r with
   | zero =>
    have:=hall 0 (by have:=zk1 mask i;omega);have hn':(owner.getD i (some 0)).isNone=true:=zjY hn;rw [Nat.add_zero,hn'] at this;cases this
   | succ r=>exact zfZ fuel (leap mask i pert).1 (leap mask i pert).2 ⟨r,by omega,hn⟩
structure LC(mask:Nat)(hs:List Int)(owner:Array (Option Nat)):Prop where
 size:owner.size=mask+1
 own:∀(j i:Nat),owner[j]?=some (some i)->∃h,hs[i]?=some h/\∃n,pos mask h n=j/\∀q,q<n->Occ owner (pos mask h q)
 all:∀i,i<hs.length->∃j:Nat,owner[j]?=some (some i)
 many:(owner.toList.filterMap id).length=hs.length
theorem zhv:∀(l:List (Option Nat)) (j k:Nat),l[j]?=some none->((l.set j (some k)).filterMap id).length=(l.filterMap id).length+1
 | [],j,k,h=>by simp at h
 | a::l,0,k,h=>by
  have:a=none:=by simpa using h
  subst this;simp
 | a::l,j+1,k,h=>by
  have ih:=zhv l j k (by simpa using h)
  cases a with
  | none=>simpa using ih
  | some x=>simpa using ih
theorem LC.step{mask:Nat}{hs:List Int}{owner:Array (Option Nat)}(L:LC mask hs owner)(h:Int){j:Nat}(e:layClean.free mask owner (turns mask) (bits h % (mask+1)) (bits h)=some j) :
  LC mask (hs++[h]) (owner.setIfInBounds j (some hs.length)):=by
 obtain ⟨h1,n,h2,h3⟩:=zfY L.size _ _ _ _ (zdB mask h) e;have hj:j<owner.size:=(yaQ.mp h1).1
 have at':∀x,(owner.setIfInBounds j (some hs.length))[x]?=if j=x then some (some hs.length) else owner[x]?:=fun x=>by
  rw [Array.getElem?_setIfInBounds]
  by_cases z:j=x
  ·subst z;simp [hj]
  ·simp [z]
 have up:∀x,Occ owner x->Occ (owner.setIfInBounds j (some hs.length)) x:=fun x ⟨i,hi⟩=>by
  by_cases z:j=x
  ·subst z;rw [h1] at hi;cases hi
  ·exact ⟨i,by rw [at',if_neg z];exact hi⟩
 refine ⟨by simpa using L.size,fun x i hx=>?_,fun i hi=>?_,?_⟩
 ·rw [at'] at hx
  by_cases z:j=x
  ·rw [if_pos z] at hx;cases hx;subst z;exact ⟨h,by simp,n,h2,fun q hq=>up _ (h3 q hq)⟩
  ·rw [if_neg z] at hx;obtain ⟨h',e',n',a,b⟩:=L.own x i hx;refine ⟨h',?_,n',a,fun q hq=>up _ (b q hq)⟩;rw [ya4 (yam.mp e').1];exact e'
 ·rw [yar,ybL] at hi
  by_cases z:i=hs.length
  ·subst z;exact ⟨j,by rw [at',if_pos rfl]⟩
  ·obtain ⟨x,hx⟩:=L.all i (by omega);refine ⟨x,?_⟩;rw [at',if_neg (fun w=>by subst w;rw [h1] at hx;cases hx)];exact hx
 ·have q:owner.toList[j]?=some none:=by rw [yaZ];exact h1
  rw [Array.toList_setIfInBounds,zhv _ _ _ q,L.many,yar];rfl
def lcF(mask:Nat)(acc:Option (Array (Option Nat)×Nat))(h:Int):Option (Array (Option Nat)×Nat):=do
  let (owner,k) ← acc
  let j ← layClean.free mask owner (turns mask) (bits h % (mask+1)) (bits h)
  pure (owner.setIfInBounds j (some k),k+1)
def zgL(mask:Nat)(hashes:Array Int):layClean mask hashes=(hashes.toList.foldl (lcF mask) (some (Array.replicate (mask+1) none,0))).map (·.1):=by
 unfold layClean;rw [<-Array.foldl_toList];rfl
theorem zjx{mask:Nat}(hm:zfj mask):∀(za0 hs:List Int) (owner:Array (Option Nat)),LC mask hs owner->hs.length+za0.length<=mask+1 →
  ∃ow',za0.foldl (lcF mask) (some (owner,hs.length))=some (ow',(hs++za0).length)/\LC mask (hs++za0) ow'
 | [],hs,owner,L,_=>⟨owner,by simp,by simpa using L⟩
 | h::za0,hs,owner,L,hl=>by
  rw [yan] at hl
  have hfree:∃x,x<=mask/\owner[x]?=some none:=by
   refine Classical.byContradiction fun hn=>?_
   have allS:∀o∈owner.toList,o≠none:=fun o ho z=>by
    obtain ⟨x,hx⟩:=ybU ho;subst z
    have hx':owner[x]?=some none:=by rw [<-yaZ];exact hx
    have:=(yaQ.mp hx').1;exact hn ⟨x,by rw [L.size] at this;omega,hx'⟩
   have cnt:∀l:List (Option Nat),(∀o∈l,o≠none)->(l.filterMap id).length=l.length:=by
    intro l
    induction l with
    | nil=>intro _;rfl
    | cons a l ih =>
     intro ha
     cases a with
     | none=>exact absurd rfl (ha none yah)
     | some x=>simpa using ih fun o ho=>ha o (yag _ ho)
   have:=cnt _ allS;rw [L.many] at this;have e:=L.size;rw [<-yaM] at e;omega
  obtain ⟨x,hx,hxn⟩:=hfree;obtain ⟨r,hr,er⟩:=zrq hm (zdB mask h) (zkv h) hx;obtain ⟨j,hj⟩:=zfZ (mask:=mask) (owner:=owner) (turns mask) (bits h % (mask+1)) (bits h) ⟨r,by unfold turns;omega,by rw [er];exact hxn⟩;have L':=L.step h hj;obtain ⟨ow',e1,e2⟩:=zjx hm za0 (hs++[h]) _ L' (by rw [yar,ybL];omega);refine ⟨ow',?_,by simpa using e2⟩;rw [yby]
  have e3:lcF mask (some (owner,hs.length)) h=some (owner.setIfInBounds j (some hs.length),(hs++[h]).length):=by
   show (layClean.free mask owner (turns mask) (bits h % (mask+1)) (bits h) >>= fun j=>pure (owner.setIfInBounds j (some hs.length),hs.length+1))=_;rw [hj,yar];rfl
  rw [e3,e1];simp
def zn9(mask:Nat):LC mask [] (Array.replicate (mask+1) none):=by
 refine ⟨by simp,fun j i h=>?_,fun i hi=>by simp at hi,?_⟩
 ·rw [Array.getElem?_replicate] at h;split at h
  ·cases h
  ·cases h
 ·have:∀n:Nat,((List.replicate n (none:Option Nat)).filterMap id).length=0:=by
   intro n
   induction n with
   | zero=>rfl
   | succ n ih=>rw [ya6];simpa using ih
  simpa using this (mask+1)
def zgK{mask:Nat}(hm:zfj mask)(hashes:Array Int)(hl:hashes.size<=mask+1):∃owner,layClean mask hashes=some owner/\LC mask hashes.toList owner:=by
 obtain ⟨ow,e1,e2⟩:=zjx hm hashes.toList [] _ (zn9 mask) (by simpa using hl);refine ⟨ow,?_,by simpa using e2⟩;rw [zgL];have e1':hashes.toList.foldl (lcF mask) (some (Array.replicate (mask+1) none,0))=some (ow,([]++hashes.toList).length):=e1;rw [e1'];rfl
theorem zg6{α:Type}(es:Array α):∀(live:List (Nat×Nat)),(∀p∈live,∃e,es[p.2]?=some e) →
  ((live.map (·.2)).filterMap (es[·]?)).length=live.length/\(∀x∈(live.map (·.1)).zip ((live.map (·.2)).filterMap (es[·]?)),∃p∈live,x.1=p.1/\es[p.2]?=some x.2)/\∀e,e∈(live.map (·.2)).filterMap (es[·]?)↔∃p∈live,es[p.2]?=some e
 | [],_=>⟨rfl,fun x hx=>by simp at hx,fun e=>by simp⟩
 | p::live,h=>by
  obtain ⟨e,he⟩:=h p yah;obtain ⟨h1,h2,h3⟩:=zg6 es live fun q hq=>h q (yag _ hq)
  have es':((p::live).map (·.2)).filterMap (es[·]?)=e::(live.map (·.2)).filterMap (es[·]?):=by
   rw [yas,List.filterMap_cons_some he]
  rw [es'];refine ⟨by rw [yan,yan,h1],fun x hx=>?_,fun x=>?_⟩
  ·rw [yas,List.zip_cons_cons] at hx
   rcases yao.mp hx with rfl | hx
   ·exact ⟨p,yah,rfl,he⟩
   ·obtain ⟨q,hq,r⟩:=h2 x hx;exact ⟨q,yag _ hq,r⟩
  ·rw [yao,h3];constructor
   ·rintro (rfl | ⟨q,hq,r⟩)
    ·exact ⟨p,yah,he⟩
    ·exact ⟨q,yag _ hq,r⟩
   ·rintro ⟨q,hq,r⟩
    rcases yao.mp hq with rfl | hq
    ·rw [he] at r;cases r;exact .inl rfl
    ·exact .inr ⟨q,hq,r⟩
theorem zob{α:Type}{mask:Nat}(hm:zfj mask)(es:Array (Int×α))(hl:es.size*5<mask*3)(f mv:Nat)(led pl:Bool) :
  ∃t' order,laid mask f mv led pl (es.map (·.1))=some (t',order)/\Tab t' (order.filterMap (es[·]?))/\(order.filterMap (es[·]?)).size=es.size/\(∀e,e∈(order.filterMap (es[·]?)).toList↔e∈es.toList)/\t'.mask=mask/\t'.led=led/\t'.moves=mv/\t'.plain=pl:=by
 obtain ⟨owner,eo,L⟩:=zgK hm (es.map (·.1)) (by simp;omega)
 let live:=(List.range (mask+1)).filterMap fun j=>(owner.getD j none).map (j,·)
 have hlive:∀p,p∈live↔owner[p.1]?=some (some p.2):=by
  rintro ⟨j,i⟩;constructor
  ·intro h;obtain ⟨x,hx,e⟩:=ybt.mp h
   have hx':x<owner.size:=by rw [L.size];simpa using hx
   have eD:owner.getD x none=owner[x]:=by simp [Array.getD,hx']
   rw [eD] at e
   cases q:owner[x] with
   | none=>rw [q] at e;cases e
   | some y =>
    rw [q] at e;cases e;show owner[j]?=some (some i);rw [yaB hx',q]
  ·intro h;obtain ⟨hx',e⟩:=yaQ.mp h;refine ybt.mpr ⟨j,by rw [ybv,<-L.size];exact hx',?_⟩
   have eD:owner.getD j none=owner[j]:=by simp [Array.getD,hx']
   rw [eD];have e':owner[j]=some i:=e;rw [e'];rfl
 have hsome:∀p∈live,∃e,es[p.2]?=some e:=fun p hp=>by
  obtain ⟨h,hh,_⟩:=L.own p.1 p.2 ((hlive p).mp hp);have:p.2<(es.map (·.1)).toList.length:=(yam.mp hh).1
  have hlt:p.2<es.size:=by simpa using this
  exact ⟨es[p.2],yaB hlt⟩
 obtain ⟨z1,z2,z3⟩:=zg6 es live hsome
 have hlen:live.length=es.size:=by
  have e1:live.map (·.2)=owner.toList.filterMap id:=by
   have e0:owner.toList=(List.range (mask+1)).map fun j=>owner.getD j none:=by
    refine List.ext_getElem (by simp [L.size]) fun i h1 h2=>?_
    have:i<owner.size:=by simpa using h1
    simp [Array.getD,this]
   rw [e0,List.filterMap_map];show ((List.range (mask+1)).filterMap _).map _=_;rw [List.map_filterMap];congr 1;funext j;show _=owner.getD j none
   cases owner.getD j none<;>rfl
  have:=L.many;rw [<-e1,yac] at this;simpa using this
 have eo':laid mask f mv led pl (es.map (·.1))=some ({ mask,place:=(live.map (·.1)).toArray,dummies:=#[],finger:=f,led:=led,moves:=mv,plain:=pl },(live.map (·.2)).toArray):=by
  unfold laid;rw [eo];rfl
 have eT:(((live.map (·.2)).toArray).filterMap (es[·]?)).toList=(live.map (·.2)).filterMap (es[·]?):=by simp [Array.toList_filterMap]
 have ez:(((live.map (·.2)).toArray).filterMap (es[·]?)).size=es.size:=by rw [<-yaM,eT,z1,hlen]
 refine ⟨_,_,eo',⟨hm,rfl,?_,?_,fun j hj=>?_,?_,fun p hp=>?_⟩,ez,fun e=>?_,rfl,rfl,rfl,rfl⟩
 ·show (live.map (·.1)).toArray.size=_;rw [ez,<-hlen];simp
 ·show (live.map (·.1)).Pairwise (· < ·);rw [List.pairwise_map];show ((List.range (mask+1)).filterMap _).Pairwise _;rw [List.pairwise_filterMap];refine List.Pairwise.imp (fun {a b} hab x hx y hy=>?_) List.pairwise_lt_range
  cases q:owner.getD a none with
  | none=>rw [q] at hx;cases hx
  | some u =>
   rw [q] at hx;cases hx
   cases q':owner.getD b none with
   | none=>rw [q'] at hy;cases hy
   | some u'=>rw [q'] at hy;cases hy;exact hab
 ·obtain ⟨p,hp,e⟩:=yad.mp (show j∈live.map (·.1) from hj);have:=(yaQ.mp ((hlive p).mp hp)).1;rw [L.size] at this;show j<=mask;omega
 ·show _*5<mask*3;rw [ez];exact hl
 ·have hp':p∈(live.map (·.1)).zip ((live.map (·.2)).filterMap (es[·]?)):=by rw [<-eT];exact hp
  obtain ⟨x,hx,e1,e2⟩:=z2 p hp';obtain ⟨h,hh,n,a,b⟩:=L.own x.1 x.2 ((hlive x).mp hx)
  have eh:h=p.2.1:=by
   have hh':(es.map (·.1))[x.2]?=some h:=by rw [<-yaZ];exact hh
   rw [Array.getElem?_map,e2] at hh';exact (Option.some.inj hh').symm
  subst eh;refine ⟨n,by rw [e1];exact a,fun q hq=>?_⟩;obtain ⟨i,hi⟩:=b q hq;exact yad.mpr ⟨(pos mask p.2.1 q,i),(hlive _).mpr hi,rfl⟩
 ·rw [eT,z3];constructor
  ·rintro ⟨p,hp,e⟩;exact ya3.mpr (ybu e)
  ·intro he;obtain ⟨i,hi,e'⟩:=ybV.mp he
   have hi':i<es.size:=by simpa using hi
   obtain ⟨j,hj⟩:=L.all i (by simpa using hi');refine ⟨(j,i),(hlive _).mpr hj,?_⟩;rw [yaB hi'];simpa using e'
open PySem PySem.Spec PyProof.Rows
section
variable{prog:Program}{w:World}{A:Around}{E:Z5}{s:Shared}
noncomputable abbrev TK(prog:Program)(w:World)(h:Heap)(k:List Int)(a:Addr):Prop:=IsTupleKey (intKind prog w) h k a
noncomputable abbrev th(prog:Program)(w:World)(k:List Int):Int:=tupleKeyHash (intKind prog w) k
def TK.ints{h:Heap}{k:List Int}{a:Addr}(x:TK prog w h k a):∃o its n,h.get? a=some o/\o.cls=.type "tuple" /\ o.data=.seq its n/\∀v∈its.toList,∃i t,v=Value.int i t:=by
 obtain ⟨o,its,n,e,c,d,hi⟩:=x;refine ⟨o,its,n,e,c,d,?_⟩
 have:∀(k:List Int) (l:List Value),ItemsAre (intKind prog w) k l->∀v∈l,∃i t,v=Value.int i t:=by
  intro k l h
  induction h with
  | nil=>intro v hv;simp at hv
  | @cons k v ks vs h1 _ ih =>
   intro v' hv
   rcases yao.mp hv with rfl | hv
   ·obtain ⟨t,e⟩:=Value.isInt_shape (k:=k) (v:=v') h1;exact ⟨k,t,e⟩
   ·exact ih v' hv
 exact this _ _ hi
def zhr{M:Model}{h:Heap}{k:List Int}{a:Addr}{Q:Bool->Shared->Prop}(x:TK prog w s.heap k a)(hQ:Q false s):wpAny M A (ofAClassStatement 8 (.ref a)) Q E s:=by
 obtain ⟨o,its,n,e,c,d,hv⟩:=x.ints;unfold ofAClassStatement;refine yaa (yci (T:="tuple") ⟨o,e,c⟩ ?_);dsimp only;refine yaa ?_;refine yaf ?_;simp only [ycS,yaK,ybC];refine yaa (ybx e d ?_);dsimp only;refine yaa ?_;rw [<-Array.forIn_toList];refine wpAny_forIn_list _ (fun za0 r s'=>r.1=none/\s'=s/\∀v∈za0,∃i t,v=Value.int i t) _ ?_ ?_ _ _ ⟨rfl,rfl,hv⟩
 ·rintro v za0 r s' ⟨hr,rfl,hall⟩;obtain ⟨i,t,rfl⟩:=hall v yah
  have e7:ofAClassStatement 7 (Value.int i t)=pure false:=by unfold ofAClassStatement;rfl
  rw [e7];refine yaa (yaf ?_);simp only [yaK,ybC];exact yaf ⟨rfl,rfl,fun u hu=>hall u (yag _ hu)⟩
 ·rintro ⟨r1,r2⟩ s' ⟨hr,rfl,_⟩;simp only at hr;subst hr;exact yaf hQ
def zlr{k:List Int}{a:Addr}{Q:Bool->Shared->Prop}(x:TK prog w s.heap k a):∀(l:List Value),(∀v∈l,∃b k',v=.ref b/\TK prog w s.heap k' b)->Q false s->wpAny (model prog w) A (searchCouldBeSeen (.ref a) l) Q E s:=by
 intro l hl hQ;unfold searchCouldBeSeen;refine yaa ?_;refine wpAny_forIn_list _ (fun za0 r s'=>r.1=none/\s'=s/\∀v∈za0,∃b k',v=.ref b/\TK prog w s.heap k' b) _ ?_ ?_ _ _ ⟨rfl,rfl,hl⟩
 ·rintro v za0 r s' ⟨hr,rfl,hall⟩;obtain ⟨b,k',rfl,y⟩:=hall v yah;have tl:∀u∈za0,∃b k',u=.ref b/\TK prog w s'.heap k' b:=fun u hu=>hall u (yag _ hu)
  dsimp only;split
  ·exact yaf ⟨rfl,rfl,tl⟩
  ·refine yaa (wpAny_eqIsQuiet_tuple x ?_);simp only [ycS,yaK,ybC];refine yaa (wpAny_eqIsQuiet_tuple y ?_);simp only [ycS,yaK,ybC];refine yaa (zhr (h:=s'.heap) x ?_);simp only [yaK,ybC];refine yaa (zhr (h:=s'.heap) y ?_);simp only [yaK,ybC];exact yaf ⟨rfl,rfl,tl⟩
 ·rintro ⟨r1,r2⟩ s' ⟨hr,rfl,_⟩;simp only at hr;subst hr;exact yaf hQ
def zlY{k:List Int}{a:Addr}{Q:Bool->Shared->Prop}(x:TK prog w s.heap k a)(hQ:Q true s):wpAny (model prog w) A (hashByValue 8 (.ref a)) Q E s:=by
 have hT:=x.typeIs;obtain ⟨o,its,n,e,c,d,hv⟩:=x.ints;unfold hashByValue;refine yaa (wpAny_specialOf hT F.slot_tuple_hash.lookup ?_);dsimp only;refine yaa (ybx e d ?_);dsimp only [Option.getD];refine yaa ?_;rw [<-Array.forIn_toList];refine wpAny_forIn_list _ (fun za0 r s'=>r.1=none/\s'=s/\∀v∈za0,∃i t,v=Value.int i t) _ ?_ ?_ _ _ ⟨rfl,rfl,hv⟩
 ·rintro v za0 r s' ⟨hr,rfl,hall⟩;obtain ⟨i,t,rfl⟩:=hall v yah
  have e7:hashByValue 7 (Value.int i t)=pure true:=by unfold hashByValue;rfl
  rw [e7];refine yaa (yaf ?_);simp only [ycS,yaK,ybC];exact yaf ⟨rfl,rfl,fun u hu=>hall u (yag _ hu)⟩
 ·rintro ⟨r1,r2⟩ s' ⟨hr,rfl,_⟩;simp only at hr;subst hr;exact yaf hQ
structure TSet(prog:Program)(w:World)(h:Heap)(a:Addr)(ks:Z2)(n:Nat):Prop where
 ex:∃o es ep t,h.get? a=some o/\o.ExactSet/\o.data=.set es ep t/\Tab t es/\es.size=n ∧
  (∀e∈es.toList,∃b k,e=(th prog w k,Value.ref b)/\TK prog w h k b)/\(∀k,k∈ks↔∃e∈es.toList,∃b,e.2=Value.ref b/\TK prog w h k b)
theorem Tab.fits{α:Type}{t:SetTable}{es:Array (Int×α)}(T:Tab t es):t.fits es.size=true:=by
 have h:=T.len;have r:=T.room;have d:=T.dum;unfold SetTable.fits SetTable.fill;rw [d];have:t.place.size+(#[]:Array Nat).size=t.place.size:=rfl;rw [this,h];simp only [ybD,ycT,yaA];omega
theorem Tab.first{α:Type}{t:SetTable}{es:Array (Int×α)}(T:Tab t es)(h:Int):∃M,M<10*SetTable.turns t.mask/\pos t.mask h M ∉ t.place.toList/\∀q,q<M->pos t.mask h q∈t.place.toList :=
 zik T.small h _ (ST.room (by have:=T.len;have:=T.room;rw [yaM];omega))
def zfH{t:SetTable}{es:Array (Int×Value)}(T:Tab t es){F:Nat->Int}{h:Int}{M m:Nat}{r:Option SetTable.Met}(heq:t.probe F h (st t.mask h m)=r)(hF:∀i e,es[i]?=some e->F i=e.1)
  (hM:pos t.mask h M ∉ t.place.toList) (hb:∀q,q<M->pos t.mask h q∈t.place.toList) (hl:M<10*SetTable.turns t.mask) (hm:m<=M) :
  (∃(q i:Nat) (e:Int×Value),m<=q/\q<M/\t.place.toList[i]?=some (pos t.mask h q)/\es[i]?=some e/\e.1=h/\(∀(q' i':Nat) (e':Int×Value),m<=q'->q'<q->t.place.toList[i']?=some (pos t.mask h q')->es[i']?=some e'->e'.1≠h)/\r=some (.candidate (pos t.mask h q) i (st t.mask h (q+1)))) ∨
   ((∀(q i:Nat) (e:Int×Value),m<=q->q<M->t.place.toList[i]?=some (pos t.mask h q)->es[i]?=some e->e.1≠h)/\r=some (.empty (pos t.mask h M) none)):=by
 have at':∀i j,t.place.toList[i]?=some j->∃e,es[i]?=some e:=fun i j e=>by
  have:=(yam.mp e).1;rw [yaM,T.len] at this;exact ⟨es[i],yaB this⟩
 rcases zla T.srt T.dum F h hM hb hl hm with ⟨q,i,a,b,c,d,e⟩ | ⟨d,e⟩
 ·obtain ⟨x,hx⟩:=at' i _ c.1;refine .inl ⟨q,i,x,a,b,c.1,hx,?_,fun q' i' e' h1 h2 h3 h4 h5=>d q' i' h1 h2 ⟨h3,by rw [hF i' e' h4];exact h5⟩,heq.symm.trans e⟩;rw [<-hF i x hx];exact c.2
 ·exact .inr ⟨fun q i x h1 h2 h3 h4 h5=>d q i h1 h2 ⟨h3,by rw [hF i x h4];exact h5⟩,heq.symm.trans e⟩
def zia{t:SetTable}{es:Array (Int×Value)}(T:Tab t es){F:Nat->Int}{h:Int}{M m:Nat}(heq:∀met,t.probe F h (st t.mask h m)=some met->False)(hF:∀i e,es[i]?=some e->F i=e.1)
  (hM:pos t.mask h M ∉ t.place.toList) (hb:∀q,q<M->pos t.mask h q∈t.place.toList) (hl:M<10*SetTable.turns t.mask) (hm:m<=M):False:=by
 rcases zfH T rfl hF hM hb hl hm with ⟨_,_,_,_,_,_,_,_,_,e⟩ | ⟨_,e⟩
 ·exact heq _ e
 ·exact heq _ e
theorem zmk{a:Addr}{o:Obj}{es:Array (Int×Value)}{ep:Nat}{t:SetTable}(ho:s.heap.get? a=some o)(hd:o.data=.set es ep t)(T:Tab t es)(hu:A.units<cLine)
  (hes:∀e∈es.toList,∃b k,e=(th prog w k,Value.ref b)/\TK prog w s.heap k b) {k:List Int} {x:Addr} (hx:TK prog w s.heap k x) {M:Nat} (hM:pos t.mask (th prog w k) M ∉ t.place.toList) (hb:∀q,q<M->pos t.mask (th prog w k) q∈t.place.toList) (hl:M<10*SetTable.turns t.mask)
  {Q:SetFound->Shared->Prop} :
  ∀(fuel m:Nat) (stand:Option SetTable.Probe),m<=M->M-m<fuel->stand.getD (t.probeStart (th prog w k))=st t.mask (th prog w k) m →
   ((∃(q i:Nat) (e:Int×Value) (b:Addr),m<=q/\q<M/\t.place.toList[i]?=some (pos t.mask (th prog w k) q)/\es[i]?=some e/\e.2=Value.ref b/\TK prog w s.heap k b)->Q (.there none) s) →
   ((∀(q i:Nat) (e:Int×Value) (b:Addr),m<=q->q<M->t.place.toList[i]?=some (pos t.mask (th prog w k) q)->es[i]?=some e->e.2=Value.ref b->¬ TK prog w s.heap k b)->Q (.free (pos t.mask (th prog w k) M) false) s) →
   wpAny (model prog w) A (setSearchFrom a (.ref x) (th prog w k) true fuel stand) Q E s
 | 0,m,stand,h1,h2,_,_,_=>by omega
 | fuel+1,m,stand,h1,h2,hst,hyes,hno=>by
  unfold setSearchFrom;refine yaa (ybQ ho hd T.fits ?_);dsimp only
  have hgw:t.gaveWay=false:=by unfold SetTable.gaveWay;rcases T.small with z | z<;>rw [z]<;>rfl
  rw [hgw];simp only [yaK,ybC];rw [hst];split
  ·rename_i met heq
   rcases zfH T heq (fun i e he=>by show ((es[i]?).map (·.1)).getD 0=e.1;rw [he];rfl) hM hb hl h1 with ⟨q,i,e,a1,a2,a3,a4,a5,a6,a7⟩ | ⟨a6,a7⟩
   ·cases a7;dsimp only;obtain ⟨b,k',rfl,hk'⟩:=hes e (ya3.mpr (ybu a4))
    have seen:∀{Q':Bool->Shared->Prop},Q' false s->wpAny (model prog w) A (searchCouldBeSeen (.ref x) ((es.filter (·.1 == th prog w k)).toList.map (·.2))) Q' E s:=fun {Q'} hq =>
     zlr hx _ (fun v hv=>by
      obtain ⟨e',he',ev⟩:=yad.mp hv
      have he2:e'∈es.toList:=by
       have:=ya3.mp he';exact ya3.mpr (Array.mem_filter.mp this).1
      obtain ⟨b',k'',rfl,hk''⟩:=hes e' he2
      exact ⟨b',k'',ev.symm,hk''⟩) hq
    have za0:wpAny (model prog w) A (do
      let some (_,y):=es[i]? | unsupported "internal:set-entry"
      let equal ← holding [y] (eqBool y (.ref x))
      let (es',_,t') ← setState a
      if true&&equal then return SetFound.there none
      let some same:=t'.sameMemory t.moves t.mask | unsupported "set.changed-during-lookup:is-the-new-block-at-the-old-address"
      let still ← match (if same then t'.slot (pos t.mask (th prog w k) q) else .empty) with
       | .live i'=>match es'[i']? with
        | some (_,y')=>do pure (if ← isSame y' y then some i' else none)
        | none=>pure none
       | _=>pure none
      match still with
      | none=>rule "set.search.anew";setSearchFrom a (.ref x) (th prog w k) true fuel none
      | some i'=>if equal then return .there (some i') else setSearchFrom a (.ref x) (th prog w k) true fuel (some (st t.mask (th prog w k) (q+1)))) Q E s:=by
     rw [a4];dsimp only;refine yaa (yba (wpAny_eqBool_tuple hu hk' hx ?_));refine yaa (ybQ ho hd T.fits ?_);dsimp only
     by_cases hkk:k'=k
     ·subst hkk;rw [yaJ rfl];simp only [ycU,ybK];exact yaf (hyes ⟨q,i,_,b,a1,a2,a3,a4,rfl,hk'⟩)
     ·rw [yaW hkk];simp only [Bool.and_false,yaK,ybC]
      have hsm:t.sameMemory t.moves t.mask=some true:=by unfold SetTable.sameMemory;simp
      rw [hsm];dsimp only;simp only [ybK];rw [zcf T.srt a3];dsimp only;rw [a4];dsimp only;refine yaa (wpAny_isSame_ref_self ?_);refine yaa (yaf ?_);simp only [ybK];refine zmk ho hd T hu hes hx hM hb hl fuel (q+1) _ (by omega) (by omega) rfl (fun ⟨q',i',e',b',z1,z2,z3⟩=>hyes ⟨q',i',e',b',by omega,z2,z3⟩) fun hn=>hno fun q' i' e' b' z1 z2 z3 z4 z5 z6=>?_
      by_cases hq:q'<=q
      ·by_cases hqe:q'=q
       ·subst hqe
        have ei:i'=i:=by
         have u1:=zcf T.srt z3;rw [zcf T.srt a3] at u1;cases u1;rfl
        subst ei;rw [a4] at z4;cases z4
        have eb:b=b':=by injection z5
        subst eb;exact hkk (hk'.inj z6)
       ·have:=a6 q' i' e' z1 (by omega) z3 z4;obtain ⟨b2,k2,rfl,hk2⟩:=hes e' (ya3.mpr (ybu z4))
        have eb:b2=b':=by injection z5
        subst eb;rw [hk2.inj z6] at this;exact this rfl
      ·exact hn q' i' e' b' (by omega) z2 z3 z4 z5 z6
    split
    ·refine yaa (seen ?_);simp only [yaK,ybC];exact za0
    ·exact za0
   ·cases a7;dsimp only;refine yaf (hno fun q i e b z1 z2 z3 z4 z5 z6=>?_);have:=a6 q i e z1 z2 z3 z4;obtain ⟨b2,k2,rfl,hk2⟩:=hes e (ya3.mpr (ybu z4))
    have eb:b2=b:=by injection z5
    subst eb;rw [hk2.inj z6] at this;exact this rfl
  ·rename_i heq;exact (zia T heq (fun i e he=>by show ((es[i]?).map (·.1)).getD 0=e.1;rw [he];rfl) hM hb hl h1).elim
end
section
variable{prog:Program}{w:World}{A:Around}{E:Z5}{s:Shared}
def TK.but{h h':Heap}{k:List Int}{b a:Addr}{o:Obj}{es ep t}(x:TK prog w h k b)(ho:h.get? a=some o)(hd:o.data=.set es ep t)(sb:Heap.SameBut a h h'):TK prog w h' k b:=by
 obtain ⟨o',items,n,ho',hc,hd',hi⟩:=x
 have hne:b≠a:=by
  rintro rfl;rw [ho] at ho';cases ho';rw [hd] at hd';cases hd'
 exact ⟨o',items,n,(sb.2 b hne).trans ho',hc,hd',hi⟩
def putS{h:Heap}{o:Obj}(ho:h.get? a=some o)(hx:o.ExactSet)(hd:o.data=.set es ep t) :
  ∃o',(h.update a (Obj.putSet es' t')).get? a=some o'/\o'.ExactSet/\o'.data=.set es' (ep+1) t':=by
 refine ⟨{ o with data:=.set es' (ep+1) t' },?_,hx,rfl⟩;rw [yck _ ho (by rw [putSet_of es' t' hd];rfl),putSet_of es' t' hd]
def zie{mask:Nat}(h:zfj mask):10*SetTable.turns mask<=460:=by rcases h with z | z<;>rw [z]<;>decide
theorem znp{a:Addr}{ks:Z2}{n:Nat}{k:List Int}{x:Addr}{Q:Bool->Shared->Prop}(S:TSet prog w s.heap a ks n)(hx:TK prog w s.heap k x)(hu:A.units<cLine)(hn:n<=17)
  (h:∀h' c,Heap.SameBut a s.heap h'->TSet prog w h' a (ks++[k]) (if k∈ks then n else n+1)->Q c { s with heap:=h',toks:=s.toks+(k.length+1) }):wpAny (model prog w) A (setAdd a (.ref x)) Q E s:=by
 unfold setAdd;refine yba (yaa (wpAny_pyHash_tuple hu hx ?_));obtain ⟨o,es,ep,t,ho,hex,hd,T,hsz,hes,hmem⟩:=S.ex;obtain ⟨M,hlt,hM,hb⟩:=T.first (th prog w k);unfold setAddHashed;refine yba ?_;unfold setAddHashedIn;refine yaa (ybQ (s:={ s with toks:=s.toks+(k.length+1) }) ho hd T.fits ?_);dsimp only
 have hbs:byScan (.ref x) es=false:=by unfold byScan;rfl
 rw [hbs];simp only [yaK,ybC];refine yaa ?_;unfold setSearch;have hm:=zie T.small
 have path:k∈ks->∃(q i:Nat) (e:Int×Value) (b:Addr),0<=q/\q<M/\t.place.toList[i]?=some (pos t.mask (th prog w k) q)/\es[i]?=some e/\e.2=Value.ref b/\TK prog w s.heap k b:=fun hk=>by
  obtain ⟨e,he,b,eb,hkb⟩:=(hmem k).mp hk;obtain ⟨i,hi,ei⟩:=ybV.mp he
  have hi':i<es.size:=by simpa using hi
  have ee:es[i]?=some e:=by rw [yaB hi'];simpa using ei
  have hi2:i<t.place.toList.length:=by rw [yaM,T.len];exact hi'
  have ep':t.place.toList[i]?=some t.place.toList[i]:=yaj hi2
  have hz:(t.place.toList[i],e)∈t.place.toList.zip es.toList:=by
   have hlen:(t.place.toList.zip es.toList).length=t.place.toList.length:=by rw [List.length_zip,yaM,yaM,T.len];omega
   refine ybV.mpr ⟨i,by rw [hlen];exact hi2,?_⟩;rw [List.getElem_zip,ei]
  obtain ⟨nn,p1,p2⟩:=T.path _ hz;obtain ⟨b',k',e',hk'⟩:=hes e he
  have eh:e.1=th prog w k:=by
   rw [e'] at eb ⊢
   have:b'=b:=by injection eb
   subst this;rw [hk'.inj hkb]
  rw [eh] at p1 p2
  have hlt2:nn<M:=by
   refine Nat.not_le.mp fun hle=>?_
   rcases ycH hle with z | z
   ·exact hM (p2 M z)
   ·subst z;rw [p1] at hM;exact hM (List.getElem_mem _)
  exact ⟨nn,i,e,b,yaP _,hlt2,by rw [p1];exact ep',ee,eb,hkb⟩
 refine zmk (s:={ s with toks:=s.toks+(k.length+1) }) ho hd T hu hes hx hM hb hlt 100000 0 none (yaP _) (by omega) (zkN ..) (fun hy=>?_) (fun hno=>?_)
 ·dsimp only;obtain ⟨q,i,e,b,_,_,_,ee,eb,hkb⟩:=hy;have hk:k∈ks:=(hmem k).mpr ⟨e,ya3.mpr (ybu ee),b,eb,hkb⟩;refine yaf (h s.heap _ (Heap.SameBut.refl _ _) ?_);rw [if_pos hk];refine ⟨o,es,ep,t,ho,hex,hd,T,hsz,hes,fun k'=>?_⟩;rw [yaR,yaD,<-hmem k'];exact ⟨fun z=>z.elim id fun z=>z ▸ hk,.inl⟩
 ·dsimp only
  have hk:¬ k∈ks:=fun hk=>by
   obtain ⟨q,i,e,b,z1,z2,z3,z4,z5,z6⟩:=path hk;exact hno q i e b z1 z2 z3 z4 z5 z6
  refine yaa (ybQ (s:={ s with toks:=s.toks+(k.length+1) }) ho hd T.fits ?_);dsimp only;rw [zp6 T.dum];dsimp only
  have fin:∀pl:Bool,wpAny (model prog w) A (do
    storeSet a (SetTable.insertAt es (SetTable.below t.place (pos t.mask (th prog w k) M)) (th prog w k,Value.ref x)) { t with place:=SetTable.insertAt t.place (SetTable.below t.place (pos t.mask (th prog w k) M)) (pos t.mask (th prog w k) M),plain:=pl }
    if (!false&&SetTable.tooFull { t with place:=SetTable.insertAt t.place (SetTable.below t.place (pos t.mask (th prog w k) M)) (pos t.mask (th prog w k) M),plain:=pl })=true then setRelay a (SetTable.grown (es.size+1))
    return true) Q E { s with toks:=s.toks+(k.length+1) }:=by
   intro pl;obtain ⟨q1,q2,q3,q4,q5,q6⟩:=T.put (h:=th prog w k) (x:=Value.ref x) hM hb (pl:=pl);generalize ht':({ t with place:=SetTable.insertAt t.place (SetTable.below t.place (pos t.mask (th prog w k) M)) (pos t.mask (th prog w k) M),plain:=pl }:SetTable)=t' at q1 q2 q3 q4 ⊢;generalize he':SetTable.insertAt es (SetTable.below t.place (pos t.mask (th prog w k) M)) (th prog w k,Value.ref x)=es' at q1 q4 q5 q6 ⊢
   have hmask:t'.mask=t.mask:=by rw [<-ht']
   have hdum:t'.dummies=#[]:=by rw [<-ht'];exact T.dum
   have hsz':es'.size<=sizeLine:=by rw [q6,hsz];exact yaw (Nat.succ_le_succ hn) (by decide)
   refine yaa (wpAny_storeSet_of (s:={ s with toks:=s.toks+(k.length+1) }) ho hd ?_ hsz');obtain ⟨o1,g1,x1,d1⟩:=putS (es':=es') (t':=t') ho hex hd;have sb1:Heap.SameBut a s.heap (s.heap.update a (Obj.putSet es' t')):=Heap.SameBut.update ..
   have elems:∀{h2:Heap},Heap.SameBut a s.heap h2->∀(es2:Array (Int×Value)),(∀e,e∈es2.toList↔e∈es'.toList) →
     (∀e∈es2.toList,∃b k,e=(th prog w k,Value.ref b)/\TK prog w h2 k b)/\∀k',k'∈ks++[k]↔∃e∈es2.toList,∃b,e.2=Value.ref b/\TK prog w h2 k' b:=fun {h2} sb es2 hm2=>by
    have back:∀{k' b},TK prog w h2 k' b->(∃k'',TK prog w s.heap k'' b)->TK prog w s.heap k' b:=fun {k' b} z ⟨k'',z'⟩=>by
     have:=(z'.but ho hd sb).inj z;rw [<-this];exact z'
    refine ⟨fun e he=>?_,fun k'=>?_⟩
    ·rcases (q5 e).mp ((hm2 e).mp he) with rfl | he
     ·exact ⟨x,k,rfl,hx.but ho hd sb⟩
     ·obtain ⟨b,k',e2,z⟩:=hes e he;exact ⟨b,k',e2,z.but ho hd sb⟩
    ·rw [yaR,yaD];constructor
     ·rintro (z | rfl)
      ·obtain ⟨e,he,b,eb,zk⟩:=(hmem k').mp z;exact ⟨e,(hm2 e).mpr ((q5 e).mpr (.inr he)),b,eb,zk.but ho hd sb⟩
      ·exact ⟨_,(hm2 _).mpr ((q5 _).mpr (.inl rfl)),x,rfl,hx.but ho hd sb⟩
     ·rintro ⟨e,he,b,eb,zk⟩
      rcases (q5 e).mp ((hm2 e).mp he) with rfl | he
      ·have:x=b:=by injection eb
       subst this;exact .inr ((hx.but ho hd sb).inj zk).symm
      ·obtain ⟨b2,k2,e2,z2⟩:=hes e he
       have:b2=b:=by rw [e2] at eb;injection eb
       subst this;exact .inl ((hmem k').mpr ⟨e,he,b2,eb,back zk ⟨k2,z2⟩⟩)
   by_cases hfull:(!false&&t'.tooFull)=true
   ·rw [if_pos hfull];have hr:=T.room
    have hfill:t'.fill=es.size+1:=by unfold SetTable.fill;rw [hdum];show t'.place.size+0=_;rw [q1,q6]
    have hm7:t.mask=7/\es.size+1=5:=by
     have hf:(es.size+1)*5 ≥ t.mask*3:=by
      have:t'.tooFull=true:=by simpa using hfull
      unfold SetTable.tooFull at this;rw [hfill,hmask] at this;simpa using this
     rcases T.small with z | z
     ·rw [z] at hf hr;exact ⟨z,by omega⟩
     ·rw [z] at hf hr;omega
    unfold setRelay
    have F1:t'.fits es'.size=true:=by
     unfold SetTable.fits;rw [hfill,q1,q6,hmask,hm7.1];have:=hm7.2;simp only [ybD,ycT,yaA];omega
    refine yaa (yaa (ybQ (s:={ s with heap:=s.heap.update a (Obj.putSet es' t'),toks:=s.toks+(k.length+1) }) g1 d1 F1 ?_));dsimp only;rw [hm7.2];rw [if_neg (by decide)];obtain ⟨t2,order,l1,l2,l3,l4,l5,l6,l7,l8⟩:=zob (mask:=31) (.inr rfl) es' (by rw [q6,hm7.2];decide) t'.finger (t'.movedTo 31) t'.led t'.plain
    have er:t'.relaid (es'.map (·.1)) (SetTable.grown 5)=some (t2,order):=by
     unfold SetTable.relaid
     have:SetTable.sizeAbove (SetTable.grown 5)-1=31:=by decide
     rw [this];exact l1
    rw [er];refine yaa ?_;show wpAny _ _ (if ((order.filterMap (es'[·]?)).size != es'.size)=true then _ else _) _ _ _;rw [if_neg (by rw [l3];simp)];refine yaf ?_;refine wpAny_storeSet_of (s:={ s with heap:=s.heap.update a (Obj.putSet es' t'),toks:=s.toks+(k.length+1) }) g1 d1 ?_ (by rw [l3];exact hsz');obtain ⟨o2,g2,x2,d2⟩:=putS (es':=order.filterMap (es'[·]?)) (t':=t2) g1 x1 d1;have sb2:Heap.SameBut a s.heap ((s.heap.update a (Obj.putSet es' t')).update a (Obj.putSet (order.filterMap (es'[·]?)) t2)):=sb1.trans (Heap.SameBut.update ..);obtain ⟨w1,w2⟩:=elems sb2 _ l4;refine yaf (h _ true sb2 ?_);rw [if_neg hk];exact ⟨o2,_,_,t2,g2,x2,d2,l2,by rw [l3,q6,hsz],w1,w2⟩
   ·rw [if_neg hfull];refine yaa (yaf (yaf ?_));obtain ⟨w1,w2⟩:=elems sb1 es' fun _=>Iff.rfl
    have hroom:es'.size*5<t'.mask*3:=by
     have:t'.tooFull=false:=by cases q:t'.tooFull with
      | false=>rfl
      | true=>rw [q] at hfull;exact absurd rfl hfull
     unfold SetTable.tooFull SetTable.fill at this;rw [hdum] at this;have e0:t'.place.size+(#[]:Array Nat).size=es'.size:=q1;rw [e0] at this;simpa using this
    refine h _ true sb1 ?_;rw [if_neg hk];exact ⟨o1,es',_,t',g1,x1,d1,⟨by rw [hmask];exact T.small,hdum,q1,q2,q3,hroom,q4⟩,by rw [q6,hsz],w1,w2⟩
  have et:∀pl,({ ({ t with place:=SetTable.insertAt t.place (SetTable.below t.place (pos t.mask (th prog w k) M)) (pos t.mask (th prog w k) M) }:SetTable) with plain:=pl }:SetTable)={ t with place:=SetTable.insertAt t.place (SetTable.below t.place (pos t.mask (th prog w k) M)) (pos t.mask (th prog w k) M),plain:=pl }:=fun _=>rfl
  cases hpl:t.plain with
  | true =>
   simp only [ybK];refine yaa (zlY (s:={ s with toks:=s.toks+(k.length+1) }) hx ?_);simp only [ybK];exact fin true
  | false =>
   simp only [yaK,ybC];refine yaa (yaf ?_);simp only [ybK];exact fin false
end
noncomputable def Cnt(ks:Z2)(c:Nat):Prop:=c<=ks.length/\(c=ks.length↔ks.Nodup)
def zkj:Cnt [] 0:=⟨yak _,fun _=>List.nodup_nil,fun _=>rfl⟩
theorem zhR{ks:Z2}{c:Nat}(h:Cnt ks c)(k:List Int):Cnt (ks++[k]) (if k∈ks then c else c+1):=by
 have nd:(ks++[k]).Nodup↔ks.Nodup/\¬ k∈ks:=by
  rw [ycN];constructor
  ·rintro ⟨h1,_,h2⟩;exact ⟨h1,fun hk=>h2 k hk k (by simp) rfl⟩
  ·rintro ⟨h1,h2⟩
   exact ⟨h1,by simp,fun a ha b hb e=>by
    have:b=k:=by simpa using hb
    subst this;subst e;exact h2 ha⟩
 have hl:(ks++[k]).length=ks.length+1:=by simp
 unfold Cnt;rw [nd,hl]
 by_cases hk:k∈ks
 ·rw [if_pos hk];exact ⟨by have:=h.1;omega,fun e=>by have:=h.1;omega,fun z=>absurd hk z.2⟩
 ·rw [if_neg hk];exact ⟨by have:=h.1;omega,fun e=>⟨h.2.mp (by omega),hk⟩,fun z=>by rw [h.2.mpr z.1]⟩
noncomputable def ddF(p:List (List Int)×Nat)(k:List Int):List (List Int)×Nat:=(p.1++[k],if k∈p.1 then p.2 else p.2+1)
def ddN(ks:Z2):Nat:=(ks.foldl ddF ([],0)).2
theorem zmK:∀(ks acc:Z2) (n:Nat),(ks.foldl ddF (acc,n)).1=acc++ks
 | [],acc,n=>by simp
 | k::ks,acc,n=>by
  rw [yby];show (ks.foldl ddF (acc++[k],if k∈acc then n else n+1)).1=_;rw [zmK ks];simp
def zka{ks:Z2}{k:List Int}:ddN (ks++[k])=if k∈ks then ddN ks else ddN ks+1:=by
 unfold ddN;rw [ycO,yby,List.foldl_nil];show (if k∈(ks.foldl ddF ([],0)).1 then _ else _)=_;rw [zmK];simp
noncomputable def zoT(ks:Z2)(c:Nat):Prop:=Cnt ks c/\c=ddN ks
def zlV:zoT [] 0:=⟨zkj,rfl⟩
def zkk{ks:Z2}{c:Nat}(h:zoT ks c)(k:List Int):zoT (ks++[k]) (if k∈ks then c else c+1):=⟨zhR h.1 k,by rw [zka,h.2]⟩
def zro(ks:Z2):Cnt ks (ddN ks):=by
 have go:∀(ks acc:Z2) (n:Nat),Cnt acc n->Cnt (acc++ks) (ks.foldl ddF (acc,n)).2:=by
  intro ks
  induction ks with
  | nil=>intro acc n h;simpa using h
  | cons k ks ih =>
   intro acc n h;have:=ih (acc++[k]) _ (zhR h k);rwa [ybg] at this
 have:=go ks [] 0 zkj;rwa [List.nil_append] at this
section
variable{prog:Program}{w:World}{A:Around}{R:Result->Shared->Prop}{s:Shared}
def TK.ne{h:Heap}{k:List Int}{b a:Addr}{o:Obj}{vs:Array Value}(x:TK prog w h k b)(ho:h.get? a=some o)(hd:o.data=.fields vs):b≠a:=by
 obtain ⟨o',items,n,ho',hc,hd',hi⟩:=x;rintro rfl;rw [ho] at ho';cases ho';rw [hd] at hd';cases hd'
def TK.keep{h h':Heap}{k:List Int}{b:Addr}(x:TK prog w h k b)(e:∀o,h.get? b=some o->h'.get? b=some o):TK prog w h' k b:=by
 obtain ⟨o',items,n,ho',r⟩:=x;exact ⟨o',items,n,e _ ho',r⟩
theorem TSet.keep{h h':Heap}{a it:Addr}{o:Obj}{vs:Array Value}{ks:Z2}{n:Nat}(x:TSet prog w h a ks n)(ho:h.get? it=some o)(hd:o.data=.fields vs)(e:∀b o,b≠it->h.get? b=some o->h'.get? b=some o):TSet prog w h' a ks n/\a≠it:=by
 obtain ⟨o',es,ep,t,e1,e2,e3,e4,e5,e6,e7⟩:=x.ex
 have hne:a≠it:=by
  rintro rfl;rw [ho] at e1;cases e1;rw [hd] at e3;cases e3
 have up:∀{k b},TK prog w h k b->TK prog w h' k b:=fun {k b} z=>z.keep fun o q=>e b o (z.ne ho hd) q
 refine ⟨⟨o',es,ep,t,e a o' hne e1,e2,e3,e4,e5,fun x hx=>?_,fun k=>?_⟩,hne⟩
 ·obtain ⟨b,k,q1,q2⟩:=e6 x hx;exact ⟨b,k,q1,up q2⟩
 ·rw [e7 k];constructor
  ·rintro ⟨x,hx,b,q1,q2⟩;exact ⟨x,hx,b,q1,up q2⟩
  ·rintro ⟨x,hx,b,q1,q2⟩;obtain ⟨b',k',q3,q4⟩:=e6 x hx
   have:b'=b:=by rw [q3] at q1;injection q1
   subst this;have:=(up q4).inj q2;rw [<-this];exact ⟨x,hx,b',q1,q4⟩
def zfp:entryFor table "set.update.loop" = some Builtin.«set.update.loop»:=PyProof.Rows.F.entry_set_update_loop
def zdF:plainId "set.update.loop" = true:=PyProof.Rows.F.plain_set_update_loop
theorem zkH{S I ax:Addr}{its:Array Value}{keys:Z2}(hh:A.in1.handled=none)(hu:A.in1.units<cLine)(hlen:its.size=keys.length)(h17:keys.length<=18)(hSax:S≠ax)(hIax:ax≠I) :
  ∀(k i:Nat) (s:Shared) (c:Nat),keys.length-i=k->i<=keys.length->s.heap.IsTupleIter I ax i->s.heap.IsTuple ax its->(∀(j:Nat) (v:Value),its[j]?=some v->∃b,v=.ref b/\TK prog w s.heap (keys.getD j []) b) →
   TSet prog w s.heap S (keys.take i) c->zoT (keys.take i) c →
   (∀h' tk c',(∀b o,b≠S->b≠I->s.heap.get? b=some o->h'.get? b=some o)->TSet prog w h' S keys c'->zoT keys c'->R (.ok (.ret .none)) { s with heap:=h',toks:=tk }) →
   codeAny (model prog w) A (.builtin "set.update.loop" ⟨[.ref S,.ref I],[]⟩) R s:=by
 intro k
 induction k with
 | zero =>
  intro i s c hk hi it tp tks ts cn hR
  have e:i=keys.length:=by omega
  refine ybN zfp ?_;rw [ybW zdF _];show wpAny _ A.in1 (pyNext (.ref I) >>= _) _ _ s;refine yaa (wpAny_pyNext_tuple_end hh it tp (Array.getElem?_eq_none (by rw [hlen,e];exact yak _)) fun h' eb=>?_);obtain ⟨o,e1,e2,e3⟩:=id it;rw [e,ybr] at ts cn;show wpAny _ A.in1 (ret Value.none) _ _ _;exact yaf (hR h' s.toks c (fun b o _ hb q=>eb b o hb q) (ts.keep e1 e3 fun b o hb q=>eb b o hb q).1 cn)
 | succ k ih =>
  intro i s c hk hi it tp tks ts cn hR
  have hlt:i<keys.length:=by omega
  have hlt':i<its.size:=by omega
  refine ybN zfp ?_;rw [ybW zdF _];show wpAny _ A.in1 (pyNext (.ref I) >>= _) _ _ s;refine yaa (wpAny_pyNext_tuple_item it tp (x:=its[i]) (yaB hlt') fun h1 it1 sb1=>?_);obtain ⟨o,e1,e2,e3⟩:=id it;obtain ⟨ts1,hSI⟩:=ts.keep (h':=h1) e1 e3 fun b o hb q=>(sb1.2 b hb).trans q
  obtain ⟨b,eb,tk0⟩:=tks i its[i] (yaB hlt');have tk1:∀{k' b'},TK prog w s.heap k' b'->TK prog w h1 k' b':=fun {k' b'} z=>z.keep fun o q=>(sb1.2 b' (z.ne e1 e3)).trans q
  rw [eb];show wpAny _ A.in1 (holding [Value.ref b] (setAdd S (.ref b)) >>= _) _ _ _
  have hc:c<=17:=by have:=cn.1.1;rw [ybd] at this;omega
  refine yaa (yba (znp (s:={ s with heap:=h1 }) ts1 (tk1 tk0) hu hc fun h2 r sb2 ts2=>?_))
  have ek:keys.take i++[keys.getD i []]=keys.take (i+1):=by
   rw [ybR,yaj hlt]
   have:keys.getD i []=keys[i]:=by simp [List.getD,hlt]
   rw [this];rfl
  rw [ek] at ts2;obtain ⟨oS,esS,epS,tS,f1,f2,f3,_⟩:=ts1.ex;have tk2:∀{k' b'},TK prog w s.heap k' b'->TK prog w h2 k' b':=fun {k' b'} z=>(tk1 z).but f1 f3 sb2
  refine yaf ⟨plainId_quiet zdF _,?_⟩;refine ih (i+1) _ _ (by omega) hlt (it1.at fun o q=>(sb2.2 I (Ne.symm hSI)).trans q) ?_ (fun j v hv=>?_) ts2 (by rw [<-ek];exact zkk cn _) fun h' tk c' kp ts' cn'=>?_
  ·exact (tp.at fun o q=>(sb1.2 ax hIax).trans q).at fun o q=>(sb2.2 ax (Ne.symm hSax)).trans q
  ·obtain ⟨b',eb',z⟩:=tks j v hv;exact ⟨b',eb',tk2 z⟩
  ·exact hR h' tk c' (fun b' o hb1 hb2 q=>kp b' o hb1 hb2 ((sb2.2 b' hb1).trans ((sb1.2 b' hb2).trans q))) ts' cn'
end
end ST
namespace PySem
def F.sub_tup_set:isSubtype (.type "tuple") (.type "set")=pure false:=by rw [isSubtype_type];kernel_rfl
def F.sub_tup_frozenset:isSubtype (.type "tuple") (.type "frozenset")=pure false:=by rw [isSubtype_type];kernel_rfl
section
variable{prog:Program}{w:World}{A:Around}{E:Z5}{s:Shared}
def zma(led:Bool)(h:Heap)(a:Addr)(e:h.get? a=some { cls:=.type "set",dict:=none,data:=.set #[] 0 (.fresh 0 0 led) }):ST.TSet prog w h a [] 0:=by
 refine ⟨_,#[],0,.fresh 0 0 led,e,⟨rfl,rfl,rfl⟩,rfl,⟨.inl rfl,rfl,rfl,?_,?_,(by show 0*5<7*3;decide),?_⟩,rfl,fun x hx=>by simp at hx,fun k=>?_⟩
 ·exact List.Pairwise.nil
 ·intro j hj;exact absurd hj (by simp [SetTable.fresh])
 ·intro p hp;exact absurd hp (by simp [SetTable.fresh])
 ·simp
theorem zd8{l:Addr}{its:Array Value}{keys:Z2}{Q:Z5}(hh:A.handled=none)(hu:A.units+8<cLine)(tp:s.heap.IsTuple l its)(hlen:its.size=keys.length)(h18:keys.length<=18)
  (tks:∀(j:Nat) (v:Value),its[j]?=some v->∃b,v=.ref b/\ST.TK prog w s.heap (keys.getD j []) b)
  (h:∀h' tk c,(∀b o,s.heap.get? b=some o->h'.get? b=some o)->ST.TSet prog w h' s.heap.objs.size keys c->ST.zoT keys c->Q (.ref s.heap.objs.size) { s with heap:=h',toks:=tk }) :
  wpAny (model prog w) A (call (.type "set") [.ref l]) Q E s:=by
 obtain ⟨cc,tl,hmro⟩:=ybO.mro;have hmade:=ybO.made;have hsub:=ybO.sub;have h1:=ybO.notType;have h2:=ybO.canCreate;have hct:=F.typeCall_set_1 (.ref l);refine wpAny_call (codeAny_of_tree ?_);show wpAny _ _ (callAny (.type "set") _) _ _ _;refine yaf ⟨Code.quiet_builtin _ (by decide +kernel),ybN F.entry_type_call ?_⟩;rw [Around.under_plain (weight_type_call_type "set" [.ref l] []) rfl]
 repeat (any_goals (first | assumption | wp_step))
 refine ycF (code_set_new_1 (.ref l) (E:=E) (Q₁:=fun obj s1=>∃led:Bool,obj=.ref s.heap.objs.size/\s1={ s with heap:=s.heap.push { cls:=.type "set",dict:=none,data:=.set #[] 0 (.fresh 0 0 led) } }) fun led=>⟨led,rfl,rfl⟩) ?_;intro r s1 hr
 match r,hr with
 | .error e,hr=>exact hr
 | .ok .next,hr=>exact hr.elim
 | .ok .brk,hr=>exact hr.elim
 | .ok .cont,hr=>exact hr.elim
 | .ok (.ret obj),hr =>
  obtain ⟨led,rfl,rfl⟩:=hr;generalize hG:s.heap.push { cls:=.type "set",dict:=none,data:=.set #[] 0 (.fresh 0 0 led) }=G;have hS:G.get? s.heap.objs.size=some { cls:=.type "set",dict:=none,data:=.set #[] 0 (.fresh 0 0 led) }:=hG ▸ yat _ rfl;have upG:∀b o,s.heap.get? b=some o->G.get? b=some o:=fun b o e=>hG ▸ yae _ e
  have hGz:G.objs.size=s.heap.objs.size+1:=by rw [<-hG,ybi]
  have hT:Shared.TypeIs { s with heap:=G } (.ref s.heap.objs.size) "set":=⟨_,hS,rfl⟩;have hli:=ybO.init.lookup;have hbi:=ybO.init.bind (.ref s.heap.objs.size)
  repeat (any_goals (first | assumption | wp_step))
  refine ycF (ycs (R:=wants (fun r s2=>r=.none/\∃h' tk c,s2={ s with heap:=h',toks:=tk }/\(∀b o,s.heap.get? b=some o->h'.get? b=some o)/\ST.TSet prog w h' s.heap.objs.size keys c/\ST.zoT keys c) E) ybO.init.plain F.entry_set_init (check_set_init_1 hT ?_)) ?_
  ·obtain ⟨ol,hol,hcl,nl,hdl⟩:=tp;have hol':G.get? l=some ol:=upG l ol hol;obtain ⟨ocls,odict,odata,oslots⟩:=ol;simp only at hcl hdl;subst hcl;subst hdl;have hsls:=F.sub_tup_set;have hslf:=F.sub_tup_frozenset
   have hne:(Value.type "tuple" == Value.type "dict")=false:=by decide
   have tp1:G.IsTuple l its:=⟨_,hol',rfl,nl,rfl⟩;unfold Builtin.«set.__init__» noKeywords Builtin.Frozenset.updateFrom;generalize hPI:pyIter=PI
   wp_walk
   subst hPI;refine yb3 tp1 ?_;refine yaa (wpAny_runValue ?_);have hlS:l<s.heap.objs.size:=yap hol;have upI:∀b o,G.get? b=some o->(G.push { cls:=.type "tuple_iterator",data:=.fields #[.ref l,.int 0 0] }).get? b=some o:=fun b o e=>yae _ e
   refine ST.zkH (its:=its) (keys:=keys) (ax:=l) (by simp [hh]) ?_ hlen h18 (yaX hlS) (by rw [hGz];exact yau (ycg hlS)) keys.length 0 _ 0 (by omega) (yaP _) ⟨_,yat _ rfl,rfl,rfl⟩ (tp1.at fun o e=>upI l o e) (fun j v hv=>?_) ?_ ?_ ?_
   ·show A.in1.in1.in1.units<cLine;have:A.in1.in1.in1.units=A.units+3:=rfl;omega
   ·obtain ⟨b,eb,z⟩:=tks j v hv;exact ⟨b,eb,z.keep fun o e=>upI b o (upG b o e)⟩
   ·rw [List.take_zero];exact zma led _ _ (upI _ _ hS)
   ·rw [List.take_zero];exact ST.zlV
   ·intro h' tk c kp ts cn;refine yaf ?_;show wpAny _ _ (ret Value.none) _ _ _;refine yaf ⟨rfl,h',tk,c,rfl,fun b o e=>kp b o (yau (yap e)) ?_ (upI b o (upG b o e)),ts,cn⟩;rw [hGz];exact yau (ycg (yap e))
  ·intro r2 s2 hr2
   match r2,hr2 with
   | .error e,hr2=>exact hr2
   | .ok .next,hr2=>exact hr2.elim
   | .ok .brk,hr2=>exact hr2.elim
   | .ok .cont,hr2=>exact hr2.elim
   | .ok (.ret v),hr2 =>
    obtain ⟨rfl,h',tk,c,rfl,kp,ts,cn⟩:=hr2
    repeat (any_goals (first | assumption | wp_step))
    exact h h' tk c kp ts cn
end
end PySem
namespace L2
open PySem PySem.Spec PyProof.Rows
section
variable{X:Cx}{a b c:Expr}{ta tb tc:TE}{pos:Pos}
def zg0:zb9 X (.builtin "isinstance") (fun xs H Q=>∃x t c k,xs=[x,.ty c]/\TyOf X.K H x t/\PySem.W.kitOne X.K t (.type c)=some k/\Q (.bl k) H):=by
 intro pins s σ H xs us Q I r h;obtain ⟨x,t,c,k,rfl,ty,e,q⟩:=h
 cases r with
 | cons r1 rr =>
  cases rr with
  | cons r2 r3 =>
   cases r3;cases (show _=Value.type c from r2);exact zjL I r1 ty e fun tk=>⟨.bl k,H,I.tok tk,rfl,q⟩
def zeQ(bs:List Bool):((List.range bs.length).all fun i=>(bs[i]?).getD true)=bs.all id:=by
 rw [Bool.eq_iff_iff,yaS,yaS];constructor
 ·intro h b hb;obtain ⟨i,hi,e⟩:=ybV.mp hb;have:=h i (ybv.mpr hi);rwa [yaj hi,e] at this
 ·intro h i hi;have hi':=ybv.mp hi;rw [yaj hi'];exact h _ (List.getElem_mem hi')
def zg1(hc:X.calm=true):zb9 X (.builtin "all") (fun xs H Q=>∃(p:Addr) (bs:List Bool),xs=[.ref p]/\SqL X.K H p (bs.map V.bl)/\Q (.bl (bs.all id)) H):=by
 intro pins s σ H xs us Q I r h;obtain ⟨p,bs,rfl,hq,q⟩:=h;obtain ⟨u,rfl,rx⟩:=zdx r;cases rx;obtain ⟨its,rv,pl,hz⟩:=I.list hq;have hl:=pl.isList
 have hlt:p<s.heap.objs.size:=by obtain ⟨_,e,_⟩:=hl;exact yap e
 have hn:its.length=bs.length:=by have:=rv.length;rw [yac] at this;exact this.symm
 refine call_all_walk (ycJ hl ?_);refine ⟨s.heap.objs.size,[s.heap.objs.size,p],[s.heap.objs.size],its.toArray.size,_,_,fun i=>(bs[i]?).getD true,rfl,Walks.list (A:=X.A.in1) (I.ok.hd hc) _ p (yau hlt) its.toArray,⟨⟨_,yat _ rfl,rfl,rfl⟩,hl.push _⟩,fun i v s' Q' E' hP hQ=>?_,fun h' tk hk=>?_⟩
 ·have hv:its[i]?=some v:=by simpa using hP
  have hi:i<bs.length:=by rw [<-hn];exact (yam.mp hv).1
  obtain ⟨u,hu,ru⟩:=rv.get (i:=i) (x:=.bl bs[i]) (by rw [yav,yaj hi];rfl);rw [hv] at hu;cases hu;cases (show v=Value.bool bs[i] from ru);refine ya7 ?_;have hQ':Q' ((bs[i]?).getD true) s':=hQ;rwa [yaj hi] at hQ'
 ·rw [yai,hn,zeQ];refine ⟨.bl _,H,I.kept (t':=tk) fun b o e=>?_,rfl,q⟩;exact hk b o (fun hm=>by rw [yaD.mp hm] at e;exact ya9 _ (yap e)) (yae _ e)
def zgF:OpR X (compareOp .IsNot) (fun x y H Q=>∃i j,x=.bl i/\y=.bl j/\Q (.bl (!decide (i=j))) H):=by
 intro pins s σ H x y v u Q I rx ry h;obtain ⟨i,j,rfl,rfl,q⟩:=h;cases rx;cases ry;show wpAny _ _ (isSame (Value.bool i) (Value.bool j) >>= fun r=>pure (Value.bool (!r))) _ _ s;refine yaa (wpAny_isSame_plain (by rfl) (yaf ?_));refine ⟨.bl (!decide (i=j)),H,I,?_,q⟩;show _=Value.bool _;congr 1
 cases i<;>cases j<;>rfl
theorem zep{prog:Program}{w:World}:∀{k:List Int} {its:List Value},Vals (k.map V.int) its->ItemsAre (intKind prog w) k its
 | [],_,.nil=>.nil
 | i::k,_,.cons r t=>by
  obtain ⟨t',rfl⟩:=r;exact .cons (by show Value.isInt i (.int i t')=true;simp [Value.isInt]) (zep t)
def Inv.key{pins:Z3}{σ:St}{H:Hp}{s:Shared}(I:Inv X pins σ H s){p:Addr}{k:List Int}(h:SqT X.K H p (k.map V.int)){prog:Program}{w:World}:ST.TK prog w s.heap k p:=by
 obtain ⟨its,rv,⟨o,e,c,n,d⟩,_⟩:=I.tuple h;exact ⟨o,_,n,e,c,d,zep rv⟩
noncomputable def zgj(K:PySem.W.Frag)(H:Hp)(ys:List V)(keys:Z2):Prop:=Paired (fun (v:V) (k:List Int)=>∃b,v=.ref b/\SqT K H b (k.map V.int)) ys keys
theorem zgj.get{K:PySem.W.Frag}{H:Hp}:∀{ys:List V} {keys:Z2} {its:List Value},zgj K H ys keys->Vals ys its->∀(j:Nat) (v:Value),its[j]?=some v->∃b,v=.ref b/\SqT K H b ((keys.getD j []).map V.int)
 | _,_,_,.nil,.nil,j,v,e=>by simp at e
 | _,_,_,.cons ⟨b,eb,hb⟩ t,.cons r tr,0,v,e=>by
  subst eb;cases r;simp at e;subst e;exact ⟨b,rfl,by simpa using hb⟩
 | _,_,_,.cons _ t,.cons _ tr,j+1,v,e=>by
  obtain ⟨b,h1,h2⟩:=zgj.get t tr j v (by simpa using e);exact ⟨b,h1,by simpa using h2⟩
noncomputable def zhY(a:Addr)(c:Nat)(h:Heap):Prop:=∃o es ep t,h.get? a=some o/\o.ExactSet/\o.data=.set es ep t/\t.fits es.size=true/\es.size=c
def zef(hc:X.calm=true)(hu:X.A.units+8<cLine):zb9 X (.type "set") (fun xs H Q=>∃(p:Addr) (ys:List V) (keys:Z2),xs=[.ref p]/\SqT X.K H p ys/\zgj X.K H ys keys/\keys.length<=18 ∧
  ∀l,H l=none->Q (.ref l) (upd H l (.ext (zhY l (ST.ddN keys))))):=by
 intro pins s σ H xs us Q I r h;obtain ⟨p,ys,keys,rfl,hq,hk,h18,q⟩:=h;obtain ⟨u,rfl,rx⟩:=zdx r;cases rx;obtain ⟨its,rv,pl,hz⟩:=I.tuple hq
 have hn:its.toArray.size=keys.length:=by rw [yai,<-rv.length];exact hk.length
 refine zd8 (I.ok.hd hc) hu (show s.heap.IsTuple p its.toArray from pl) hn h18 (fun j v hv=>?_) fun h' tk c kp ts cn=>?_
 ·obtain ⟨b,e,hb⟩:=hk.get rv j v (by simpa using hv);exact ⟨b,e,I.key hb⟩
 ·obtain ⟨o,es,ep,t,e1,e2,e3,e4,e5,_⟩:=ts.ex;refine ⟨.ref s.heap.objs.size,_,I.laid (t':=tk) (o:=.ext (zhY s.heap.objs.size (ST.ddN keys))) kp (yak _) ?_,rfl,q _ (I.hok.fresh (yak _))⟩;exact ⟨⟨o,es,ep,t,e1,e2,e3,e4.fits,by rw [e5,cn.2]⟩,⟨o,e1⟩,fun h1 h2 ⟨o,es,ep,t,f1,f⟩ k=>⟨o,es,ep,t,k o f1,f⟩⟩
theorem zff:zb9 X (.builtin "len") (fun xs H Q=>∃a c,xs=[.ref a]/\H a=some (.ext (zhY a c))/\c<=1000/\Q (.int c) H):=by
 intro pins s σ H xs us Q I r h;obtain ⟨a,c,rfl,ha,hc,q⟩:=h;obtain ⟨u,rfl,rx⟩:=zdx r;cases rx;obtain ⟨⟨o,es,ep,t,e1,e2,e3,e4,e5⟩,_⟩:=I.hok a _ ha;refine call_len_set e1 e2 e3 e4 ?_ ?_
 ·have:(es.size:Int)<=1000:=by rw [e5];omega
  exact Int.lt_of_le_of_lt this (by decide)
 ·exact ⟨.int c,H,I.tok _,⟨_,by rw [e5]⟩,q⟩
def zlp:OpR X (binaryOp .Add) (fun x y H Q=>∃(a b:Addr) (ys:List V),x=.ref a/\y=.ref b/\SqT X.K H a []/\SqT X.K H b ys/\Q (.ref b) H):=by
 intro pins s σ H x y v u Q I rx ry h;obtain ⟨a,b,ys,rfl,rfl,ha,hb,q⟩:=h;cases rx;cases ry;obtain ⟨its,r1,p1,_⟩:=I.tuple ha;obtain ⟨its2,r2,p2,_⟩:=I.tuple hb;cases r1;obtain ⟨⟨cls,dd,data,sl⟩,ho,hc,n,hd⟩:=id p1;obtain ⟨⟨cls2,dd2,data2,sl2⟩,ho2,hc2,n2,hd2⟩:=id p2;simp only at hc hd hc2 hd2;subst hc hd hc2 hd2
 exact concat_meets ⟨_,ho,rfl⟩ ⟨_,ho2,rfl⟩ noFill_tuple_add seq_tuple_add ycd yb6 (ybZ _ _)
  (tuple_addW0 a b ([]:List Value).toArray its2.toArray n n2 dd dd2 sl sl2 (by rfl)) ⟨ho,ho2,⟨.ref b,H,I,rfl,q⟩⟩
end
end L2
namespace PySem
open PySem.Spec PyProof.Rows
end PySem
namespace L2
open PySem PySem.Spec PyProof.Rows
inductive D where
 | non | bl (b:Bool) | int (i:Int) | str (x:Str) | tup (l:List D) | lst (l:List D)
end L2
namespace HT
open PySem PySem.Spec PyProof.Rows L2
section
variable{prog:Program}{w:World}{A:Around}{E:Z5}{s:Shared}
def zdc{t sl:Addr}{items:Array Value}{vl vu:Value}{lo hi:Option Int}{Q:Z5}(ht:IsTup s.heap t items)(hs:s.heap.IsSliceOf sl vl vu .none)(pl:IsPart vl lo)(pu:IsPart vu hi)
  (h1:sIx items.size 0 lo=0) (h2:sIx items.size items.size hi=items.size) (h:Q (.ref t) s):wpAny (model prog w) A (getItem (.ref t) (.ref sl)) Q E s:=by
 obtain ⟨os,hos,hcs,hds⟩:=id hs;have hTs:s.TypeIs (.ref sl) "slice":=⟨os,hos,hcs⟩;unfold getItem
 try with_reducible refine yba ?_
 first | refine yaa (yaf ?_) | skip
 refine yaa (wpAny_sequenceKey ht.typeIs (by decide) ?_)
 refine yaa (ybb (name:=Str.ofString "__getitem__") ht.typeIs yaO
  (ybq yaO ht.typeIs entry_tuple_getitem ?_ (args_tuple_getitem _ _)))
 show wpAny _ _ (Builtin.Tuple.tupleItemsOf (.ref t) >>= _) _ _ s;refine yaa (tupleItemsOf_ ht ?_);refine yaa (yci hTs ?_);rw [if_pos (by decide)];refine yaa (zca hs pl pu ?_);rw [h1,h2];show wpAny _ _ (if ((((0:Nat):Int) == 0&&(1:Int) == 1&&(items.size-0) == items.size)=true) then _ else _) _ _ s;rw [if_pos (by simp)];unfold Builtin.Tuple.tupleIsExact;refine yaa (yaa (yci ht.typeIs (yaf ?_)));simp only [ybD,ybK];refine yaa (ycV ?_)
 first
  | exact yaf ⟨_,rfl,yaf h⟩
  | exact yaa (yaf (yaf ⟨_,rfl,yaf h⟩))
end
end HT
namespace L2
open PySem PySem.Spec PyProof.Rows
def zh4:SlR X (fun x lo hi H Q=>∃(a:Addr) (xs:List V),x=.ref a/\SqT X.K H a xs/\HT.sIx xs.length 0 lo=0/\HT.sIx xs.length xs.length hi=xs.length/\Q (.ref a) H):=by
 intro pins s σ H x v vl vu lo hi sl Q I rx hs pl pu h;obtain ⟨a,xs,rfl,hx,h1,h2,q⟩:=h;cases rx;obtain ⟨its,r,ht,hz⟩:=I.tuple hx
 have hlen:its.toArray.size=xs.length:=by rw [yai];exact r.length.symm
 refine ⟨"tuple",_,yaO.lookup,ht.typeIs,?_⟩;exact HT.zdc ht hs pl pu (by rw [hlen];exact h1) (by rw [hlen];exact h2) ⟨.ref a,H,I,rfl,q⟩
mutual
def D.py:D->PyData
 | .non=>.none
 | .bl b=>.bool b
 | .int i=>.int i
 | .str x=>.str x
 | .tup l=>.tuple (D.pys l)
 | .lst l=>.list (D.pys l)
def D.pys:List D->List PyData
 | []=>[]
 | d::l=>d.py::D.pys l
end
mutual
def D.fit:Nat->D->Bool
 | _,.non=>true
 | _,.bl _=>false
 | _,.int _=>true
 | _,.str x=>PyData.strOk x
 | 0,.tup _=>false
 | n+1,.tup l=>D.fits n l
 | 0,.lst _=>false
 | n+1,.lst l=>D.fits n l
def D.fits:Nat->List D->Bool
 | _,[]=>true
 | n,d::l=>d.fit n&&D.fits n l
end
theorem D.fits_iff:∀{l:List D},D.fits n l=true↔∀d∈l,d.fit n=true
 | []=>by simp [D.fits]
 | d::l=>by simp [D.fits,D.fits_iff (l:=l)]
mutual
theorem D.lay:∀{n:Nat} {d:D},d.fit n=true->d.py.canLay0=true/\d.py.depth<=n
 | _,.non,_=>⟨rfl,yaP _⟩
 | _,.bl _,h=>by simp [D.fit] at h
 | _,.int _,_=>⟨rfl,yaP _⟩
 | _,.str x,h=>⟨by simpa [D.fit,D.py,PyData.canLay0] using h,yaP _⟩
 | 0,.tup _,h=>by simp [D.fit] at h
 | 0,.lst _,h=>by simp [D.fit] at h
 | n+1,.tup l,h=>by
  have h':D.fits n l=true:=by simpa [D.fit] using h
  obtain ⟨a,b⟩:=D.lays h';exact ⟨by simpa [D.py,PyData.canLay0] using a,by simp only [D.py,PyData.depth];omega⟩
 | n+1,.lst l,h=>by
  have h':D.fits n l=true:=by simpa [D.fit] using h
  obtain ⟨a,b⟩:=D.lays h';exact ⟨by simpa [D.py,PyData.canLay0] using a,by simp only [D.py,PyData.depth];omega⟩
theorem D.lays:∀{n:Nat} {l:List D},D.fits n l=true->PyData.canLayAll0 (D.pys l)=true/\PyData.depthAll (D.pys l)<=n
 | _,[],_=>⟨rfl,yaP _⟩
 | n,d::l,h=>by
  simp only [D.fits,yab] at h;obtain ⟨a,b⟩:=D.lay h.1;obtain ⟨c,e⟩:=D.lays h.2;exact ⟨by simp [D.pys,PyData.canLayAll0,a,c],by simp only [D.pys,PyData.depthAll];omega⟩
end
section
variable{X:Cx}
def zgB(hl:d.canLay0=true)(r:Reads h v d as):SeqAt.readOf h v=d:=by
 have hx:∃d as,Reads h v d as:=⟨d,as,r⟩;unfold SeqAt.readOf;rw [dif_pos hx];obtain ⟨bs,rb⟩:=hx.choose_spec;exact (SeqAt.Reads.unique _ _ _ _ _ hl r rb).symm
end
def CXE(P:Program)(w:World):CXT:=fun outer H s E e s'=>∃(a:Addr) (cls a0:Value) (H':Hp) (B:Heap),e=.ref a/\Heap.FlyingW B outer a cls a0 s'.heap ∧
 (∀b o,s'.heap.get? b=some o->H' b≠none->B.get? b=some o)/\(∀b o,s.heap.get? b=some o->H b=none->b ∉ frs outer->B.get? b=some o) ∧
 (∀b o,s.heap.get? b=some o->b ∉ frs outer->∃o',B.get? b=some o') ∧
 s'.os=s.os/\AllBare s'.gens/\Un (frs outer) [] H H' s.heap s'.heap/\HOk P w H' s'.heap/\E cls none H'
def zaG.has(x:zaG P w H h a o):∃ob,h.get? a=some ob:=by
 cases o with
 | lst xs=>obtain ⟨_,_,_,_,e⟩:=x;exact ⟨_,e⟩
 | tup xs=>obtain ⟨_,_,_,ob,e,_⟩:=x;exact ⟨_,e⟩
 | dK kvs=>obtain ⟨_,_,_,_,o,_,_,e,_⟩:=x;exact ⟨_,e⟩
 | dT kvs=>obtain ⟨_,_,_,_,o,_,_,e,_⟩:=x;exact ⟨_,e⟩
 | set S n=>obtain ⟨o,_,_,_,e,_⟩:=x;exact ⟨_,e⟩
 | ins C dx fs=>obtain ⟨_,_,_,e,_⟩:=x;exact ⟨_,e⟩
 | own y=>exact x
 | xd fs=>obtain ⟨_,⟨_,_,_,e,_⟩,_⟩:=x;exact ⟨_,e⟩
 | rng lo hi=>obtain ⟨_,_,_,e⟩:=x;exact ⟨_,e⟩
 | frz ob u=>obtain ⟨e,_⟩:=x;exact ⟨_,e⟩
 | tbl ps=>exact ⟨_,(show h.get? a=some _ from x)⟩
 | met f y=>exact ⟨_,(show h.get? a=some _ from x)⟩
 | ext φ=>obtain ⟨_,e,_⟩:=x;exact e
def HOk.same(x:HOk P w H h)(k:∀b u,h.get? b=some u->H b≠none->h'.get? b=some u):HOk P w H h':=fun a o e =>
 (x a o e).stay (fun b u hb q=>k b u q (hb.elim (fun z=>by rw [z,e];exact yaG _) (fun z=>by rw [z];exact yaG _))) (fun _ q=>q) fun _ _ q=>q
section
variable{X:Cx}{pins:Z3}{σ:St}{H:Hp}{s:Shared}{M:Model}
def zlJ(l:List Env):∀env∈l,∀b,env.frame=some b->b∈frs l:=fun env he b hb=>ybt.mpr ⟨env,he,hb⟩
def zif(I:Inv X pins σ H s)(hx:X.ex=[])(hs:X.stack=X.env::X.outer)(hf:X.env.frame=some X.env.locals)(mk:Heap.MadeExcOf s.heap h' e cls vs)(q:E cls none H) :
  wpAny M X.A (leaving X.env (.ref e)) (fun _ s''=>CXE X.prog X.w X.outer X.H₀ X.s₀ E (.ref e) s'') Er { s with heap:=h' }:=by
 have hfr:X.A.frames=some (X.env::X.outer):=by rw [<-hs];exact I.ok.frames
 have hst:s.heap.FunFrames X.base (X.env::X.outer):=by rw [<-hs];exact I.stack
 refine wpAny_leaves_madeW (base:=PySem.W.hideAll s.heap (frs (X.env::X.outer))) hfr hf (fun b o z=>PySem.W.of_hideAll _ z) (PySem.W.funFrames_hide hst (zlJ _)) mk fun h2 t fl tup _ up=>?_
 have inB:∀b o,s.heap.get? b=some o->b ∉ frs (X.env::X.outer)->(PySem.W.hideAll s.heap (frs (X.env::X.outer))).get? b=some o:=fun b o z n=>PySem.W.hideAll_get _ z n
 have sub:∀b,b∈frs (X.env::X.outer)->b=X.env.locals\/b∈X.fs:=fun b hb=>by
  rw [<-hs] at hb;exact yao.mp (I.stkSub b hb)
 have fre:∀b,b∈frs (X.env::X.outer)->H b=none:=fun b hb=>by rw [<-hs] at hb;exact I.stkFree b hb
 have old:∀b o,X.s₀.heap.get? b=some o->b ∉ frs X.outer->b ∉ frs (X.env::X.outer):=fun b o z n hb=>by
  rcases sub b hb with r | r
  ·exact absurd (yal (yap z) I.ok.above) (by rw [r];exact ya9 _)
  ·exact n r
 have nx:∀b:Addr,b ∉ X.ex:=fun b z=>by rw [hx] at z;cases z
 have trk:∀b o,s.heap.get? b=some o->H b≠none->h2.get? b=some o:=fun b o z n=>fl.1 b o (inB b o z fun hb=>n (fre b hb))
 have hok2:HOk X.prog X.w H h2:=I.hok.same trk
 have slt:∀b o,s.heap.get? b=some o->b∈frs X.stack->∃sl,h2.get? b=some { o with slots:=sl }:=fun b o z hb=>by
  obtain ⟨_,o',z',hd⟩:=I.stack.mem hb;rw [z] at z';cases z';exact up b o (mk.keeps b o z) hd
 have un2:Un (frs X.stack) [] H H s.heap h2:=⟨fun b o z n hb _=>fl.1 b o (inB b o z (by rw [<-hs];exact hb)),fun b o z n hb _=>slt b o z hb,fun b o z n _=>n,
  fun b o z _=>by
   by_cases hb:b∈frs X.stack
   ·obtain ⟨sl,r⟩:=slt b o z hb;exact ⟨_,r⟩
   ·exact ⟨o,fl.1 b o (inB b o z (by rw [<-hs];exact hb))⟩,
  fun _ _ z=>z,fun _ _ _ z=>z,fun _ ps z=>⟨#[],by rw [z,Array.append_empty]⟩⟩
 have J:=I.call (g':=s.gens) (t':=s.toks) (d':=s.drawn) (ch:=[]) un2 hok2 I.bare (fun b z=>absurd z (by simp));refine ⟨e,cls,.ref t,H,_,rfl,fl,fun b o z n=>?_,fun b o z n hb=>?_,fun b o z hb=>?_,J.os,J.bare,?_,J.hok,q⟩
 ·cases k:H b with
  | none=>exact absurd k n
  | some u =>
   obtain ⟨o',z'⟩:=(I.hok b u k).has;have:=trk b o' z' n;rw [show h2.get? b=some o from z] at this;cases this;exact inB b o z' fun hb=>n (fre b hb)
 ·exact inB b o (I.base.keep b o z n hb (nx b)) (old b o z hb)
 ·obtain ⟨o',z'⟩:=I.base.there b o z (nx b);exact ⟨o',inB b o' z' (old b o z hb)⟩
 ·have:=J.base;rwa [hx] at this
def zlA(I:Inv X pins σ H s)(hx:X.ex=[])(hs:X.stack=X.env::X.outer)(hf:X.env.frame=some X.env.locals)(q:CXE X.prog X.w X.stack H s E e s') :
  wpAny M X.A (leaving X.env e) (fun _ s''=>CXE X.prog X.w X.outer X.H₀ X.s₀ E e s'') Er s':=by
 have hfr:X.A.frames=some (X.env::X.outer):=by rw [<-hs];exact I.ok.frames
 obtain ⟨a,cls,a0,H',B,rfl,fl,c1,c2,c3,os,bare,un,hok,q⟩:=q
 have fl':Heap.FlyingW B (X.env::X.outer) a cls a0 s'.heap:=by rw [<-hs];exact fl
 refine wpAny_leaves_onW hfr hf fl' fun h2 fl2 up=>?_
 have sub:∀b,b∈frs X.stack->b=X.env.locals\/b∈X.fs:=fun b hb=>yao.mp (I.stkSub b hb)
 have old:∀b o,X.s₀.heap.get? b=some o->b ∉ frs X.outer->b ∉ frs X.stack:=fun b o z n hb=>by
  rcases sub b hb with r | r
  ·exact absurd (yal (yap z) I.ok.above) (by rw [r];exact ya9 _)
  ·exact n r
 have nx:∀b:Addr,b ∉ X.ex:=fun b z=>by rw [hx] at z;cases z
 have trk:∀b o,s'.heap.get? b=some o->H' b≠none->h2.get? b=some o:=fun b o z n=>fl2.1 b o (c1 b o z n)
 have hok2:HOk X.prog X.w H' h2:=hok.same trk
 have slt:∀b o,s.heap.get? b=some o->H b=none->b∈frs X.stack->∃sl,h2.get? b=some { o with slots:=sl }:=fun b o z n hb=>by
  obtain ⟨_,o',z',hd⟩:=I.stack.mem hb;rw [z] at z';cases z';obtain ⟨sl,r⟩:=un.slot b o z n hb (by simp);obtain ⟨sl',r'⟩:=up b ({ o with slots:=sl }:Obj) r hd;exact ⟨sl',r'⟩
 have un2:Un (frs X.stack) [] H H' s.heap h2:=⟨fun b o z n hb _=>fl2.1 b o (c2 b o z n hb),fun b o z n hb _=>slt b o z n hb,un.free,
  fun b o z _=>by
   by_cases hb:b∈frs X.stack
   ·obtain ⟨sl,r⟩:=slt b o z (I.stkFree b hb) hb;exact ⟨_,r⟩
   ·obtain ⟨o',r⟩:=c3 b o z hb
    exact ⟨o',fl2.1 b o' r⟩,
  un.tups,un.frzs,un.tbls⟩
 have J:=I.call (g':=s'.gens) (t':=s'.toks) (d':=s'.drawn) (ch:=[]) un2 hok2 bare (fun b z=>absurd z (by simp));refine ⟨a,cls,a0,H',B,rfl,fl2,fun b o z n=>?_,fun b o z n hb=>?_,fun b o z hb=>?_,os.trans I.os,bare,?_,J.hok,q⟩
 ·cases k:H' b with
  | none=>exact absurd k n
  | some u =>
   obtain ⟨o',z'⟩:=(hok b u k).has;have:=trk b o' z' n;rw [show h2.get? b=some o from z] at this;cases this;exact c1 b o z' n
 ·exact c2 b o (I.base.keep b o z n hb (nx b)) (I.base.free b o z n (nx b)) (old b o z hb)
 ·obtain ⟨o',z'⟩:=I.base.there b o z (nx b);exact c3 b o' z' (old b o z hb)
 ·have:=J.base;rwa [hx] at this
end
def zs5{P:Program}{K:PySem.W.Frag} :
  zrM (CXE P w) (zkD (CXE P w) P w K mg base N qual scope f cd A outer s H E) E:=fun pins σ H1 s1 e s' I q =>
 zlA (X:=zkD (CXE P w) P w K mg base N qual scope f cd A outer s H E) I rfl rfl rfl q
def zgQ{K:PySem.W.Frag}{h:Heap}(k:K.In h)(z:PySem.W.excIn K C bmB nid=true) :
  ∃bm N nm qn bs hd sn sub ab col dd c0 c1 c2 c3 c5 mN,h.get? C=some (excClassObj nm qn C N bs bm hd sn sub ab col dd c0 c1 c2 c3 c5 nid)/\h.Ns N mN/\mN "__init__" = none/\OwnTail h bmB bm:=by
 unfold PySem.W.excIn at z;split at z
 case h_2=>cases z
 case h_1 dd cd sl ho =>
  split at z
  case h_2=>cases z
  case h_1 D bm c0 c1 c2 c3 n c5 e1 e2 =>
   simp only [yab,ycK,ya8] at z;obtain ⟨⟨⟨⟨⟨z1,z2⟩,z3⟩,z4⟩,z5⟩,z6⟩:=z;subst z1 z2
   have hsl:sl=#[c0,c1,c2,c3,some (.builtin n),c5]:=by
    cases sl with
    | mk l=>exact congrArg Array.mk e2
   have hcd:cd={ cd with mro:=.ref D::bm,hasDel:=false }:=by
    cases cd;simp only at e1 z3;simp only [e1,z3]
   rw [hsl,hcd] at ho;exact ⟨bm,cd.ns,cd.name,_,cd.bases,_,_,_,_,_,dd,c0,c1,c2,c3,c5,_,k _ _ ho,.of_isNs (PySem.W.isNs_of_in k z5),PySem.W.nsMap_none_of_in k z5 z6,PySem.W.tail_of_in k z4⟩
noncomputable def zrL(X:Cx)(E:XK):Prop:=∀(C:Addr) (pins:Z3) (σ:St) (H:Hp) (s:Shared) (e:Addr) (h':Heap) (vs:List Value),Inv X pins σ H s->Heap.MadeExcOf s.heap h' e (.ref C) vs->E (.ref C) none H->X.xe (.ref e) { s with heap:=h' }
def znv{P:Program}{K:PySem.W.Frag} :
  zrL (zkD (CXE P w) P w K mg base N qual scope f cd A outer s H E) E:=fun C pins σ H1 s1 e h' vs I mk q =>
 zif (X:=zkD (CXE P w) P w K mg base N qual scope f cd A outer s H E) I rfl rfl rfl mk q
noncomputable def XP(X:Cx)(pins:Z3)(σ:St)(E:XK)(e:Value)(s':Shared):Prop:=∃H1 s1,Inv X pins σ H1 s1/\CXE X.prog X.w X.stack H1 s1 E e s'
noncomputable abbrev TX:=St->Hp->VK->XK->Prop
def zeW{M:Model}{A:Around}{E:Z5}{K:PySem.W.Frag}{s:Shared}{C D e:Addr}{oe:Obj}{bC bD:List Value}{iC iD:String}{Q:Bool->Shared->Prop}(k:K.In s.heap)(zC:PySem.W.excIn K C bC iC=true)(zD:PySem.W.excIn K D bD iD=true)
  (he:s.heap.get? e=some oe) (hc:oe.cls=.ref C) (hb:bD.contains (.type "BaseException")=true) (up:∃cd d cl sl,K.lookup C=some ⟨cl,d,.cls cd,sl⟩/\cd.mro.contains (.ref D)=true) (q:Q true s):wpAny M A (excMatches (.ref e) (.ref D)) Q E s:=by
 obtain ⟨bm,N,nm,qn,bs,hd,sn,sub,ab,col,dd,c0,c1,c2,c3,c5,mN,o1,o2,o3,o4⟩:=zgQ k zC;obtain ⟨bm',N',nm',qn',bs',hd',sn',sub',ab',col',dd',d0,d1,d2,d3,d5,mN',p1,p2,p3,p4⟩:=zgQ k zD;obtain ⟨cd,d,cl,sl,lk,ct⟩:=up;have o1':=k _ _ lk;rw [o1] at o1';have hcd:=congrArg Obj.data (Option.some.inj o1')
 have hcC:(Value.ref C::bm).contains (.ref D)=true:=by
  injection hcd with h
  rwa [<-h] at ct
 have hcB:(Value.ref D::bm').contains (.type "BaseException")=true:=by rw [yb9,p4.hasType hb,Bool.or_true]
 have f:=tc_notTuple;obtain ⟨h,g,dr,t,os⟩:=s;unfold excMatches
 repeat (first | (with_reducible refine ybn he ?_;rw [hc]) | with_reducible refine ybn p1 ?_ | (with_reducible refine wpAny_isSubtype_exc p1 ?_;rw [hcB]) | (with_reducible refine wpAny_isSubtype_exc o1 ?_;rw [hcC]) | wp_step)
 exact q
section
variable{X:Cx}{pins:Z3}{σ:St}{H:Hp}{s:Shared}
def zou{M:Model}{A:Around}{E:Z5}{i:Nat}{x:Str}{Q:Unit->Shared->Prop}(I:Inv X pins σ H s)(hN:X.N.Nodup)(hi:X.N[i]?=some x)(hk:X.env.scope.names.lookup x=some .local)(hv:∃v,σ[i]?=some (some v))
  (h:∀s',Inv X pins (σ.set i none) H s'->Q () s'):wpAny M A (unbindName X.env x) Q E s:=by
 obtain ⟨m,hn,hl⟩:=id I.loc
 have hcls:(X.env.scope.kind == .class||(X.env.scope.kind == .module&&X.env.locals != X.env.globals))=false:=by rw [I.ok.kind];rfl
 obtain ⟨v,hv⟩:=hv;obtain ⟨u,r,lk⟩:=hl i x v hi hv (.inl hk)
 have hm:m x=some u:=by
  rcases lk with ⟨_,z⟩ | ⟨z,_⟩
  ·exact z
  ·have z:X.env.scope.names.lookup x=some .cell\/X.env.scope.names.lookup x=some .free:=z;rw [hk] at z
   rcases z with z | z<;>cases z
 refine wpAny_unbindName_local hk hn hm hcls fun h' u' hn' hs=>h _ ?_
 have far:∀b o,X.s₀.heap.get? b=some o->b≠X.env.locals:=fun b o z=>yau (yal (yap z) I.ok.above)
 refine ⟨I.ok,I.os,I.bare,⟨?_,?_,I.base.free,?_,I.base.tups,I.base.frzs,I.base.tbls⟩,⟨_,hn',?_⟩,?_,I.free,I.freeC,?_,?_,by simpa using I.len⟩
 ·exact fun b o z n hb hx=>(hs.2 b (far b o z)).trans (I.base.keep b o z n hb hx)
 ·exact fun b o z n hb hx=>let ⟨sl,z1⟩:=I.base.slot b o z n hb hx;⟨sl,(hs.2 b (far b o z)).trans z1⟩
 ·exact fun b o z hx=>let ⟨o',z1⟩:=I.base.there b o z hx;⟨o',(hs.2 b (far b o z)).trans z1⟩
 ·intro j y w e1 e2 e3
  have hj:j≠i:=fun z=>by
   subst z;have l1:j<σ.length:=(yam.mp hv).1;rw [yay l1] at e2;cases e2
  rw [yaN (Ne.symm hj)] at e2;obtain ⟨u1,r1,q⟩:=hl j y w e1 e2 e3;refine ⟨u1,r1,?_⟩
  rcases q with ⟨k1,z⟩ | ⟨k1,c,z,z1⟩
  ·have ny:y≠x:=fun e=>hj (zeU hN e1 (e ▸ hi))
   exact .inl ⟨k1,by simp [ny,z]⟩
  ·exact .inr ⟨k1,c,z,z1.sameBut hs (I.cne y c z)⟩
 ·exact fun y c z=>let ⟨w,z1⟩:=I.cell y c z;⟨w,z1.sameBut hs (I.cne y c z)⟩
 ·exact fun p hp=>let ⟨z,n,ne,nf,d⟩:=I.pin p hp;⟨(hs.2 p.1 ne).trans z,n,ne,nf,d⟩
 ·exact I.hok.same fun b o z n=>(hs.2 b fun e=>n (by rw [e];exact I.free)).trans z
def zfa{M:Model}{A:Around}{E:Z5}{i:Nat}{x:Str}{pos:Pos}{Q:Unit->Shared->Prop}(I:Inv X pins σ H s)(hN:X.N.Nodup)(hi:X.N[i]?=some x)(hk:X.env.scope.names.lookup x=some .local)
  (h:∀s',Inv X pins (σ.set i none) H s'->Q () s'):wpAny M A (do bindName X.env x .none;unbindBehindTheSuite X.env x pos) Q E s:=by
 refine yaa (wpAny_bindName (zcr (v:=.non) I hN hi (.inl hk) rfl (fun s2 I2=>?_) (.inr hk)));unfold unbindBehindTheSuite;refine wpAny_onRaise ?_
 have l1:i<σ.length:=by rw [I.len];exact (yam.mp hi).1
 refine zou I2 hN hi hk ⟨.non,yay l1⟩ fun s3 I3=>h s3 ?_
 rwa [List.set_set] at I3
end
section
variable{X:Cx}{pins:Z3}{σ:St}{H H':Hp}{s s':Shared}{B h2:Heap}{a:Addr}{cls a0:Value}
noncomputable abbrev Cx.inH(X:Cx)(a:Addr):Cx:={ X with A:=X.A.mark (some (.ref a)),calm:=false,xe:=fun _ _=>False }
theorem Inv.inH(I:Inv X pins σ H s)(a:Addr):Inv (X.inH a) pins σ H s :=
 ⟨⟨I.ok.mod,I.ok.kind,I.ok.glob,I.ok.blt,I.ok.above,I.ok.inj,I.ok.has,I.ok.cab,(fun z=>nomatch z),I.ok.frames,I.ok.stk,I.ok.exf,I.ok.bs,I.ok.bsz,I.ok.noex,I.ok.exfs,I.ok.funs,I.ok.frf⟩,I.os,I.bare,I.base,I.loc,I.cell,I.free,I.freeC,I.pin,I.hok,I.len⟩
def Inv.outH(J:X.Ok)(I:Inv (X.inH a) pins σ H s):Inv X pins σ H s:=⟨J,I.os,I.bare,I.base,I.loc,I.cell,I.free,I.freeC,I.pin,I.hok,I.len⟩
def zew(I:Inv X pins σ H s)(fl:Heap.FlyingW B X.stack a cls a0 h2)(up:s'.heap.UpToSlots h2)(c1:∀b o,s'.heap.get? b=some o->H' b≠none->B.get? b=some o)
  (c2:∀b o,s.heap.get? b=some o->H b=none->b ∉ frs X.stack->B.get? b=some o) (c3:∀b o,s.heap.get? b=some o->b ∉ frs X.stack->∃o',B.get? b=some o')
  (os:s'.os=s.os) (bare:AllBare s'.gens) (un:Un (frs X.stack) [] H H' s.heap s'.heap) (hok:HOk X.prog X.w H' s'.heap) :
  Inv X pins σ H' { s' with heap:=h2 }/\∃ob,ob.cls=cls/\h2.get? a=some ob/\H' a=none/\Inv X pins σ (upd H' a (.frz ob (.own a))) { s' with heap:=h2 }:=by
 have trk:∀b o,s'.heap.get? b=some o->H' b≠none->h2.get? b=some o:=fun b o z n=>fl.1 b o (c1 b o z n)
 have hok2:HOk X.prog X.w H' h2:=hok.same trk
 have slt:∀b o,s.heap.get? b=some o->H b=none->b∈frs X.stack->∃sl,h2.get? b=some { o with slots:=sl }:=fun b o z n hb=>by
  obtain ⟨_,o',z',hd⟩:=I.stack.mem hb;rw [z] at z';cases z';obtain ⟨sl,r⟩:=un.slot b o z n hb (by simp);obtain ⟨sl',r'⟩:=up b ({ o with slots:=sl }:Obj) r hd;exact ⟨sl',r'⟩
 have th:∀b o,s.heap.get? b=some o->b ∉ ([]:List Addr)->∃o',h2.get? b=some o':=fun b o z _=>by
  by_cases hb:b∈frs X.stack
  ·obtain ⟨sl,r⟩:=slt b o z (I.stkFree b hb) hb;exact ⟨_,r⟩
  ·obtain ⟨o',r⟩:=c3 b o z hb;exact ⟨o',fl.1 b o' r⟩
 have un2:Un (frs X.stack) [] H H' s.heap h2:=⟨fun b o z n hb _=>fl.1 b o (c2 b o z n hb),fun b o z n hb _=>slt b o z n hb,un.free,th,un.tups,un.frzs,un.tbls⟩;refine ⟨I.call' (s':={ s' with heap:=h2 }) (ch:=[]) os un2 hok2 bare (fun b z=>absurd z (by simp)),?_⟩;obtain ⟨oe,vs,he,hc,hd,_⟩:=fl.first
 have na:H' a=none:=by
  cases k:H' a with
  | none=>rfl
  | some u =>
   obtain ⟨o',z'⟩:=(hok a u k).has;have:=c1 a o' z' (by rw [k];exact yaG _);rw [fl.2.1] at this;cases this
 have ns:∀o,s.heap.get? a=some o->False:=fun o z=>by
  by_cases hb:a∈frs X.stack
  ·obtain ⟨_,o',z',hd'⟩:=fl.2.2.1.mem hb;rw [he] at z';cases z';exact hd' _ hd
  ·obtain ⟨o',r⟩:=c3 a o z hb;rw [fl.2.1] at r;cases r
 have ne:∀{b:Addr} {u:HO},H' b=some u->b≠a:=fun {b u} z e=>by rw [e,na] at z;cases z
 refine ⟨oe,hc,he,na,I.call' (s':={ s' with heap:=h2 }) (ch:=[]) os ⟨un2.keep,un2.slot,fun b o z n hx=>?_,th,fun b xs z=>?_,fun b o u z=>?_,fun b ps z=>?_⟩ (fun b u z=>?_) bare (fun b z=>absurd z (by simp))⟩
 ·rw [zah (a:=a) (b:=b) fun e=>ns o (by rw [<-e];exact z)];exact un.free b o z n hx
 ·have:=un.tups b xs z;rw [zah (ne this)];exact this
 ·have:=un.frzs b o u z;rw [zah (ne this)];exact this
 ·obtain ⟨more,this⟩:=un.tbls b ps z;exact ⟨more,by rw [zah (ne this)];exact this⟩
 ·by_cases e:b=a
  ·subst e;unfold upd at z;rw [if_pos rfl] at z;cases z;exact ⟨he,oe,he⟩
  ·rw [zah e] at z;exact (hok2 b u z).stay (fun _ _ _ q=>q) (fun c q=>by rw [zah (ne q)];exact q) (fun c xs q=>by rw [zah (ne q)];exact q)
end
noncomputable def zl7(K:PySem.W.Frag)(C D:Addr):Prop:=(∃bC iC,PySem.W.excIn K C bC iC=true)/\∃cd d cl sl,K.lookup C=some ⟨cl,d,.cls cd,sl⟩/\cd.mro.contains (.ref D)=true
noncomputable def Ends.goes(D:Ends)(i:Nat):Ends:={ nx:=fun σ H=>D.nx (σ.set i none) H,rt:=D.rt,bk:=fun σ H=>D.bk (σ.set i none) H,ct:=fun σ H=>D.ct (σ.set i none) H }
def znk{X:Cx}{a:Addr}{pins:Z3}{D:Ends}{i:Nat}{n:Str}{pos:Pos}{f:Flow}{s:Shared}{E:Z5}(J:X.Ok)(hN:X.N.Nodup)(hi:X.N[i]?=some n)(hk:X.env.scope.names.lookup n=some .local)(h:SP (X.inH a) pins (D.goes i) f s) :
  wpAny (model X.prog X.w) X.A (do bindName X.env n .none;unbindBehindTheSuite X.env n pos) (fun _ s3=>SP X pins D f s3) E s:=by
 cases f with
 | next =>
  obtain ⟨σ',H',I,q⟩:=h;exact zfa (I.outH J) hN hi hk fun s' I'=>⟨_,H',I',q⟩
 | brk =>
  obtain ⟨σ',H',I,q⟩:=h;exact zfa (I.outH J) hN hi hk fun s' I'=>⟨_,H',I',q⟩
 | cont =>
  obtain ⟨σ',H',I,q⟩:=h;exact zfa (I.outH J) hN hi hk fun s' I'=>⟨_,H',I',q⟩
 | ret u =>
  obtain ⟨v,σ',H',I,r,q⟩:=h;exact zfa (I.outH J) hN hi hk fun s' I'=>⟨v,_,H',I',r,q⟩
end L2
namespace PySem.W
open PySem
structure ExcCls(K:Frag)(C:Addr):Prop where
 ga:findIn K (.ref C) "__getattribute__" = some (some (.builtin "BaseException.__getattribute__"))
 gt:findIn K (.ref C) "__getattr__" = some none
 cl:findIn K (.ref C) "__class__" = some (some (.builtin "object.__class__"))
 ob:subIn K (.ref C) (.type "object")=some true
 be:subIn K (.ref C) (.type "BaseException")=some true
 is:∃c d cd sl,K.lookup C=some ⟨c,d,.cls cd,sl⟩
section
variable{prog:Program}{w:World}{A:Around}{E:Z5}{h:Heap}{g:Array GenState}{d:Drawn}{t:Nat}{os:OsState}{a C:Addr}{o:Obj}{K:Frag}
theorem zfd{R:Result->Shared->Prop}(k:K.In h)(X:ExcCls K C)(hx:h.get? a=some o)(hc:o.cls=.ref C)(hq:R (.ok (.ret (.ref C))) ⟨h,g,d,t,os⟩) :
  codeAny (model prog w) A (.call (.builtin "getset_descriptor.__get__") ⟨[.builtin "object.__class__",.ref a,.ref C],[]⟩) R ⟨h,g,d,t,os⟩:=by
 have isGs:Shared.TypeIs ⟨h,g,d,t,os⟩ (.builtin "object.__class__") "getset_descriptor":=ycm
 have f8:subIn K (.ref C) (.type (".".intercalate ("object.__class__".cutAt '.').dropLast))=some true:=by rw [F.owner_object_class];exact X.ob
 refine ycs F.slot_gs_get.plain F.entry_gs_get ?_;refine F.slot_gs_get.check _ _ _ _ _ _ _ _ isGs (F.args_gs_get _ _ _) ?_
 repeat (any_goals (first | assumption | (with_reducible refine ybn hx ?_;rw [hc]) | with_reducible refine Looks.at (looks_subIn k f8) ?_ | wp_step))
 refine And.intro (Code.quiet_builtin _ (by decide +kernel)) ?_;refine ybN F.entry_object_class ?_
 repeat (any_goals (first | assumption | (with_reducible refine ybn hx ?_;rw [hc]) | wp_step))
def zd5{tk:Tok}{Q:Fin->Shared->Prop}(k:K.In h)(X:ExcCls K C)(hx:h.get? a=some o)(hc:o.cls=.ref C)(hq:Q (.done (.ret (.ref C))) ⟨h,g,d,t,os⟩) :
  wpAny (model prog w) A (Builtin.«object.__getattribute__» { pos:=[.ref a,.str "__class__" tk],kw:=[] }) Q E ⟨h,g,d,t,os⟩:=by
 have isGs:Shared.TypeIs ⟨h,g,d,t,os⟩ (.builtin "object.__class__") "getset_descriptor":=ycm;have known:=And.intro ycm (And.intro F.slot_gs_get.lookup F.slot_gs_set.lookup);obtain ⟨p5,p6,p7⟩:=known
 repeat (any_goals (first | assumption | (with_reducible refine ybn hx ?_;rw [hc]) | with_reducible refine Looks.at (looks_findIn k X.cl) ?_ | wp_step))
 refine zfd k X hx hc ?_
 repeat any_goals first | assumption | wp_step
end
section
variable{prog:Program}{w:World}{A:Around}{E:Z5}{h:Heap}{g:Array GenState}{d:Drawn}{t:Nat}{os:OsState}{a C:Addr}{o:Obj}{K:Frag}
theorem zd6{M:Model}{nameV:Value}{Q:Unit->Shared->Prop}(k:K.In h)(X:ExcCls K C)(hx:h.get? a=some o)(hc:o.cls=.ref C)(hq:Q () ⟨h,g,d,t,os⟩) :
  wpAny M A (checkBuiltinCall "BaseException.__getattribute__" ⟨[.ref a,nameV],[]⟩) Q E ⟨h,g,d,t,os⟩:=by
 have k1:builtinKind "BaseException.__getattribute__" = some .slot:=by decide +kernel
 have k2:splitId "BaseException.__getattribute__" = some ("BaseException","__getattribute__"):=by decide +kernel
 have fits:=F.args_bexc_ga (.ref a) nameV;simp only [checkBuiltinCall,k1,k2];refine yaa ?_;unfold isInstance
 repeat (first | (with_reducible refine ybn hx ?_;rw [hc]) | with_reducible refine Looks.at (looks_subIn k X.be) ?_ | wp_step)
 exact hq
def zeb{tk:Tok}{R:Result->Shared->Prop}(k:K.In h)(X:ExcCls K C)(hx:h.get? a=some o)(hc:o.cls=.ref C)(hq:R (.ok (.ret (.ref C))) ⟨h,g,d,t,os⟩) :
  codeAny (model prog w) A (.call (.builtin "BaseException.__getattribute__") ⟨[.ref a,.str "__class__" tk],[]⟩) R ⟨h,g,d,t,os⟩ :=
 ycs F.attr_ValueError.ga.plain F.entry_bexc_ga (zd6 k X hx hc (zd5 k X hx hc hq))
theorem zf2{tk:Tok}{fill expr:Bool}{Q:Z5}(k:K.In h)(X:ExcCls K C)(hx:h.get? a=some o)(hc:o.cls=.ref C)(hq:Q (.ref C) ⟨h,g,d,t,os⟩) :
  wpAny (model prog w) A (getAttrBy (.ref a) (.str "__class__" tk) fill expr) Q E ⟨h,g,d,t,os⟩:=by
 have f3:=F.attr_ValueError.ga.bind (.ref a)
 have n0:(expr&&onTheHeap (Value.builtin "BaseException.__getattribute__"))=false:=by cases expr<;>rfl
 have n2:(Value.builtin "BaseException.__getattribute__" == Value.builtin "object.__getattribute__")=false:=by decide +kernel
 have n1:(onTheHeap (Value.ref C)&&Value.builtin "BaseException.__getattribute__" == Value.builtin "object.__getattribute__")=false:=by rw [n2];rfl
 repeat (any_goals (first | assumption | (with_reducible refine ybn hx ?_;rw [hc]) | with_reducible refine Looks.at (looks_findIn k X.ga) ?_ | with_reducible refine Looks.at (looks_findIn k X.gt) ?_ | wp_step))
 refine zeb k X hx hc ?_
 repeat any_goals first | assumption | wp_step
def zec{Q:Option Value->Shared->Prop}(k:K.In h)(X:ExcCls K C)(hx:h.get? a=some o)(hc:o.cls=.ref C)(hq:Q (some (.ref C)) ⟨h,g,d,t+1,os⟩):wpAny (model prog w) A (getAttr? (.ref a) "__class__") Q E ⟨h,g,d,t,os⟩:=by
 unfold getAttr? getAttrBy?
 repeat (any_goals (first | assumption | with_reducible apply zf2 k X hx hc | wp_step))
end
def zlC{K:Frag}{a C:Addr}(X:ExcCls K C):KitX K (.ref a) (.ref C) (fun h=>∃o,h.get? a=some o/\o.cls=.ref C) where
 ty:=fun M h _ p=>by
  obtain ⟨o,h1,h2⟩:=p;rw [<-h2];exact Looks.andThen (Looks.ld h1) .now
 it:=fun _ _ k _=>by
  obtain ⟨c,d,cd,sl,lk⟩:=X.is;intro A' Q' E' s' kk q;unfold isType loadHead;exact yaa (wpAny_loadPart (kk _ _ (k _ _ lk)) (yaf q))
 ne:=fun h tp dd its n sl k htp=>by
  obtain ⟨c,d,cd,sl',lk⟩:=X.is;refine Bool.eq_false_iff.mpr fun q=>?_
  have e:C=tp:=Value.ref.inj (ycK.mp q);have z:=k _ _ lk;rw [e,htp] at z;cases z
 ca:=fun {_ _ _ _ _ s} k p q=>by
  obtain ⟨o,h1,h2⟩:=p;obtain ⟨h,g,d,t,os⟩:=s;exact zec k X h1 h2 q
end PySem.W
namespace L2
open PySem PySem.Spec PyProof.Rows
def zir{X:Cx}:zb9 X (.builtin "isinstance") (fun xs H Q=>∃(a C:Addr) (ob:Obj) (c:V) (cv:Value) (k:Bool),xs=[.ref a,c]/\H a=some (.frz ob (.own a))/\ob.cls=.ref C/\PySem.W.ExcCls X.K C/\(∀u,zaI c u->u=cv)/\PySem.W.kitOne X.K (.ref C) cv=some k/\Q (.bl k) H):=by
 intro pins s σ H xs us Q I r h;obtain ⟨a,C,ob,c,cv,k,rfl,ha,hc,Z,hv,e,q⟩:=h
 cases r with
 | cons r1 rr =>
  cases rr with
  | cons r2 r3 =>
   cases r3;cases (show _=Value.ref a from r1);rw [hv _ r2];obtain ⟨h1,_⟩:=(show zaG X.prog X.w H s.heap a (.frz ob (.own a)) from I.hok a _ ha);exact yaY (PySem.W.zlC Z) I.kIn ⟨ob,h1,hc⟩ e (fun z=>nomatch z) fun tk=>⟨.bl k,H,I.tok tk,rfl,q⟩
open PySem PySem.Spec PyProof.Rows PySem.SeqAt
end L2
namespace S2
open PySem PySem.Spec PyProof.Rows L2
mutual
def D.py:D->PyData
 | .non=>.none
 | .bl b=>.bool b
 | .int i=>.int i
 | .str x=>.str x
 | .tup l=>.tuple (D.pys l)
 | .lst l=>.list (D.pys l)
 | .scr l=>.list (l.map PyData.int)
 | .dic _=>.none
 | .ref _=>.none
 | .exc _=>.none
def D.pys:List D->List PyData
 | []=>[]
 | d::l=>d.py::D.pys l
end
mutual
def D.fit:Nat->D->Bool
 | _,.non=>true
 | _,.bl _=>true
 | _,.int _=>true
 | _,.str x=>PyData.strOk x
 | 0,.tup _=>false
 | n+1,.tup l=>D.fits n l
 | 0,.lst _=>false
 | n+1,.lst l=>D.fits n l
 | 0,.scr _=>false
 | _+1,.scr _=>true
 | _,.dic _=>false
 | _,.ref _=>false
 | _,.exc _=>false
def D.fits:Nat->List D->Bool
 | _,[]=>true
 | n,d::l=>d.fit n&&D.fits n l
end
theorem D.fits_iff:∀{l:List D},D.fits n l=true↔∀d∈l,d.fit n=true
 | []=>by simp [D.fits]
 | d::l=>by simp [D.fits,D.fits_iff (l:=l)]
theorem zhC:∀(l:List Int),PyData.canLayAll0 (l.map PyData.int)=true/\PyData.depthAll (l.map PyData.int)=0
 | []=>⟨rfl,rfl⟩
 | i::l=>by
  obtain ⟨a,b⟩:=zhC l;exact ⟨by simp [PyData.canLayAll0,PyData.canLay0,a],by simp [PyData.depthAll,PyData.depth,b]⟩
mutual
theorem D.lay:∀{n:Nat} {d:D},d.fit n=true->d.py.canLay0=true/\d.py.depth<=n
 | _,.non,_=>⟨rfl,yaP _⟩
 | _,.bl _,h=>⟨rfl,yaP _⟩
 | _,.int _,_=>⟨rfl,yaP _⟩
 | _,.str x,h=>⟨by simpa [D.fit,D.py,PyData.canLay0] using h,yaP _⟩
 | 0,.tup _,h=>by simp [D.fit] at h
 | 0,.lst _,h=>by simp [D.fit] at h
 | 0,.scr _,h=>by simp [D.fit] at h
 | n+1,.scr l,h=>by
  obtain ⟨a,b⟩:=zhC l;exact ⟨by simpa [D.py,PyData.canLay0] using a,by simp only [D.py,PyData.depth];omega⟩
 | _,.dic _,h=>by simp [D.fit] at h
 | _,.ref _,h=>by simp [D.fit] at h
 | _,.exc _,h=>by simp [D.fit] at h
 | n+1,.tup l,h=>by
  have h':D.fits n l=true:=by simpa [D.fit] using h
  obtain ⟨a,b⟩:=D.lays h';exact ⟨by simpa [D.py,PyData.canLay0] using a,by simp only [D.py,PyData.depth];omega⟩
 | n+1,.lst l,h=>by
  have h':D.fits n l=true:=by simpa [D.fit] using h
  obtain ⟨a,b⟩:=D.lays h';exact ⟨by simpa [D.py,PyData.canLay0] using a,by simp only [D.py,PyData.depth];omega⟩
theorem D.lays:∀{n:Nat} {l:List D},D.fits n l=true->PyData.canLayAll0 (D.pys l)=true/\PyData.depthAll (D.pys l)<=n
 | _,[],_=>⟨rfl,yaP _⟩
 | n,d::l,h=>by
  simp only [D.fits,yab] at h;obtain ⟨a,b⟩:=D.lay h.1;obtain ⟨c,e⟩:=D.lays h.2;exact ⟨by simp [D.pys,PyData.canLayAll0,a,c],by simp only [D.pys,PyData.depthAll];omega⟩
end
section
variable{X:Cx}{cl:Cf}{w:Wd}
def TopV.lstI(h:TopV cl w v (.lst ds)):∃a xs,v=.ref a/\w.H a=some (.lst xs)/\Shds cl w xs ds:=by
 cases h with
 | sh h=>cases h with
  | lst e k r=>exact ⟨_,_,rfl,e,r⟩
 | ow e t=>cases t with
  | lst r=>exact ⟨_,_,rfl,e,r⟩
def TopV.tupI(h:TopV cl w v (.tup ds)):∃a xs,v=.ref a/\w.H a=some (.tup xs)/\w.ow a=none/\Shds cl w xs ds:=by
 cases h with
 | sh h=>cases h with
  | tup e k r=>exact ⟨_,_,rfl,e,k,r⟩
 | ow e t=>cases t
def TopV.intI(h:TopV cl w v (.int i)):v=.int i:=by
 cases h with
 | sh h=>cases h;rfl
 | ow e t=>cases t
def TopV.strI(h:TopV cl w v (.str i)):v=.str i:=by
 cases h with
 | sh h=>cases h;rfl
 | ow e t=>cases t
def TopV.blI(h:TopV cl w v (.bl i)):v=.bl i:=by
 cases h with
 | sh h=>cases h;rfl
 | ow e t=>cases t
def TopV.nonI(h:TopV cl w v .non):v=.non:=by
 cases h with
 | sh h=>cases h;rfl
 | ow e t=>cases t
def Shd.scrI(hK:X.K=cl.K)(h:Shd cl w v (.scr l)):∃a,v=.ref a/\SqL X.K w.H a (l.map V.int):=by
 cases h with
 | scr e k=>exact ⟨_,rfl,.inl (.inr ⟨_,e⟩)⟩
 | scrK h=>exact ⟨_,rfl,by rw [hK];exact h _⟩
theorem TopV.scrI(hK:X.K=cl.K)(h:TopV cl w v (.scr l)):∃a,v=.ref a/\SqL X.K w.H a (l.map V.int):=by
 cases h with
 | sh h=>exact h.scrI hK
 | ow e t=>cases t
def zhk(I:Inv X pins σ w.H s)(hK:X.K=cl.K)(h:Shd cl w v (.scr l))(r:zaI v u):∃as,Reads s.heap u (D.scr l).py as:=by
  obtain ⟨a,rfl,hq⟩:=h.scrI hK;cases r;obtain ⟨its,rv,p,_⟩:=I.list hq;obtain ⟨o,ho,hc,n,hd⟩:=id p.isList
  have go:∀{l:List Int} {us:List Value},Vals (l.map V.int) us->∃as,ReadsAll s.heap us (l.map PyData.int) as:=by
   intro l
   induction l with
   | nil=>intro us h;cases h;exact ⟨_,.nil⟩
   | cons i l ih =>
    intro us h
    cases h with
    | cons h1 h2 =>
     obtain ⟨t,rfl⟩:=h1;obtain ⟨as,ra⟩:=ih h2;exact ⟨_,.cons (.int i t) ra⟩
  obtain ⟨as,ra⟩:=go rv;exact ⟨_,.list ho hc hd (by simpa using ra)⟩
mutual
theorem zk3{pins:Z3}{σ:St}{s:Shared}(I:Inv X pins σ w.H s)(hK:X.K=cl.K):∀{v:V} {d:D} {n:Nat},Shd cl w v d->d.fit n=true->∀{u:Value},zaI v u->∃as,Reads s.heap u d.py as
 | _,_,_,.non,_,_,r=>by cases r;exact ⟨_,.none⟩
 | _,_,_,.bl b,_,_,r=>by cases r;exact ⟨_,.bool b⟩
 | _,_,_,.int i,_,_,r=>by obtain ⟨t,rfl⟩:=r;exact ⟨_,.int i t⟩
 | _,_,_,.str x,_,_,r=>by obtain ⟨t,rfl⟩:=r;exact ⟨_,.str x t⟩
 | _,_,0,.tup _ _ _,h,_,_=>by simp [D.fit] at h
 | _,_,0,.lst _ _ _,h,_,_=>by simp [D.fit] at h
 | _,_,n+1,.tup (a:=a) e _ rs,h,_,r=>by
  cases r;obtain ⟨its,rv,p,_⟩:=I.tuple (SqT.of (K:=X.K) e);obtain ⟨o,ho,hc,n,hd⟩:=id p;obtain ⟨as,ra⟩:=zcB I hK rs (by simpa [D.fit] using h) rv;exact ⟨_,.tuple ho hc hd (by simpa using ra)⟩
 | _,_,n+1,.lst (a:=a) e _ rs,h,_,r=>by
  cases r;obtain ⟨its,rv,p,_⟩:=I.list (SqL.of (K:=X.K) e);obtain ⟨o,ho,hc,n,hd⟩:=id p.isList;obtain ⟨as,ra⟩:=zcB I hK rs (by simpa [D.fit] using h) rv;exact ⟨_,.list ho hc hd (by simpa using ra)⟩
 | _,_,n,.scr e k,h,_,r=>zhk I hK (.scr e k) r
 | _,_,n,.scrK e,h,_,r=>zhk I hK (.scrK e) r
 | _,_,n,.dicK _ _ _,h,_,_=>by simp [D.fit] at h
 | _,_,n,.ref _,h,_,_=>by simp [D.fit] at h
 | _,_,n,.exc _ _ _,h,_,_=>by simp [D.fit] at h
theorem zcB{pins:Z3}{σ:St}{s:Shared}(I:Inv X pins σ w.H s)(hK:X.K=cl.K):∀{vs:List V} {ds:List D} {n:Nat},Shds cl w vs ds->D.fits n ds=true->∀{us:List Value},Vals vs us->∃as,ReadsAll s.heap us (D.pys ds) as
 | _,_,_,.nil,_,_,r=>by cases r;exact ⟨_,.nil⟩
 | _,_,n,.cons h t,f,_,r=>by
  simp only [D.fits,yab] at f
  cases r with
  | cons r1 r2 =>
   obtain ⟨as,a⟩:=zk3 I hK h f.1 r1;obtain ⟨bs,b⟩:=zcB I hK t f.2 r2;exact ⟨_,.cons a b⟩
end
def zfF(I:Inv X pins σ w.H s)(hK:X.K=cl.K)(h:TopV cl w v d)(f:d.fit n=true)(r:zaI v u):∃as,Reads s.heap u d.py as:=by
 cases h with
 | sh h=>exact zk3 I hK h f r
 | ow e t =>
  cases t with
  | lst rs =>
   cases n with
   | zero=>simp [D.fit] at f
   | succ n =>
    cases r;obtain ⟨its,rv,p,_⟩:=I.list (SqL.of (K:=X.K) e);obtain ⟨o,ho,hc,n,hd⟩:=id p.isList;obtain ⟨as,ra⟩:=zcB I hK rs (by simpa [D.fit] using f) rv;exact ⟨_,.list ho hc hd (by simpa using ra)⟩
  | dicK _=>simp [D.fit] at f
noncomputable def zeR(d e:D):Bool:=d.py.eqv e.py
noncomputable def zoy(ds:List (D×D)):Bool:=ds.all fun p=>p.2.fit 8
def eqK(es:List (D×D)):List (D×D)->Bool
 | (.str k,d)::r=>(match zaK k es with | some e=>zeR d e | none=>false)&&eqK es r
 | _=>true
def zlP(d e:D):Option Bool:=match d,e with | .dic ds,.dic es=>if zaz ds&&zaz es&&zoy ds&&zoy es then some (ds.length == es.length&&eqK es ds) else none | _,_=>none
def eqD(d e:D):Option D:=if d.fit 9&&e.fit 9 then some (.bl (zeR d e)) else (zlP d e).map D.bl
def neD(d e:D):Option D:=if d.fit 9&&e.fit 9 then some (.bl (!zeR d e)) else (zlP d e).map fun b=>D.bl (!b)
theorem zfc{k:Str}:∀{ds:List (D×D)} {d:D},zaK k ds=some d->zoy ds=true->d.fit 8=true
 | (.str x,e)::r,d,h,f=>by
  unfold zoy at f;rw [ya5,yab] at f;unfold zaK at h;split at h
  ·cases h;exact f.1
  ·exact zfc h f.2
theorem zhy{A:Around}{pins:Z3}{σ:St}{s:Shared}(I:Inv X pins σ w.H s)(hK:X.K=cl.K)(hu:A.units+32<cLine){kb:List (Key×V)}{vb:List (Key×Value)}{es:List (D×D)}(rb:KV kb vb)(hb:ShdK cl w kb es)(ob:zaz es=true)(fb:zoy es=true) :
  ∀{ka:List (Key×V)} {va:List (Key×Value)} {ds:List (D×D)},ShdK cl w ka ds->KV ka va->zaz ds=true->zoy ds=true->PySem.W.KeqHits A s vb va (eqK es ds)
 | _,_,_,.nil,.nil,_,_=>.nil
 | _,_,_,.consI _ _,_,o,_=>by cases o
 | _,_,_,.consS (x:=x) (v:=v) (d:=d) hd ht,.cons (b:=q) r t,o,f=>by
  unfold zaz at o;rw [yab] at o;unfold zoy at f;rw [ya5,yab] at f;have ih:=zhy I hK hu rb hb ob fb ht t o.2 f.2;obtain ⟨qk,qv⟩:=q;obtain ⟨e1,rv⟩:=r;dsimp only at e1 rv;subst e1;have hv:=rb.val (.inr x);show PySem.W.KeqHits A s vb _ ((match zaK x es with | some e=>zeR d e | none=>false)&&eqK es _)
  rcases zcD x hb ob with ⟨h1,h2⟩ | ⟨v',d',h1,h2,h3⟩
  ·rw [h1] at hv;rw [h2]
   cases hz:valueAt vb (.inr x) with
   | none=>exact .miss hz
   | some y=>rw [hz] at hv;exact hv.elim
  ·rw [h1] at hv;rw [h2]
   cases hz:valueAt vb (.inr x) with
   | none=>rw [hz] at hv;exact hv.elim
   | some y =>
    rw [hz] at hv;obtain ⟨as,ra⟩:=zk3 I hK hd f.1 rv;obtain ⟨bs,rb'⟩:=zk3 I hK h3 (zfc h2 fb) hv;obtain ⟨l1,d1⟩:=D.lay f.1;obtain ⟨l2,d2⟩:=D.lay (zfc h2 fb);exact .hit hz (SeqAt.eqAt_reads _ _ A s _ _ as bs ra rb' l1 l2 (by omega)) ih
theorem zj8{pins:Z3}{σ:St}{s:Shared}{x y:V}{v u:Value}{d e:D}{b:Bool}(I:Inv X pins σ w.H s)(hK:X.K=cl.K)(hu:X.A.units+64<cLine)(hx:TopV cl w x d)(hy:TopV cl w y e)(rx:zaI x v)(ry:zaI y u)(h:zlP d e=some b) :
  ∃(a c:Addr) (ka kc:List (Key×Value)) (r:Bool),v=.ref a/\u=.ref c/\(a == sysModules)=false/\(c == sysModules)=false/\s.heap.DictOf (zap X.prog X.w) a ka/\s.heap.DictOf (zap X.prog X.w) c kc/\PySem.W.KeqHits X.A.in1 s kc ka r/\b=(ka.length == kc.length&&r):=by
 unfold zlP at h;split at h
 ·rename_i ds es;split at h
  ·rename_i hc;simp only [yab] at hc;cases h;obtain ⟨a,ka,rfl,ea,ra⟩:=hx.dicI;obtain ⟨c,kc,rfl,ec,rc⟩:=hy.dicI;cases rx;cases ry;obtain ⟨_,z1,va,k1,d1⟩:=zed I.hok ea;obtain ⟨_,z2,vc,k2,d2⟩:=zed I.hok ec;refine ⟨a,c,va,vc,eqK es ds,rfl,rfl,z1,z2,d1,d2,zhy I hK (by simp [Around.in1];omega) k2 rc hc.1.1.2 hc.2 ra k1 hc.1.1.1 hc.1.2,?_⟩;rw [<-k1.length,<-k2.length,ra.length,rc.length]
  ·cases h
 ·cases h
theorem ztc(hK:X.K=cl.K)(hu:X.A.units+64<cLine):OpD X cl (compareOp .Eq) eqD:=by
 intro pins s σ H x y v u Q I rx ry h;obtain ⟨w,d,e,r,rfl,hx,hy,hg,q⟩:=h;unfold eqD at hg;split at hg
 ·rename_i hf;cases hg;rw [yab] at hf;obtain ⟨as,ra⟩:=zfF I hK hx hf.1 rx;obtain ⟨bs,rb⟩:=zfF I hK hy hf.2 ry;obtain ⟨l1,d1⟩:=D.lay hf.1;obtain ⟨l2,d2⟩:=D.lay hf.2;exact SeqAt.compareEq_reads ra rb l1 l2 (by omega) ⟨.bl _,w.H,I,rfl,q _ w (Grow.refl _) (.bl _)⟩
 ·obtain ⟨b,hb,hg⟩:=yax.mp hg;subst hg;obtain ⟨a,c,ka,kc,r,rfl,rfl,z1,z2,d1,d2,hh,rfl⟩:=zj8 I hK hu hx hy rx ry hb;exact PySem.W.keq_eq z1 z2 d1 d2 (by omega) (fun _=>hh) ⟨.bl _,w.H,I,rfl,q _ w (Grow.refl _) (.bl _)⟩
def zta(hK:X.K=cl.K)(hu:X.A.units+64<cLine):OpD X cl (compareOp .NotEq) neD:=by
 intro pins s σ H x y v u Q I rx ry h;obtain ⟨w,d,e,r,rfl,hx,hy,hg,q⟩:=h;unfold neD at hg;split at hg
 ·rename_i hf;cases hg;rw [yab] at hf;obtain ⟨as,ra⟩:=zfF I hK hx hf.1 rx;obtain ⟨bs,rb⟩:=zfF I hK hy hf.2 ry;obtain ⟨l1,d1⟩:=D.lay hf.1;obtain ⟨l2,d2⟩:=D.lay hf.2;exact SeqAt.compareNe_reads ra rb l1 l2 (by omega) ⟨.bl _,w.H,I,rfl,q _ w (Grow.refl _) (.bl _)⟩
 ·obtain ⟨b,hb,hg⟩:=yax.mp hg;subst hg;obtain ⟨a,c,ka,kc,r,rfl,rfl,z1,z2,d1,d2,hh,rfl⟩:=zj8 I hK hu hx hy rx ry hb;exact PySem.W.keq_ne z1 z2 d1 d2 (by omega) (fun _=>hh) ⟨.bl _,w.H,I,rfl,q _ w (Grow.refl _) (.bl _)⟩
noncomputable def ziW:D->Option (List D) | .lst l=>some l | .tup l=>some l | _=>none
noncomputable def ziA(d:D)(l:List D):Bool:=l.any fun e=>zeR e d
def zr9(d e:D):Option Bool:=match d,e with | .str k,.dic ds=>if zaz ds then some (zaK k ds).isSome else none | _,_=>none
noncomputable def zuz(d e:D):Option Bool:=match d,e with | .str x,.str y=>some (!(Builtin.Str.occurrences y x 0 y.length 1).isEmpty) | _,_=>none
def inD(d e:D):Option D:=match ziW e with | some l=>if d.fit 8&&D.fits 8 l then some (.bl (ziA d l)) else none | none=>match zuz d e with | some b=>some (.bl b) | none=>(zr9 d e).map D.bl
def zn1(d e:D):Option D:=match ziW e with | some l=>if d.fit 8&&D.fits 8 l then some (.bl (!ziA d l)) else none | none=>(zr9 d e).map fun b=>D.bl (!b)
def zcy{s:Shared}{its:List Value}{d:D}(ra:ReadsAll s.heap its (D.pys ds) as)(f:D.fits 8 ds=true):(its.toArray.any fun y=>(SeqAt.readOf s.heap y).eqv d.py)=ziA d ds:=by
 rw [SeqAt.any_by_data (vs:=its.toArray) (xs:=D.pys ds) (as:=as) (by simpa using ra) (D.lays f).1]
 have:∀{l:List D},((D.pys l).any fun y=>y.eqv d.py)=ziA d l:=by
  intro l
  induction l with
  | nil=>rfl
  | cons e l ih =>
   show (e.py.eqv d.py||(D.pys l).any fun y=>y.eqv d.py)=(zeR e d||ziA d l);rw [ih];rfl
 exact this
theorem zbC{A:Around}{s:Shared}{d:D}(hu:A.units+64<cLine)(rx:Reads s.heap x d.py bs)(fd:d.fit 8=true):∀{its:List Value} {ds:List D} {as:List Addr},ReadsAll s.heap its (D.pys ds) as->D.fits 8 ds=true->∀y,y∈its.toArray->SeqAt.EqAt A.in1 s y x ((SeqAt.readOf s.heap y).eqv d.py)
 | [],[],_,_,_,y,hy=>by simp at hy
 | [],_::_,_,h,_,_,_=>by cases h
 | _::_,[],_,h,_,_,_=>by cases h
 | v::its,e::ds,_,h,f,y,hy=>by
  simp only [D.fits,yab] at f
  cases h with
  | cons h1 h2 =>
   simp at hy
   rcases hy with rfl | hy
   ·rw [zgB (D.lay f.1).1 h1];refine SeqAt.eqAt_reads _ _ _ _ _ _ _ _ h1 rx (D.lay f.1).1 (D.lay fd).1 ?_;have:=(D.lay f.1).2;show A.units+1+_<cLine;omega
   ·exact zbC hu rx fd h2 f.2 y (by simpa using hy)
def ziV(h:ziW e=some l):e=.lst l\/e=.tup l:=by
 cases e<;>simp [ziW] at h
 ·exact .inr (by rw [h])
 ·exact .inl (by rw [h])
def zmD{w:Wd}{x y:V}{d e:D}{b:Bool}(hx:TopV cl w x d)(hy:TopV cl w y e)(h:zr9 d e=some b):∃a ov,y=.ref a/\zmV w.H a x ov/\ov.isSome=b:=by
 unfold zr9 at h;split at h
 ·rename_i k ds;split at h
  ·rename_i ho;cases h;obtain ⟨a,kvs,rfl,ea,ra⟩:=hy.dicI;obtain rfl:=hx.strI;refine ⟨a,_,rfl,.inl ⟨kvs,.inr k,ea,rfl,rfl⟩,?_⟩
   rcases zcD k ra ho with ⟨h1,h2⟩ | ⟨_,_,h1,h2,_⟩<;>rw [h1,h2]<;>rfl
  ·cases h
 ·cases h
theorem ztb(hK:X.K=cl.K)(hu:X.A.units+64<cLine):OpD X cl (compareOp .In) inD:=by
 intro pins s σ H x y v u Q I rx ry h;obtain ⟨w,d,e,r,rfl,hx,hy,hg,q⟩:=h;unfold inD at hg;split at hg
 ·rename_i l hl;split at hg
  ·rename_i hf;cases hg;rw [yab] at hf;obtain ⟨bs,rb⟩:=zfF I hK hx hf.1 rx
   rcases ziV hl with rfl | rfl
   ·obtain ⟨a,xs,rfl,e,rs⟩:=hy.lstI;cases ry;obtain ⟨its,rv,p,_⟩:=I.list (SqL.of (K:=X.K) e);obtain ⟨as,ra⟩:=zcB I hK rs hf.2 rv;refine SeqAt.in_listAt _ p.isList (zbC hu rb hf.1 ra hf.2) ?_;rw [zcy ra hf.2];exact ⟨.bl _,w.H,I,rfl,q _ w (Grow.refl _) (.bl _)⟩
   ·obtain ⟨a,xs,rfl,e,_,rs⟩:=hy.tupI;cases ry;obtain ⟨its,rv,p,_⟩:=I.tuple (SqT.of (K:=X.K) e);obtain ⟨as,ra⟩:=zcB I hK rs hf.2 rv;refine SeqAt.in_tupleAt _ p (zbC hu rb hf.1 ra hf.2) ?_;rw [zcy ra hf.2];exact ⟨.bl _,w.H,I,rfl,q _ w (Grow.refl _) (.bl _)⟩
  ·cases hg
 split at hg
 ·rename_i b hb;cases hg;unfold zuz at hb;split at hb
  ·cases hb;obtain rfl:=hx.strI;obtain rfl:=hy.strI;exact zjj pins s σ w.H _ _ v u Q I rx ry ⟨_,_,rfl,rfl,q _ w (Grow.refl _) (.bl _)⟩
  ·cases hb
 ·obtain ⟨b,hb,hg⟩:=yax.mp hg;subst hg;obtain ⟨a,ov,rfl,g,rfl⟩:=zmD hx hy hb;cases ry;exact zwQ (by omega) I g rx fun s' I'=>⟨.bl _,w.H,I',rfl,q _ w (Grow.refl _) (.bl _)⟩
def zqG(hK:X.K=cl.K)(hu:X.A.units+64<cLine):OpD X cl (compareOp .NotIn) zn1:=by
 intro pins s σ H x y v u Q I rx ry h;obtain ⟨w,d,e,r,rfl,hx,hy,hg,q⟩:=h;unfold zn1 at hg;split at hg
 ·rename_i l hl;split at hg
  ·rename_i hf;cases hg;rw [yab] at hf;obtain ⟨bs,rb⟩:=zfF I hK hx hf.1 rx
   rcases ziV hl with rfl | rfl
   ·obtain ⟨a,xs,rfl,e,rs⟩:=hy.lstI;cases ry;obtain ⟨its,rv,p,_⟩:=I.list (SqL.of (K:=X.K) e);obtain ⟨as,ra⟩:=zcB I hK rs hf.2 rv;refine SeqAt.notIn_listAt _ p.isList (zbC hu rb hf.1 ra hf.2) ?_;rw [zcy ra hf.2];exact ⟨.bl _,w.H,I,rfl,q _ w (Grow.refl _) (.bl _)⟩
   ·obtain ⟨a,xs,rfl,e,_,rs⟩:=hy.tupI;cases ry;obtain ⟨its,rv,p,_⟩:=I.tuple (SqT.of (K:=X.K) e);obtain ⟨as,ra⟩:=zcB I hK rs hf.2 rv;refine SeqAt.notIn_tupleAt _ p (zbC hu rb hf.1 ra hf.2) ?_;rw [zcy ra hf.2];exact ⟨.bl _,w.H,I,rfl,q _ w (Grow.refl _) (.bl _)⟩
  ·cases hg
 ·obtain ⟨b,hb,hg⟩:=yax.mp hg;subst hg;obtain ⟨a,ov,rfl,g,rfl⟩:=zmD hx hy hb;cases ry;exact zoD (by omega) I g rx fun s' I'=>⟨.bl _,w.H,I',rfl,q _ w (Grow.refl _) (.bl _)⟩
def zbu:D->D->Option D
 | .int i,.int j=>some (.int (i+j))
 | .tup a,.tup b=>if small (a.length+b.length) then some (.tup (a++b)) else none
 | .lst a,.lst b=>if small (a.length+b.length) then some (.lst (a++b)) else none
 | .str a,.str b=>if small (a.length+b.length) then some (.str (a++b)) else none
 | _,_=>none
def zqM:OpD X cl (binaryOp .Add) zbu:=by
 intro pins s σ H x y v u Q I rx ry h;obtain ⟨w,d,e,r,rfl,hx,hy,hg,q⟩:=h;unfold zbu at hg;split at hg
 ·cases hg;rename_i i j;obtain rfl:=hx.intI;obtain rfl:=hy.intI;exact zqB pins s σ w.H _ _ v u Q I rx ry ⟨i,j,rfl,rfl,q _ w (Grow.refl _) (.int _)⟩
 ·rename_i a b;split at hg
  ·rename_i hz;cases hg;obtain ⟨p,xs,rfl,ep,kp,rs⟩:=hx.tupI;obtain ⟨p2,ys,rfl,ep2,kp2,rs2⟩:=hy.tupI
   by_cases hxe:xs=[]
   ·subst hxe;cases rs;exact zlp pins s σ w.H _ _ v u Q I rx ry ⟨p,p2,ys,rfl,rfl,SqT.of ep,SqT.of ep2,q _ w (Grow.refl _) (.tup ep2 kp2 rs2)⟩
   ·refine znU pins s σ w.H _ _ v u Q I rx ry ⟨p,p2,xs,ys,rfl,rfl,SqT.of ep,SqT.of ep2,hxe,by rw [rs.length,rs2.length];exact zaA hz,fun z=>?_,fun z l hl=>?_⟩
    ·subst z;cases rs2;rw [ybj] at q;exact q _ w (Grow.refl _) (.tup ep kp rs)
    ·exact q _ (w.add l _) (zav hl _) (Shd.newT hl (rs.append rs2))
  ·cases hg
 ·rename_i a b;split at hg
  ·rename_i hz;cases hg;obtain ⟨p,xs,rfl,ep,rs⟩:=hx.lstI;obtain ⟨p2,ys,rfl,ep2,rs2⟩:=hy.lstI;exact zqA pins s σ w.H _ _ v u Q I rx ry ⟨p,p2,xs,ys,rfl,rfl,ep,ep2,by rw [rs.length,rs2.length];exact zaA hz,fun l hl=>q _ (w.add l _) (zav hl _) (Shd.newL hl (rs.append rs2))⟩
  ·cases hg
 ·rename_i a b;split at hg
  ·rename_i hz;cases hg;obtain rfl:=hx.strI;obtain rfl:=hy.strI;exact zic pins s σ w.H _ _ v u Q I rx ry ⟨a,b,rfl,rfl,zaA hz,q _ w (Grow.refl _) (.str _)⟩
  ·cases hg
 ·cases hg
noncomputable def zsH:D->D->Option D | .int i,.int j=>some (.int (i-j)) | _,_=>none
def zqE:OpD X cl (binaryOp .Sub) zsH:=by
 intro pins s σ H x y v u Q I rx ry h;obtain ⟨w,d,e,r,rfl,hx,hy,hg,q⟩:=h;unfold zsH at hg;split at hg
 ·cases hg;rename_i i j;obtain rfl:=hx.intI;obtain rfl:=hy.intI;exact zqt pins s σ w.H _ _ v u Q I rx ry ⟨i,j,rfl,rfl,q _ w (Grow.refl _) (.int _)⟩
 ·cases hg
noncomputable def zbS(i:Int):Bool:=decide (-(2 ^ 64)<i/\i<2 ^ 64)
def ziz:D->D->Option D
 | .int i,.int j=>if zbS i||zbS j then some (.int (i*j)) else none
 | _,_=>none
theorem zqH:OpD X cl (binaryOp .Mult) ziz:=by
 intro pins s σ H x y v u Q I rx ry h;obtain ⟨w,d,e,r,rfl,hx,hy,hg,q⟩:=h;unfold ziz at hg;split at hg
 ·rename_i i j;split at hg
  ·rename_i hz;cases hg;obtain rfl:=hx.intI;obtain rfl:=hy.intI;refine zqw pins s σ w.H _ _ v u Q I rx ry ⟨i,j,rfl,rfl,?_,q _ w (Grow.refl _) (.int _)⟩;rw [ycx] at hz;exact hz.imp (fun z=>yaE z) fun z=>yaE z
  ·cases hg
 ·cases hg
noncomputable def zgH:D->D->Option D | .int i,.int j=>if 0<j then some (.int (i % j)) else none | _,_=>none
noncomputable def zkC:D->D->Option D | .int i,.int j=>if 0<j/\j<1073741824 then some (.int (i / j)) else none | _,_=>none
noncomputable def zqc:D->D->Option D | .int i,.int j=>if 0<=j/\j<=100/\i.natAbs<1000 then some (.int (i ^ j.toNat)) else none | _,_=>none
def zqI:OpD X cl (binaryOp .Mod) zgH:=by
 intro pins s σ H x y v u Q I rx ry h;obtain ⟨w,d,e,r,rfl,hx,hy,hg,q⟩:=h;unfold zgH at hg;split at hg
 ·rename_i i j;split at hg
  ·rename_i hz;cases hg;obtain rfl:=hx.intI;obtain rfl:=hy.intI;exact zqx pins s σ w.H _ _ v u Q I rx ry ⟨i,j,rfl,rfl,hz,q _ w (Grow.refl _) (.int _)⟩
  ·cases hg
 ·cases hg
def zqL:OpD X cl (binaryOp .FloorDiv) zkC:=by
 intro pins s σ H x y v u Q I rx ry h;obtain ⟨w,d,e,r,rfl,hx,hy,hg,q⟩:=h;unfold zkC at hg;split at hg
 ·rename_i i j;split at hg
  ·rename_i hz;cases hg;obtain rfl:=hx.intI;obtain rfl:=hy.intI;exact znT pins s σ w.H _ _ v u Q I rx ry ⟨i,j,rfl,rfl,hz,q _ w (Grow.refl _) (.int _)⟩
  ·cases hg
 ·cases hg
def zqF:OpD X cl (binaryOp .Pow) zqc:=by
 intro pins s σ H x y v u Q I rx ry h;obtain ⟨w,d,e,r,rfl,hx,hy,hg,q⟩:=h;unfold zqc at hg;split at hg
 ·rename_i i j;split at hg
  ·rename_i hz;cases hg;obtain rfl:=hx.intI;obtain rfl:=hy.intI;exact zqv pins s σ w.H _ _ v u Q I rx ry ⟨i,j,rfl,rfl,⟨hz.1,by omega,ycG hz.2.2 (by decide)⟩,q _ w (Grow.refl _) (.int _)⟩
  ·cases hg
 ·cases hg
noncomputable def zoW:D->Option D | .int i=>some (.int (-i)) | _=>none
def zo6:UnD X cl (unaryOp .USub) zoW:=by
 intro pins s σ H x v Q I rx h;obtain ⟨w,d,r,rfl,hx,hg,q⟩:=h;unfold zoW at hg;split at hg
 ·cases hg;rename_i i;obtain rfl:=hx.intI;exact zo5 pins s σ w.H _ v Q I rx ⟨i,rfl,q _ w (Grow.refl _) (.int _)⟩
 ·cases hg
noncomputable def zoZ(p:Int->Int->Bool):D->D->Option D | .int i,.int j=>some (.bl (p i j)) | _,_=>none
def zeT(ho:OpR X (compareOp op) (rI0 fun i j=>.bl (p i j))):OpD X cl (compareOp op) (zoZ p):=by
 intro pins s σ H x y v u Q I rx ry h;obtain ⟨w,d,e,r,rfl,hx,hy,hg,q⟩:=h;unfold zoZ at hg;split at hg
 ·cases hg;rename_i i j;obtain rfl:=hx.intI;obtain rfl:=hy.intI;exact ho pins s σ w.H _ _ v u Q I rx ry ⟨i,j,rfl,rfl,q _ w (Grow.refl _) (.bl _)⟩
 ·cases hg
noncomputable def ztg:D->D->Option D
 | .str a,.str b=>some (.bl (!decide (b.cps.toList<a.cps.toList)))
 | d,e=>zoZ (fun i j=>decide (i<=j)) d e
def zqJ:OpD X cl (compareOp .LtE) ztg:=by
 intro pins s σ H x y v u Q I rx ry h;obtain ⟨w,d,e,r,rfl,hx,hy,hg,q⟩:=h;unfold ztg at hg;split at hg
 ·cases hg;rename_i a b;obtain rfl:=hx.strI;obtain rfl:=hy.strI;exact zqy pins s σ w.H _ _ v u Q I rx ry ⟨a,b,rfl,rfl,q _ w (Grow.refl _) (.bl _)⟩
 ·exact zeT zs7 pins s σ w.H _ _ v u Q I rx ry ⟨w,_,_,r,rfl,hx,hy,hg,q⟩
noncomputable def ze7:D->Bool | .non=>true | _=>false
def zfm(d e:D):Option D:=if ze7 e then some (.bl (ze7 d)) else none
def zn0(d e:D):Option D:=if ze7 e then some (.bl (!ze7 d)) else none
def TopV.non_iff(h:TopV cl w v d):decide (v=.non)=ze7 d:=by
 cases h with
 | sh h=>cases h<;>simp [ze7]
 | ow e t=>cases t<;>simp [ze7]
def zfW(h:ze7 d=true):d=.non:=by cases d<;>simp [ze7] at h;rfl
def zqK:OpD X cl (compareOp .Is) zfm:=by
 intro pins s σ H x y v u Q I rx ry h;obtain ⟨w,d,e,r,rfl,hx,hy,hg,q⟩:=h;unfold zfm at hg;split at hg
 ·rename_i hz;cases hg;rw [zfW hz] at hy;obtain rfl:=hy.nonI;refine zqz pins s σ w.H _ _ v u Q I rx ry ⟨rfl,?_⟩;rw [hx.non_iff];exact q _ w (Grow.refl _) (.bl _)
 ·cases hg
def znY:OpD X cl (compareOp .IsNot) zn0:=by
 intro pins s σ H x y v u Q I rx ry h;obtain ⟨w,d,e,r,rfl,hx,hy,hg,q⟩:=h;unfold zn0 at hg;split at hg
 ·rename_i hz;cases hg;rw [zfW hz] at hy;obtain rfl:=hy.nonI;refine znS pins s σ w.H _ _ v u Q I rx ry ⟨rfl,?_⟩;rw [hx.non_iff];exact q _ w (Grow.refl _) (.bl _)
 ·cases hg
noncomputable def zid:D->D->Option D | .bl a,.bl b=>some (.bl (!decide (a=b))) | _,_=>none
def znZ:OpD X cl (compareOp .IsNot) zid:=by
 intro pins s σ H x y v u Q I rx ry h;obtain ⟨w,d,e,r,rfl,hx,hy,hg,q⟩:=h;unfold zid at hg;split at hg
 ·cases hg;obtain rfl:=hx.blI;obtain rfl:=hy.blI;exact zgF pins s σ w.H _ _ v u Q I rx ry ⟨_,_,rfl,rfl,q _ w (Grow.refl _) (.bl _)⟩
 ·cases hg
def ixD:D->D->Option D
 | .lst l,.int i=>atI l i
 | .tup l,.int i=>atI l i
 | .scr l,.int i=>(atI l i).map D.int
 | .dic ds,.str k=>if zaz ds then zaK k ds else none
 | .str x,.int i=>if small x.length then (atI x.cps.toList i).map fun c=>.str ⟨#[c]⟩ else none
 | _,_=>none
def zhh(r:Shds cl w xs ds)(h:atI ds i=some d):∃v,atI xs i=some v/\Shd cl w v d:=by
 unfold atI at h ⊢;rw [r.length]
 cases e:ixN ds.length i with
 | none=>rw [e] at h;cases h
 | some j =>
  rw [e] at h;exact r.at h
def zon(hu:X.A.units+64<cLine):IxR X fun x y H Q=>∃a z,x=.ref a/\zmV H a y (some z)/\Q z H:=by
 intro value slice pins s σ H x y v u Q I rx ry h hs;obtain ⟨a,z,rfl,g,q⟩:=h;cases rx;have hT:=zgW I g;unfold subscriptTail;refine yaa ?_;rw [getitemInPython_of_ne hT.not_modules];refine yaa (wpAny_specialOf hT PySem.F.slot_dict_getitem.lookup ?_)
 have fin:wpAny (model X.prog X.w) X.A (subscripted slice false (.ref a) u) (fun r s₃=>wpAny (model X.prog X.w) X.A (letTemporaryGo value (.ref a) r >>= fun _=>pure r) (EP X pins σ Q) X.xe s₃) X.xe s:=by
  rw [hs];exact wpAny_operating (zkc (by omega) I g ry fun w' s3 I3 rw'=>yaa (wpAny_letTemporaryGo (yaf ⟨z,H,I3,rw',q⟩)))
 first
  | exact yaf (yaa fin)
  | exact yaa (yaf (yaa fin))
  | exact yaa fin
def ztv(hK:X.K=cl.K)(hu:X.A.units+64<cLine):IxD X cl ixD:=by
 intro value slice pins s σ H x y v u Q I rx ry h hsub;obtain ⟨w,d,e,r,rfl,hx,hy,hg,q⟩:=h;unfold ixD at hg;split at hg
 ·rename_i l i;obtain ⟨p,xs,rfl,ep,rs⟩:=hx.lstI;obtain rfl:=hy.intI;obtain ⟨z,e1,e2⟩:=zhh rs hg;exact zjJ value slice pins s σ w.H _ _ v u Q I rx ry ⟨p,xs,i,z,rfl,rfl,SqL.of ep,e1,q _ w (Grow.refl _) e2⟩ hsub
 ·rename_i l i;obtain ⟨p,xs,rfl,ep,_,rs⟩:=hx.tupI;obtain rfl:=hy.intI;obtain ⟨z,e1,e2⟩:=zhh rs hg;exact zq5 value slice pins s σ w.H _ _ v u Q I rx ry ⟨p,xs,i,z,rfl,rfl,SqT.of ep,e1,q _ w (Grow.refl _) e2⟩ hsub
 ·rename_i l i;obtain ⟨p,rfl,ep⟩:=hx.scrI hK;obtain rfl:=hy.intI
  cases hl:atI l i with
  | none=>rw [hl] at hg;cases hg
  | some k =>
   rw [hl] at hg;cases hg
   have e1:atI (l.map V.int) i=some (.int k):=by
    unfold atI at hl ⊢;rw [yac]
    cases e:ixN l.length i with
    | none=>rw [e] at hl;cases hl
    | some j =>
     rw [e] at hl;have hl':l[j]?=some k:=hl;show (l.map V.int)[j]?=_;rw [yav,hl'];rfl
   exact zjJ value slice pins s σ w.H _ _ v u Q I rx ry ⟨p,_,i,_,rfl,rfl,ep,e1,q _ w (Grow.refl _) (.int _)⟩ hsub
 ·rename_i ds k;split at hg
  ·rename_i ho;obtain ⟨a,kvs,rfl,ea,ra⟩:=hx.dicI;obtain rfl:=hy.strI
   rcases zcD k ra ho with ⟨_,h2⟩ | ⟨z,d',h1,h2,h3⟩
   ·rw [h2] at hg;cases hg
   ·rw [h2] at hg;cases hg;exact zon hu value slice pins s σ w.H _ _ v u Q I rx ry ⟨a,z,rfl,.inl ⟨kvs,.inr k,ea,rfl,h1.symm⟩,q _ w (Grow.refl _) h3⟩ hsub
  ·cases hg
 ·rename_i x i;split at hg
  ·rename_i hz;obtain ⟨c,hc,rfl⟩:=yax.mp hg;obtain rfl:=hx.strI;obtain rfl:=hy.intI;exact zq6 value slice pins s σ w.H _ _ v u Q I rx ry ⟨x,i,c,rfl,rfl,zaA hz,hc,q _ w (Grow.refl _) (.str _)⟩ hsub
  ·cases hg
 ·cases hg
def zem:List D->Option D
 | [.lst l]=>some (.int l.length)
 | [.tup l]=>some (.int l.length)
 | [.scr l]=>some (.int l.length)
 | [.str x]=>if small x.length then some (.int x.length) else none
 | _=>none
def zrz(hK:X.K=cl.K):zfl X cl (.builtin "len") zem:=by
 intro pins s σ H xs us Q I r h;obtain ⟨w,ds,d,rfl,hx,hg,q⟩:=h;unfold zem at hg;split at hg
 ·rename_i l;cases hg
  cases hx with
  | cons h1 h2 =>
   cases h2;obtain ⟨p,ys,rfl,ep,rs⟩:=h1.lstI;refine zcp pins s σ w.H _ us Q I r ⟨p,ys,rfl,.inl (SqL.of ep),?_⟩;rw [rs.length];exact q _ w (Grow.refl _) (.int _)
 ·rename_i l;cases hg
  cases hx with
  | cons h1 h2 =>
   cases h2;obtain ⟨p,ys,rfl,ep,_,rs⟩:=h1.tupI;refine zcp pins s σ w.H _ us Q I r ⟨p,ys,rfl,.inr (SqT.of ep),?_⟩;rw [rs.length];exact q _ w (Grow.refl _) (.int _)
 ·rename_i l;cases hg
  cases hx with
  | cons h1 h2 =>
   cases h2;obtain ⟨p,rfl,ep⟩:=h1.scrI hK;refine zcp pins s σ w.H _ us Q I r ⟨p,l.map V.int,rfl,.inl ep,?_⟩;rw [yac];exact q _ w (Grow.refl _) (.int _)
 ·rename_i x;split at hg
  ·rename_i hz;cases hg
   cases hx with
   | cons h1 h2 =>
    cases h2;obtain rfl:=h1.strI;exact zf8 pins s σ w.H _ us Q I r ⟨x,rfl,zaA hz,q _ w (Grow.refl _) (.int _)⟩
  ·cases hg
 ·cases hg
noncomputable def zbJ:List D->Option D
 | [.lst l]=>some (.tup l)
 | [.tup l]=>some (.tup l)
 | _=>none
def zlW:zfl X cl (.type "tuple") zbJ:=by
 intro pins s σ H xs us Q I r h;obtain ⟨w,ds,d,rfl,hx,hg,q⟩:=h;unfold zbJ at hg;split at hg
 ·rename_i l;cases hg
  cases hx with
  | cons h1 h2 =>
   cases h2;obtain ⟨p,ys,rfl,ep,rs⟩:=h1.lstI;exact zc1 pins s σ w.H _ us Q I r ⟨p,ys,rfl,.inl ⟨SqL.of ep,fun l hl=>q _ (w.add l _) (zav hl _) (Shd.newT hl rs)⟩⟩
 ·rename_i l;cases hg
  cases hx with
  | cons h1 h2 =>
   cases h2;obtain ⟨p,ys,rfl,ep,kp,rs⟩:=h1.tupI;exact zc1 pins s σ w.H _ us Q I r ⟨p,ys,rfl,.inr ⟨SqT.of ep,q _ w (Grow.refl _) (.tup ep kp rs)⟩⟩
 ·cases hg
noncomputable def zn6:List D->Option D
 | [.lst l]=>some (.lst l)
 | [.tup l]=>some (.lst l)
 | _=>none
def zoF:zmd X cl (.type "list") zn6:=by
 intro pins s σ H xs us Q I r h;obtain ⟨w,ds,d,rfl,hx,hg,q⟩:=h;unfold zn6 at hg;split at hg
 ·rename_i l;cases hg
  cases hx with
  | cons h1 h2 =>
   cases h2;obtain ⟨p,ys,rfl,ep,rs⟩:=h1.lstI;exact zdw pins s σ w.H _ us Q I r ⟨p,ys,rfl,.inl (SqL.of ep),fun l hl=>q _ _ w (Grow.refl _) hl (.lst rs)⟩
 ·rename_i l;cases hg
  cases hx with
  | cons h1 h2 =>
   cases h2;obtain ⟨p,ys,rfl,ep,_,rs⟩:=h1.tupI;exact zdw pins s σ w.H _ us Q I r ⟨p,ys,rfl,.inr (SqT.of ep),fun l hl=>q _ _ w (Grow.refl _) hl (.lst rs)⟩
 ·cases hg
noncomputable def zfi:List D->Option (List Bool)
 | []=>some []
 | .bl b::l=>(zfi l).map (b::·)
 | _=>none
def zl3:∀{xs:List V},Shds cl w xs ds->zfi ds=some bs->xs=bs.map V.bl:=by
 induction ds generalizing bs with
 | nil=>intro xs r h;cases r;cases h;rfl
 | cons d ds ih =>
  intro xs r e
  cases r with
  | cons h t =>
   cases d with
   | bl b =>
    cases h;unfold zfi at e
    cases hr:zfi ds with
    | none=>rw [hr] at e;cases e
    | some cs=>rw [hr] at e;cases e;rw [ih t hr];rfl
   | _=>cases e
def zl5:List D->Option D
 | [.lst l]=>(zfi l).map fun bs=>.bl (bs.all id)
 | _=>none
def zrB(hc:X.calm=true):zfl X cl (.builtin "all") zl5:=by
 intro pins s σ H xs us Q I r h;obtain ⟨w,ds,d,rfl,hx,hg,q⟩:=h;unfold zl5 at hg;split at hg
 ·rename_i l
  cases hb:zfi l with
  | none=>rw [hb] at hg;cases hg
  | some bs =>
   rw [hb] at hg;cases hg
   cases hx with
   | cons h1 h2 =>
    cases h2;obtain ⟨p,ys,rfl,ep,rs⟩:=h1.lstI;obtain rfl:=zl3 rs hb;exact zg1 hc pins s σ w.H _ us Q I r ⟨p,bs,rfl,SqL.of ep,q _ w (Grow.refl _) (.bl _)⟩
 ·cases hg
noncomputable def zdr:List D->Option (List Int)
 | []=>some []
 | .int b::l=>(zdr l).map (b::·)
 | _=>none
def zjO:∀{xs:List V},Shds cl w xs ds->zdr ds=some bs->xs=bs.map V.int:=by
 induction ds generalizing bs with
 | nil=>intro xs r h;cases r;cases h;rfl
 | cons d ds ih =>
  intro xs r e
  cases r with
  | cons h t =>
   cases d with
   | int b =>
    cases h;unfold zdr at e
    cases hr:zdr ds with
    | none=>rw [hr] at e;cases e
    | some cs=>rw [hr] at e;cases e;rw [ih t hr];rfl
   | _=>cases e
end
end S2
namespace L2
open PySem PySem.Spec PyProof.Rows
def Itk(a:Addr)(ob:Obj)(kvs:List (Key×V)):It:=⟨fun i H=>H a=some (.frz ob (.dK kvs))/\i<kvs.length,fun i H v H'=>H'=H/\∃x,(kvs.map (·.1))[i]?=some (.inr x)/\v=.str x,fun i H=>H a=some (.frz ob (.dK kvs))/\i=kvs.length⟩
def zog{P:Program}{w:World}{x:Str}{v:Value}(h:(zap P w).is (.inr x) v=true):∃t,v=.str x t:=by
 have h':Value.isStrOf x v=true:=h
 cases v<;>first | (cases h';done) | skip
 rename_i y t
 have e:y=x:=by simpa [Value.isStrOf] using h'
 exact ⟨t,by rw [e]⟩
def zmF{X:Cx}{pins:Z3}{σ:St}{H:Hp}{s:Shared}{a:Addr}{ob:Obj}{kvs:List (Key×V)}{es:Array DictEntry}{ep:Nat}(I:Inv X pins σ H s)(e:H a=some (.frz ob (.dK kvs)))(hd:ob.data=.dict es ep):∃vs,KV kvs vs/\s.heap.DictAt (zap X.prog X.w) a vs ep:=by
 obtain ⟨g,x⟩:=(show zaG X.prog X.w H s.heap a (.frz ob (.dK kvs)) from I.hok a _ e);obtain ⟨_,_,vs,r,o',es',ep',g',c,d,za0⟩:=(show zaG X.prog X.w H s.heap a (.dK kvs) from x);rw [g] at g';cases g';rw [hd] at d;cases d;exact ⟨vs,r,ob,es,g,c,hd,za0⟩
def ziD{P:Program}{w:World}{K:PySem.W.Frag}{tg:Expr}(it a:Addr)(ob:Obj)(kvs:List (Key×V))(es:Array DictEntry)(ep:Nat)(hd:ob.data=.dict es ep)(ks:List Str)(hks:kvs.map (·.1)=ks.map Sum.inr):Turn P w K tg (Itk a ob kvs) [it] it (fun i h=>h.IsKeyIter it a i kvs.length ep) where
 mem:=by simp
 obj:=fun i h st b hb=>by
  have e:b=it:=by simpa using hb
  subst e;obtain ⟨o,e,c,d⟩:=st;exact ⟨o,e,fun v z=>by rw [d] at z;cases z⟩
 keep:=fun i h h' st k=>by
  obtain ⟨o,e,r⟩:=st;exact ⟨o,k it (by simp) o e,r⟩
 item:=by
  intro X hP hw hK hc i pins s σ H E I hf st hg;subst hP hw hK;obtain ⟨f0,f1,f2,f3,f4,f5⟩:=hf it (by simp);obtain ⟨vs,r,da⟩:=zmF I hg.1 hd
  have hne:a≠it:=fun z=>by have h1:H a=_:=hg.1;rw [z,f0] at h1;cases h1
  have st':s.heap.IsKeyIter it a i vs.length ep:=by rw [<-r.length];exact st
  refine (Walks.dictKeys (I.ok.hd hc) it a hne vs ep).item i s _ _ (by rw [<-r.length];exact hg.2) ⟨st',da⟩ fun v h' tk hv st2 kk=>?_
  obtain ⟨k,x,hx,hk⟩:=hv;have I1:Inv X pins σ H { s with heap:=h',toks:=tk }:=I.turned (fun b o hb e=>kk b o (by simpa using hb) e) f0 f1 f3 f4 f5
  have hki:(kvs.map (·.1))[i]?=some k:=by rw [r.keys,yav,hx];rfl
  have hki':=hki;rw [hks,yav] at hki';obtain ⟨y,hy,ek⟩:=yax.mp hki';subst ek;have st3:=st2.1;rw [<-r.length] at st3;obtain ⟨o,e,c',d⟩:=id st3;exact ⟨_,rfl,zjV (s:={ s with heap:=h',toks:=tk }) e c' d (by decide) ⟨.str y,H,I1,zog hk,⟨rfl,y,hki,rfl⟩,st3,fun b hb=>(hf b hb).1⟩⟩
 done:=by
  intro X hP hw hK hc i pins s σ H E I hf st hg;subst hP hw hK;obtain ⟨f0,f1,f2,f3,f4,f5⟩:=hf it (by simp);obtain ⟨vs,r,da⟩:=zmF I hg.1 hd
  have hne:a≠it:=fun z=>by have h1:H a=_:=hg.1;rw [z,f0] at h1;cases h1
  have hi:i=vs.length:=by rw [<-r.length];exact hg.2
  have st':s.heap.IsKeyIter it a vs.length vs.length ep:=by
   have:=st;rwa [r.length,hi] at this
  exact (Walks.dictKeys (I.ok.hd hc) it a hne vs ep).done s _ _ ⟨st',da⟩ fun h' tk kk=>⟨rfl,I.turned (fun b o hb e=>kk b o (by simpa using hb) e) f0 f1 f3 f4 f5⟩
 self:=fun A i s Q E st h=>wpAny_pyIter_keyiter st h
noncomputable def zwI(tl:TE):TI:=fun σ H R=>tl σ H fun v H1=>∃a ob kvs,v=.ref a/\H1 a=some (.frz ob (.dK kvs))/\(∃ks:List Str,kvs.map (·.1)=ks.map Sum.inr)/\R (Itk a ob kvs) H1
def znO{X:Cx}{tg l:Expr}{tl:TE}(hl:PE X l tl):PI X tg l (zwI tl):=by
 intro pins s σ H R I h;refine thn (hl pins s σ H _ I h) fun v s1 ⟨x,H1,I1,r1,q1⟩=>?_
 obtain ⟨a,ob,kvs,e,ha,⟨ks,hks⟩,q⟩:=q1;subst e;cases r1;obtain ⟨g,x⟩:=(show zaG X.prog X.w H1 s1.heap a (.frz ob (.dK kvs)) from I1.hok a _ ha);obtain ⟨_,z,vs,r,o',es,ep,g',c,d,za0⟩:=(show zaG X.prog X.w H1 s1.heap a (.dK kvs) from x)
 have eo:o'=ob:=by rw [g] at g';cases g';rfl
 subst eo;have da:s1.heap.DictAt (zap X.prog X.w) a vs ep:=⟨o',es,g,c,d,za0⟩;refine wpAny_pyIter_dict z da ?_;refine ⟨s1.heap.objs.size,[s1.heap.objs.size],_,_,H1,rfl,I1.kept (t':=s1.toks) fun b o e=>yae _ e,ziD _ a o' kvs es ep d ks hks,?_,fun b hb=>?_,q⟩
 ·rw [r.length];exact ⟨_,yat _ rfl,rfl,rfl⟩
 ·have e:b=s1.heap.objs.size:=by simpa using hb
  subst e;exact I1.fpOk (yak _) (I1.hok.fresh (yak _))
end L2
namespace S2
open PySem PySem.Spec PyProof.Rows L2
def zc0(g g':D->D->Option D)(f h k:Fe):Fe:=fun ρ S=>(f ρ S).bind fun a S1=>(h ρ S1).bind fun b S2=>match (g a b).bind isB with
 | some true=>(k ρ S2).bind fun c S3=>Out.of (g' b c) S3
 | some false=>.ok (.bl false) S2
 | none=>.bad
section
variable{X:Cx}{cl:Cf}{E:St->XK}{a b c e:Expr}{f h k:Fe}{pos:Pos}
def zhb(hr:∀x y H Q,(∃w d e r,w.H=H/\TopV cl w x d/\TopV cl w y e/\g d e=some r/\∀v w',Grow w w'->Shd cl w' v r->Q v w'.H)->r x y H Q)
  (hr':∀x y H Q,(∃w d e r,w.H=H/\TopV cl w x d/\TopV cl w y e/\g' d e=some r/\∀v w',Grow w w'->Shd cl w' v r->Q v w'.H)->r' x y H Q) (q:tE cl E (zc0 g g' f h k) σ H Q):ziN r r' (tH cl E f) (tH cl E h) (tH cl E k) σ H Q:=by
 obtain ⟨B,w,ρ,S,rfl,R,q⟩:=q;refine ⟨B,w,ρ,S,rfl,R,?_⟩;unfold zc0 at q
 cases hf:f ρ S with
 | bad=>rwa [hf] at q
 | exc c S1=>rwa [hf] at q
 | ok d S1 =>
  rw [hf] at q;intro v w1 R1 F1 h1;refine ⟨B,w1,ρ,S1,rfl,R1,?_⟩;dsimp only [Out.bind] at q
  cases hh:h ρ S1 with
  | bad=>rwa [hh] at q
  | exc c S2=>rw [hh] at q;exact fun w2 R2 F2=>q w2 R2 (F1.trans F2)
  | ok e S2 =>
   rw [hh] at q;intro y w2 R2 F2 h2;dsimp only at q
   cases hg:g d e with
   | none=>rw [hg] at q;exact q.elim
   | some z =>
    rw [hg] at q;dsimp only [Option.bind] at q
    cases hb:isB z with
    | none=>rw [hb] at q;exact q.elim
    | some bb =>
     rw [hb] at q;rw [zcw hb] at hg;refine hr _ _ _ _ ⟨w2,d,e,_,rfl,(h1.up F2).top R2,h2.top R2,hg,fun v' w3 gr sh=>⟨bb,zfw sh,?_⟩⟩;have R3:=R2.grow gr
     cases bb with
     | false=>exact zmB (q _ w3 R3 (F1.trans (F2.trans gr.fut)) (.bl _))
     | true =>
      refine zmA ⟨B,w3,ρ,S2,rfl,R3,?_⟩;dsimp only at q
      cases hk:k ρ S2 with
      | bad=>rwa [hk] at q
      | exc c S3=>rw [hk] at q;exact fun w4 R4 F4=>q w4 R4 (F1.trans (F2.trans (gr.fut.trans F4)))
      | ok c S3 =>
       rw [hk] at q;intro z' w4 R4 F4 h4;dsimp only at q
       cases hg':g' e c with
       | none=>rw [hg'] at q;exact q.elim
       | some r2 =>
        rw [hg'] at q;exact hr' _ _ _ _ ⟨w4,e,c,r2,rfl,(h2.up (gr.fut.trans F4)).top R4,h4.top R4,hg',fun v' w5 gr5 sh5=>q v' w5 (R4.grow gr5) (F1.trans (F2.trans (gr.fut.trans (F4.trans gr5.fut)))) sh5⟩
def zkY(ho:OpD X cl (compareOp op) g)(ho':OpD X cl (compareOp op') g')(ha:PE X a (tH cl E f))(hb:PE X b (tH cl E h))(hc:PE X c (tH cl E k))(hm:lastMarks [op,op'] [b,c]=false):PE X (.Compare a [op,op'] [b,c] pos) (tE cl E (zc0 g g' f h k)) :=
 PE.imp (zlk ho ho' ha hb hc hm) fun _ _ _ q=>zhb (fun _ _ _ _ z=>z) (fun _ _ _ _ z=>z) q
def zkO(ho:OpD X cl (compareOp op) g)(ho':OpD X cl (compareOp op') g')(ha:PE X a (tH cl E f))(hb:PE X b (tH cl E h))(hc:PE X c (tH cl E k))(hm:lastMarks [op,op'] [b,c]=false):PT X (.Compare a [op,op'] [b,c] pos) (tTr cl E (zc0 g g' f h k)) :=
 PT.imp (zk6 ho ho' ha hb hc hm) fun _ _ _ q=>zhb (fun _ _ _ _ z=>z) (fun _ _ _ _ z=>z) (ziK q)
def zoY{α:Type}(l:List α)(lo hi:Option Int):List α:=(l.drop (HT.sIx l.length 0 lo)).take (HT.sIx l.length l.length hi-HT.sIx l.length 0 lo)
def slD(d:D)(lo hi:Option Int):Option D:=match d with
 | .lst l=>some (.lst (zoY l lo hi))
 | .tup l=>some (.tup (zoY l lo hi))
 | .str x=>if small x.length then some (.str (Txt.slice x lo hi)) else none
 | _=>none
def zcc(o:Option Fe)(ρ:Env)(S:Sto):Out (Option Int):=match o with
 | none=>.ok none S
 | some f=>(f ρ S).bind fun d S1=>match d with | .int i=>.ok (some i) S1 | _=>.bad
def eSl(f:Fe)(lo hi:Option Fe):Fe:=fun ρ S=>(f ρ S).bind fun d S1=>(zcc lo ρ S1).bind fun l S2=>(zcc hi ρ S2).bind fun u S3=>Out.of (slD d l u) S3
def zf4(r:Shds cl w xs ds)(lo hi:Option Int):Shds cl w (zmM xs lo hi) (zoY ds lo hi):=by
 unfold zmM zoY;rw [r.length];exact (r.drop _).take _
noncomputable def SlD(X:Cx)(cl:Cf):Prop:=SlR X fun x lo hi H Q=>∃w d r,w.H=H/\TopV cl w x d/\slD d lo hi=some r/\∀v w',Grow w w'->Shd cl w' v r->Q v w'.H
def zsR:SlD X cl:=by
 intro pins s σ H x v vl vu lo hi sl Q I rx hs pl pu h;obtain ⟨w,d,r,rfl,hx,hg,q⟩:=h;unfold slD at hg;split at hg
 ·rename_i l;cases hg;obtain ⟨p,xs,rfl,ep,rs⟩:=hx.lstI;exact znm pins s σ w.H _ v vl vu lo hi sl Q I rx hs pl pu ⟨p,xs,rfl,SqL.of ep,fun p' hp=>q _ (w.add p' _) (zav hp _) (Shd.newL hp (zf4 rs lo hi))⟩
 ·rename_i l;cases hg;obtain ⟨p,xs,rfl,ep,kp,rs⟩:=hx.tupI
  by_cases hw:HT.sIx xs.length 0 lo=0/\HT.sIx xs.length xs.length hi=xs.length
  ·refine zh4 pins s σ w.H _ v vl vu lo hi sl Q I rx hs pl pu ⟨p,xs,rfl,SqT.of ep,hw.1,hw.2,q _ w (Grow.refl _) (.tup ep kp ?_)⟩
   have:zoY l lo hi=l:=by
    unfold zoY;rw [<-rs.length,hw.1,hw.2,ycI,Nat.sub_zero,yce (by rw [rs.length];exact yak _)]
   rw [this];exact rs
  ·exact zpD pins s σ w.H _ v vl vu lo hi sl Q I rx hs pl pu ⟨p,xs,rfl,SqT.of ep,hw,fun p' hp=>q _ (w.add p' _) (zav hp _) (Shd.newT hp (zf4 rs lo hi))⟩
 ·rename_i x;split at hg
  ·rename_i hz;cases hg;obtain rfl:=hx.strI;obtain ⟨t,rfl⟩:=rx;obtain ⟨o,ho,hc,hd⟩:=hs
   have fin:∀l u:Option (Int×Tok),vl=partValue l->vu=partValue u->lo=l.map (·.1)->hi=u.map (·.1)->wpAny (model X.prog X.w) X.A (getItem (.str x t) (.ref sl)) (EP X pins σ Q) X.xe s:=fun l u e1 e2 e3 e4=>by
    subst e1 e2 e3 e4;refine wpAny_getItem_str_slice (st:=none) ⟨o,ho,hc,hd⟩ rfl ?_;exact post_val_or_str ⟨yaw (Txt.slice_le x _ _) (zaA hz),fun t' k=>⟨.str _,w.H,I.tok _,⟨_,rfl⟩,q _ w (Grow.refl _) (.str _)⟩⟩
   refine ⟨"str",_,F.slot_str_getitem.lookup,yb0 _ _ _,?_⟩
   cases pl with
   | none=>cases pu with
    | none=>exact fin none none rfl rfl rfl rfl
    | int j tj=>exact fin none (some (j,tj)) rfl rfl rfl rfl
   | int i ti=>cases pu with
    | none=>exact fin (some (i,ti)) none rfl rfl rfl rfl
    | int j tj=>exact fin (some (i,ti)) (some (j,tj)) rfl rfl rfl rfl
  ·cases hg
 ·cases hg
noncomputable def zrV(cl:Cf)(E:St->XK)(o:Option Fe):TO:=match o with | none=>ziM | some f=>zpi (tH cl E f)
def zpN{lo hi:Option Expr}{fl fh:Option Fe}{p2:Pos}(he:PE X e (tH cl E f))(hl:PO X lo (zrV cl E fl))(hu:PO X hi (zrV cl E fh)):PE X (.Subscript e (.Slice lo hi none p2) pos) (tE cl E (eSl f fl fh)):=by
 refine PE.imp (zlf (zsR (cl:=cl)) he hl hu) ?_;rintro σ H Q ⟨B,w,ρ,S,rfl,R,q⟩;refine ⟨B,w,ρ,S,rfl,R,?_⟩;unfold eSl at q
 cases hf:f ρ S with
 | bad=>rwa [hf] at q
 | exc c S1=>rwa [hf] at q
 | ok d S1 =>
  rw [hf] at q;intro v w1 R1 F1 h1;dsimp only [Out.bind] at q
  have last:∀(l u:Option Int) (w3:Wd) (S3:Sto),Rel cl B σ w3 ρ S3->Fut w1 w3->(match Out.of (slD d l u) S3 with
    | .ok d S'=>∀v w',Rel cl B σ w' ρ S'->Fut w w'->Shd cl w' v d->Q v w'.H
    | .exc c S'=>∀w',Rel cl B σ w' ρ S'->Fut w w'->E σ (.ref (cl c)) none w'.H
    | .bad=>False)->∃w d r,w.H=w3.H/\TopV cl w v d/\slD d l u=some r/\∀v w',Grow w w'->Shd cl w' v r->Q v w'.H:=by
   intro l u w3 S3 R3 F3 q3
   cases hg:slD d l u with
   | none=>rw [hg] at q3;exact q3.elim
   | some r =>
    rw [hg] at q3;exact ⟨w3,d,r,rfl,(h1.up F3).top R3,hg,fun v' w' gr sh=>q3 v' w' (R3.grow gr) (F1.trans (F3.trans gr.fut)) sh⟩
  have second:∀(l:Option Int) (w2:Wd) (S2:Sto),Rel cl B σ w2 ρ S2->Fut w1 w2->(match (zcc fh ρ S2).bind fun u S3=>Out.of (slD d l u) S3 with
    | .ok d S'=>∀v w',Rel cl B σ w' ρ S'->Fut w w'->Shd cl w' v d->Q v w'.H
    | .exc c S'=>∀w',Rel cl B σ w' ρ S'->Fut w w'->E σ (.ref (cl c)) none w'.H
    | .bad=>False)->zrV cl E fh σ w2.H fun u H3=>∃w d r,w.H=H3/\TopV cl w v d/\slD d l u=some r/\∀v w',Grow w w'->Shd cl w' v r->Q v w'.H:=by
   intro l w2 S2 R2 F2 q2
   cases fh with
   | none=>exact last l none w2 S2 R2 F2 q2
   | some fh =>
    refine ⟨B,w2,ρ,S2,rfl,R2,?_⟩;unfold zcc at q2;dsimp only at q2
    cases hh:fh ρ S2 with
    | bad=>rwa [hh] at q2
    | exc c S3=>rw [hh] at q2;exact fun w3 R3 F3=>q2 w3 R3 (F1.trans (F2.trans F3))
    | ok dh S3 =>
     rw [hh] at q2;intro y w3 R3 F3 h3;dsimp only [Out.bind] at q2
     cases dh with
     | int i =>
      refine ⟨i,(h3.top R3).intI,?_⟩;exact last l (some i) w3 S3 R3 (F2.trans F3) q2
     | _=>exact q2.elim
  cases fl with
  | none=>exact second none w1 S1 R1 (Fut.refl _) q
  | some fl =>
   refine ⟨B,w1,ρ,S1,rfl,R1,?_⟩;unfold zcc at q;dsimp only at q
   cases hh:fl ρ S1 with
   | bad=>rwa [hh] at q
   | exc c S3=>rw [hh] at q;exact fun w3 R3 F3=>q w3 R3 (F1.trans F3)
   | ok dl S2 =>
    rw [hh] at q;intro y w2 R2 F2 h2;dsimp only [Out.bind] at q
    cases dl with
    | int i =>
     refine ⟨i,(h2.top R2).intI,?_⟩;exact second (some i) w2 S2 R2 F2 q
    | _=>exact q.elim
noncomputable def zcW(T:String)(d:D):Option D :=
 if T = "int" then (match d with | .int _=>some (.bl true) | .bl _=>some (.bl true) | .non=>some (.bl false) | .str _=>some (.bl false) | .tup _=>some (.bl false) | .lst _=>some (.bl false) | _=>none)
 else if T = "bool" then (match d with | .int _=>some (.bl false) | .bl _=>some (.bl true) | .non=>some (.bl false) | .str _=>some (.bl false) | .tup _=>some (.bl false) | .lst _=>some (.bl false) | _=>none)
 else if T = "tuple" then (match d with | .int _=>some (.bl false) | .bl _=>some (.bl false) | .non=>some (.bl false) | .str _=>some (.bl false) | .tup _=>some (.bl true) | .lst _=>some (.bl false) | _=>none)
 else if T = "str" then (match d with | .int _=>some (.bl false) | .bl _=>some (.bl false) | .non=>some (.bl false) | .str _=>some (.bl true) | .tup _=>some (.bl false) | .lst _=>some (.bl false) | _=>none)
 else if T = "list" then (match d with | .int _=>some (.bl false) | .bl _=>some (.bl false) | .non=>some (.bl false) | .str _=>some (.bl false) | .tup _=>some (.bl false) | .lst _=>some (.bl true) | _=>none)
 else none
def zos{K:PySem.W.Frag}{w:Wd}(h:TopV cl w v d)(hg:zcW T d=some r):∃t b,TyOf K w.H v t/\PySem.W.kitOne K t (.type T)=some b/\r=.bl b:=by
 unfold zcW at hg;split at hg
 ·rename_i hT;subst hT
  split at hg<;>cases hg
  ·obtain rfl:=h.intI;exact ⟨_,_,.int _,by with_unfolding_all rfl,rfl⟩
  ·obtain rfl:=h.blI;exact ⟨_,_,.bl _,by with_unfolding_all rfl,rfl⟩
  ·obtain rfl:=h.nonI;exact ⟨_,_,.non,by with_unfolding_all rfl,rfl⟩
  ·obtain rfl:=h.strI;exact ⟨_,_,.str _,by with_unfolding_all rfl,rfl⟩
  ·obtain ⟨_,_,rfl,e,_⟩:=h.tupI;exact ⟨_,_,.tup e,by with_unfolding_all rfl,rfl⟩
  ·obtain ⟨_,_,rfl,e,_⟩:=h.lstI;exact ⟨_,_,.lst e,by with_unfolding_all rfl,rfl⟩
 split at hg
 ·rename_i hT;subst hT
  split at hg<;>cases hg
  ·obtain rfl:=h.intI;exact ⟨_,_,.int _,by with_unfolding_all rfl,rfl⟩
  ·obtain rfl:=h.blI;exact ⟨_,_,.bl _,by with_unfolding_all rfl,rfl⟩
  ·obtain rfl:=h.nonI;exact ⟨_,_,.non,by with_unfolding_all rfl,rfl⟩
  ·obtain rfl:=h.strI;exact ⟨_,_,.str _,by with_unfolding_all rfl,rfl⟩
  ·obtain ⟨_,_,rfl,e,_⟩:=h.tupI;exact ⟨_,_,.tup e,by with_unfolding_all rfl,rfl⟩
  ·obtain ⟨_,_,rfl,e,_⟩:=h.lstI;exact ⟨_,_,.lst e,by with_unfolding_all rfl,rfl⟩
 split at hg
 ·rename_i hT;subst hT
  split at hg<;>cases hg
  ·obtain rfl:=h.intI;exact ⟨_,_,.int _,by with_unfolding_all rfl,rfl⟩
  ·obtain rfl:=h.blI;exact ⟨_,_,.bl _,by with_unfolding_all rfl,rfl⟩
  ·obtain rfl:=h.nonI;exact ⟨_,_,.non,by with_unfolding_all rfl,rfl⟩
  ·obtain rfl:=h.strI;exact ⟨_,_,.str _,by with_unfolding_all rfl,rfl⟩
  ·obtain ⟨_,_,rfl,e,_⟩:=h.tupI;exact ⟨_,_,.tup e,by with_unfolding_all rfl,rfl⟩
  ·obtain ⟨_,_,rfl,e,_⟩:=h.lstI;exact ⟨_,_,.lst e,by with_unfolding_all rfl,rfl⟩
 split at hg
 ·rename_i hT;subst hT
  split at hg<;>cases hg
  ·obtain rfl:=h.intI;exact ⟨_,_,.int _,by with_unfolding_all rfl,rfl⟩
  ·obtain rfl:=h.blI;exact ⟨_,_,.bl _,by with_unfolding_all rfl,rfl⟩
  ·obtain rfl:=h.nonI;exact ⟨_,_,.non,by with_unfolding_all rfl,rfl⟩
  ·obtain rfl:=h.strI;exact ⟨_,_,.str _,by with_unfolding_all rfl,rfl⟩
  ·obtain ⟨_,_,rfl,e,_⟩:=h.tupI;exact ⟨_,_,.tup e,by with_unfolding_all rfl,rfl⟩
  ·obtain ⟨_,_,rfl,e,_⟩:=h.lstI;exact ⟨_,_,.lst e,by with_unfolding_all rfl,rfl⟩
 split at hg
 ·rename_i hT;subst hT
  split at hg<;>cases hg
  ·obtain rfl:=h.intI;exact ⟨_,_,.int _,by with_unfolding_all rfl,rfl⟩
  ·obtain rfl:=h.blI;exact ⟨_,_,.bl _,by with_unfolding_all rfl,rfl⟩
  ·obtain rfl:=h.nonI;exact ⟨_,_,.non,by with_unfolding_all rfl,rfl⟩
  ·obtain rfl:=h.strI;exact ⟨_,_,.str _,by with_unfolding_all rfl,rfl⟩
  ·obtain ⟨_,_,rfl,e,_⟩:=h.tupI;exact ⟨_,_,.tup e,by with_unfolding_all rfl,rfl⟩
  ·obtain ⟨_,_,rfl,e,_⟩:=h.lstI;exact ⟨_,_,.lst e,by with_unfolding_all rfl,rfl⟩
 ·cases hg
theorem zgb:bootBuiltins "isinstance" = some (.builtin "isinstance"):=by decide +kernel
def znr(hg:Gl X "isinstance")(hm:X.mg "isinstance" = none)(hgT:Gl X x)(hmT:X.mg x=none)(hvT:bootBuiltins x=some (.type T))(hn:x ≠ "__name__")(hdb:(x == ("__debug__":Str))=false)(hp:za4 e=true)(he:PE X e (tH cl E f)) :
  PE X (.Call (.Name "isinstance" p) [e,.Name x p2] [] pos) (tE cl E (eUn (zcW T) f)):=by
 refine PE.imp (zcQ zg0 hg hm zgb (zbB he (zbB (zjh (v:=.ty T) hgT hmT hvT rfl hn hdb) zdp rfl) (za7 hp)) (he:=za7 hp) (hpl:=rfl)) ?_;rintro σ H Q ⟨B,w,ρ,S,rfl,R,q⟩;refine ⟨B,w,ρ,S,rfl,R,?_⟩;unfold eUn at q
 cases hf:f ρ S with
 | bad=>rwa [hf] at q
 | exc c S1=>rwa [hf] at q
 | ok d S1 =>
  rw [hf] at q;intro v w1 R1 F1 h1;dsimp only [Out.bind] at q
  cases hg:zcW T d with
  | none=>rw [hg] at q;exact q.elim
  | some r =>
   rw [hg] at q;obtain ⟨t,b,h2,h3,rfl⟩:=zos (K:=X.K) (h1.top R1) hg;exact ⟨v,t,T,b,rfl,h2,h3,q _ w1 R1 F1 (.bl _)⟩
noncomputable def ziy(x:Str):List D:=x.cps.toList.map fun c=>D.str ⟨#[c]⟩
def zgU(f:Fe):Fi:=fun ρ S=>(f ρ S).bind fun d S1=>match d with | .str x=>.ok (ziy x) S1 | _=>.bad
def zpG{tg:Expr}(he:PE X e (tE cl E f)):PI X tg e (tI cl E (zgU f)):=by
 refine PI.imp (zqf he) ?_;rintro σ H Q ⟨B,w,ρ,S,rfl,R,q⟩;refine ⟨B,w,ρ,S,rfl,R,?_⟩;unfold zgU at q
 cases hf:f ρ S with
 | bad=>rwa [hf] at q
 | exc c S1=>rwa [hf] at q
 | ok d S1 =>
  rw [hf] at q;intro v w' R' F' h';dsimp only [Out.bind] at q
  cases h' with
  | str x =>
   refine ⟨x,rfl,q _ w' R' F' ?_⟩
   have hl:(ziy x).length=x.cps.size:=by simp [ziy]
   refine ⟨fun w1 F1 i hi=>?_,fun w1 F1=>?_,fun w1 F1 i d v H1 hd y=>?_⟩
   ·show i<x.cps.size;rw [<-hl];exact hi
   ·exact hl
   ·obtain ⟨rfl,c,hc,rfl⟩:=y;refine ⟨w1,rfl,Grow.refl _,?_⟩
    have e:(ziy x)[i]?=some (.str ⟨#[c]⟩):=by
     unfold ziy;rw [yav,yaZ,hc];rfl
    rw [hd] at e;cases e;exact .str _
  | _=>exact q.elim
def zgT(f:Fe):Fi:=fun ρ S=>(f ρ S).bind fun d S1=>match d with | .dic ds=>if zaz ds then .ok ((zeZ ds).map D.str) S1 else .bad | _=>.bad
def zpH{tg:Expr}(he:PE X e (tE cl E f)):PI X tg e (tI cl E (zgT f)):=by
 refine PI.imp (znO he) ?_;rintro σ H Q ⟨B,w,ρ,S,rfl,R,q⟩;refine ⟨B,w,ρ,S,rfl,R,?_⟩;unfold zgT at q
 cases hf:f ρ S with
 | bad=>rwa [hf] at q
 | exc c S1=>rwa [hf] at q
 | ok d S1 =>
  rw [hf] at q;intro v w' R' F' h';dsimp only [Out.bind] at q
  cases h' with
  | dicK ea ka ra =>
   rename_i ob kvs ds
   by_cases ho:zaz ds=true
   ·dsimp only at q;rw [if_pos ho] at q;obtain ⟨h1,h2⟩:=zeY ra ho
    have hl:kvs.length=((zeZ ds).map D.str).length:=by rw [yac,h2,ra.length]
    refine ⟨_,ob,kvs,rfl,ea,⟨_,h1⟩,q _ w' R' F' ⟨fun w1 F1 i hi=>⟨(F1.keep _ _ ea ka).1,by rw [hl];exact hi⟩,fun w1 F1=>⟨(F1.keep _ _ ea ka).1,hl.symm⟩,fun w1 F1 i d v H1 hd y=>?_⟩⟩;obtain ⟨rfl,x,hx,rfl⟩:=y;rw [h1,yav] at hx;obtain ⟨z,hz,ez⟩:=yax.mp hx;cases ez;rw [yav,hz] at hd;cases hd;exact ⟨w1,rfl,Grow.refl _,.str _⟩
   ·dsimp only at q;rw [if_neg ho] at q;exact q.elim
  | _=>exact q.elim
def zas(f:Fe):Fi:=fun ρ S=>(f ρ S).bind fun d S1=>match d with | .str x=>.ok (ziy x) S1 | .lst l=>.ok l S1 | .tup l=>.ok l S1 | .dic ds=>if zaz ds then .ok ((zeZ ds).map D.str) S1 else .bad | _=>.bad
def zpI(hK:X.K=cl.K)(he:PE X e (tE cl E f)):PI X tg e (tI cl E (zas f)):=by
 intro pins s σ H R' I q;obtain ⟨B,w,ρ,S,rfl,R,q⟩:=q;unfold zas at q
 cases hf:f ρ S with
 | bad=>rw [hf] at q;exact q.elim
 | exc c S1 =>
  refine ziT he pins s σ w.H R' I ⟨B,w,ρ,S,rfl,R,?_⟩;unfold zhL;rw [hf] at q ⊢;exact q
 | ok d S1 =>
  rw [hf] at q;dsimp only [Out.bind] at q
  cases d with
  | lst l =>
   refine ziT he pins s σ w.H R' I ⟨B,w,ρ,S,rfl,R,?_⟩;unfold zhL;rw [hf];exact q
  | tup l =>
   refine zpF he pins s σ w.H R' I ⟨B,w,ρ,S,rfl,R,?_⟩;unfold zgS;rw [hf];exact q
  | str x =>
   refine zpG he pins s σ w.H R' I ⟨B,w,ρ,S,rfl,R,?_⟩;unfold zgU;rw [hf];exact q
  | dic ds =>
   refine zpH he pins s σ w.H R' I ⟨B,w,ρ,S,rfl,R,?_⟩;unfold zgT;rw [hf];exact q
  | _=>exact q.elim
end
end S2
namespace L2
open PySem PySem.Spec PyProof.Rows
noncomputable abbrev IsT(h:Heap)(T:Addr)(os:List Value):Prop:=h.get? T=some { cls:=.type "tuple",data:=.seq os.toArray }
noncomputable abbrev Stops(h:Heap)(e:Addr):Prop:=∃o,h.get? e=some o/\o.cls=.type "StopIteration"
structure ZSt(a l m i:Nat)(f:Value)(h:Heap):Prop where
 z:IsZip h (a+4) (a+2) (a+3) f
 ti:IsT h (a+2) [.ref a,.ref (a+1)]
 to:∃x y,IsT h (a+3) [x,y]
 i1:h.IsTupleIter a l i
 i2:h.IsTupleIter (a+1) m i
section
variable{prog:Program}{w:World}{A:Around}{E:Z5}{s:Shared}{a l m k:Nat}{us vs:Array Value}
def zha{h h':Heap}{t:Addr}(p:h.IsTuple t vs)(q:∀o,h.get? t=some o->h'.get? t=some o):h'.IsTuple t vs:=by
 obtain ⟨o,ho,r⟩:=p;exact ⟨o,q o ho,r⟩
theorem zmW{β:Type}{f:Value×Nat->β->Sem (ForInStep β)}{b:β}{Q:β->Shared->Prop}{x0 y0:Value}
  (hf:∀(c l n:Nat) (vs:Array Value) (os:List Value) (s:Shared) (Q:ForInStep β->Shared->Prop),l<c->c<a+3->os.length=2->IsZip s.heap (a+4) (a+2) (a+3) .ellipsis->IsT s.heap (a+3) os->s.heap.IsTupleIter c l k->s.heap.IsTuple l vs->k<=vs.size →
   (∀x h' tk,vs[k]?=some x->IsT h' (a+3) (os.set n x)->h'.IsTupleIter c l (k+1)->h'.objs.size=s.heap.objs.size->(∀(d:Nat) (o:Obj),d≠a+3->d≠c->s.heap.get? d=some o->h'.get? d=some o)->Q (.yield b) { s with heap:=h',toks:=tk }) →
   (k=vs.size->∀h' e tk,(∀(d:Nat) (o:Obj),d≠a+4->d≠c->s.heap.get? d=some o->h'.get? d=some o)->Stops h' e->E (.ref e) { s with heap:=h',toks:=tk })->wpAny (model prog w) A (f (.ref c,n) b) Q E s)
  (hl:l<a) (hm:m<a) (hz:IsZip s.heap (a+4) (a+2) (a+3) .ellipsis) (hO:IsT s.heap (a+3) [x0,y0]) (h1:s.heap.IsTupleIter a l k) (h2:s.heap.IsTupleIter (a+1) m k) (hu:s.heap.IsTuple l us) (hv:s.heap.IsTuple m vs) (hk:k<=us.size) (hk2:k<=vs.size)
  (hQ:∀x y h' tk,us[k]?=some x->vs[k]?=some y->IsT h' (a+3) [x,y]->h'.IsTupleIter a l (k+1)->h'.IsTupleIter (a+1) m (k+1)->h'.objs.size=s.heap.objs.size->(∀(d:Nat) (o:Obj),d≠a->d≠a+1->d≠a+3->s.heap.get? d=some o->h'.get? d=some o)->Q b { s with heap:=h',toks:=tk })
  (hE:(k=us.size\/k=vs.size)->∀h' e tk,(∀(d:Nat) (o:Obj),(d<a\/a+4<d)->s.heap.get? d=some o->h'.get? d=some o)->Stops h' e->E (.ref e) { s with heap:=h',toks:=tk }) :
  wpAny (model prog w) A (forIn [((.ref a:Value),0),(.ref (a+1),1)] b f) Q E s:=by
 rw [ycw];refine yaa (hf a l 0 us _ s _ hl (by omega) rfl hz hO h1 hu hk (fun x g tk hx hO1 hI1 hs1 k1=>?_) (fun e h' e' tk k1=>hE (.inl e) h' e' tk fun d o p q=>k1 d o (by omega) (by omega) q));show wpAny _ _ (forIn [((.ref (a+1):Value),1)] b f) _ _ _;rw [ycw];refine yaa (hf (a+1) m 1 vs _ _ _ (by omega) (by omega) rfl (k1 _ _ (by omega) (by omega) hz) hO1 (h2.at fun o e=>k1 _ o (by omega) (by omega) e) (zha hv fun o e=>k1 _ o (by omega) (by omega) e) hk2 (fun y g2 tk2 hy hO2 hI2 hs2 k2=>?_) (fun e h' e' tk' k2=>hE (.inr e) h' e' tk' fun d o p q=>k2 d o (by omega) (by omega) (k1 d o (by omega) (by omega) q)));exact yaf (hQ x y g2 tk2 hx hy hO2 (hI1.at fun o e=>k2 _ o (by omega) (by omega) e) hI2 (hs2.trans hs1) fun d o p1 p2 p3 e=>k2 d o p3 p2 (k1 d o p3 p1 e))
theorem zg5{Q:Z5}(hh:A.handled=none)(Z:ZSt a l m k .none s.heap)(hl:l<a)(hm:m<a)(hu:s.heap.IsTuple l us)(hv:s.heap.IsTuple m vs)(hk:k<=us.size)(hk2:k<=vs.size)
  (hQ:∀x y h' tk,us[k]?=some x->vs[k]?=some y->ZSt a l m (k+1) (rawInt s.heap.objs.size) h'->IsT h' s.heap.objs.size [x,y]->(∀(c:Nat) (o:Obj),(c<a\/a+4<c)->s.heap.get? c=some o->h'.get? c=some o)->Q (.ref s.heap.objs.size) { s with heap:=h',toks:=tk })
  (hE:(k=us.size\/k=vs.size)->∀h' e tk,(∀(c:Nat) (o:Obj),(c<a\/a+4<c)->s.heap.get? c=some o->h'.get? c=some o)->Stops h' e->E (.ref e) { s with heap:=h',toks:=tk }) :
  wpAny (model prog w) A (Builtin.«zip.__next__» ⟨[.ref (a+4)],[]⟩) (fun fin s'=>∃v,fin=.done (.ret v)/\Q v s') E s:=by
 obtain ⟨hz,hI,⟨x0,y0,hO⟩,h1,h2⟩:=Z;show wpAny _ _ (field (.ref (a+4)) 2 >>= _) _ _ _;refine yaa (ybw hz rfl (x:=.bool false) rfl ?_);show wpAny _ _ (field (.ref (a+4)) 3 >>= _) _ _ _;refine yaa (ybw hz rfl (x:=.ref (a+2)) rfl ?_);refine yaa (ybx hI rfl ?_);show wpAny _ _ (Builtin.SmallTypes.ownedTupleIsFree (.ref (a+4)) >>= _) _ _ _;refine yaa ?_;unfold Builtin.SmallTypes.ownedTupleIsFree;refine yaa (ybw hz rfl (x:=.none) rfl (yaf ?_));simp only [ybK];refine yaa (ycV ?_);refine yaa (ybw hz rfl (x:=.ref (a+3)) rfl ?_);refine yaa (yca hz (by simp) fun g hz₁ hs₁=>?_);replace hz₁:IsZip g (a+4) (a+2) (a+3) .ellipsis:=hz₁;have k₁:∀(c:Nat) (o:Obj),c≠a+4->s.heap.get? c=some o->g.get? c=some o:=fun c o hc e=>hs₁.extBut _ _ hc e
 refine yaa (zmW (a:=a) (l:=l) (m:=m) (k:=k) (us:=us) (vs:=vs) (fun c l n vs os s Q hc hb ho hz hO hI hv hk hx he=>?_) hl hm hz₁ (k₁ _ _ (by omega) hO) (h1.at fun o e=>k₁ _ o (by omega) e) (h2.at fun o e=>k₁ _ o (by omega) e) (zha hu fun o e=>k₁ _ o (by omega) e) (zha hv fun o e=>k₁ _ o (by omega) e) hk hk2 (fun x y h₂ tk hx hy hO₂ i1 i2 hs₂ k₂=>?_) (fun e h' e' tk k'=>hE e h' e' tk fun c o hc q=>k' c o hc (k₁ c o (by omega) q)))
 ·have D:=zj6 (prog:=prog) (w:=w) hh c l (yau hc) vs;refine yaa (wpAny_onRaise ?_);show wpAny _ _ (Builtin.SmallTypes.nextOf (.ref c) >>= _) _ _ _
  rcases ycH hk with hlt | rfl
  ·refine yaa (D.item k _ _ _ hlt ⟨hI,hv⟩ fun x h₂ tk₂ px hI₂ hs₂=>yaf ?_);have hO₂:IsT h₂ (a+3) os:=hs₂.extBut _ _ (yaX hb) hO;refine yaa (ybx hO₂ rfl ?_)
   have h9:os.length<=9:=by omega
   refine yaa (wpAny_updateSeq hO₂ rfl ?_ (by simp;exact yaw h9 (by decide)) (by simp;exact yaw h9 (by decide)));have hs₃:=Heap.SameBut.update h₂ (a+3) (Obj.mapSeq (·.setIfInBounds n x));refine yaa (wpAny_letGo (yaf (hx x _ tk₂ px ?_ (hI₂.1.at fun o e=>hs₃.extBut _ _ (yau hb) e) (hs₃.1.trans hs₂.1) fun d o c1 c2 e=>hs₃.extBut _ _ c1 (hs₂.extBut _ _ c2 e))));show Heap.get? _ (a+3)=_;rw [yck _ hO₂ rfl];simp [Obj.mapSeq]
  ·refine yaa (D.done _ _ _ ⟨hI,hv⟩ fun h₂ e hs₂ hs=>?_);obtain ⟨oe,hoe,hce⟩:=hs;have hz₂:=hs₂ _ _ (show a+4≠c by omega) hz
   have hez:e≠a+4:=fun x=>by subst x;rw [hz₂] at hoe;cases hoe;simp at hce
   exact yca hz₂ (by simp) fun h₃ _ hs₃=>he rfl h₃ e _ (fun d o c1 c2 q=>hs₃.extBut _ _ c1 (hs₂ _ _ c2 q)) ⟨oe,hs₃.extBut _ _ hez hoe,hce⟩
 ·refine yaa (ybx hO₂ rfl ?_);refine yaa (wpAny_newTuple ?_ (hsz:=by show (2:Nat)<=_;decide));have hz₂:IsZip h₂ (a+4) (a+2) (a+3) .ellipsis:=k₂ _ _ (by omega) (by omega) (by omega) hz₁;have hsz:h₂.objs.size=s.heap.objs.size:=hs₂.trans hs₁.1;show wpAny _ _ (Builtin.SmallTypes.ownedTupleHandOut (.ref (a+4)) (.ref h₂.objs.size) >>= _) _ _ _;refine yaa ?_;unfold Builtin.SmallTypes.ownedTupleHandOut;refine yaa (yca (yae _ hz₂) (by simp) fun h₄ hz₄ hs₄=>?_);replace hz₄:IsZip h₄ (a+4) (a+2) (a+3) (rawInt h₂.objs.size):=hz₄;refine yca hz₄ (by simp) fun h₅ hz₅ hs₅=>?_
  replace hz₅:IsZip h₅ (a+4) (a+2) (a+3) (rawInt h₂.objs.size):=hz₅;have lt:a+4<h₂.objs.size:=yap hz₂;have up:∀(c:Nat) (o:Obj),c≠a+4->h₂.get? c=some o->h₅.get? c=some o:=fun c o c1 e=>hs₅.extBut _ _ c1 (hs₄.extBut _ _ c1 (yae _ e))
  have hT:IsT h₅ h₂.objs.size [x,y]:=hs₅.extBut _ _ (yaX lt) (hs₄.extBut _ _ (yaX lt) (yat _ rfl));rw [hsz] at hz₅ hT;refine yaf ⟨_,rfl,?_⟩;show Q (.ref h₂.objs.size) _;rw [hsz];exact hQ x y h₅ tk hx hy ⟨hz₅,up _ _ (by omega) (k₂ _ _ (by omega) (by omega) (by omega) (k₁ _ _ (by omega) hI)),⟨x,y,up _ _ (by omega) hO₂⟩,i1.at fun o e=>up _ o (by omega) e,i2.at fun o e=>up _ o (by omega) e⟩ hT fun c o hc e=>up c o (by omega) (k₂ c o (by omega) (by omega) (by omega) (k₁ c o (by omega) e))
def zjt:Meets (Builtin.«zip.__new__» ⟨[.type "zip",.ref l,.ref m],[]⟩) (fun _ R s=>s.heap.IsTuple l us/\s.heap.IsTuple m vs ∧
   ∀h' n,n=s.heap.objs.size->(∀(c:Nat) (o:Obj),s.heap.get? c=some o->h'.get? c=some o)->ZSt n l m 0 .none h'->R (.ok (.ret (.ref (n+4)))) { s with heap:=h' }) :=
 .of_wp fun prog w A R s h=>by
  obtain ⟨hp,g,d,tk,os⟩:=s;obtain ⟨hl1,hl2,h⟩:=h;have hsub:=sub_zip;have hL1:Heap.IsTuple (Shared.heap ⟨hp,g,d,tk,os⟩) l us:=hl1;have hL2:Heap.IsTuple (Shared.heap ⟨hp.push { cls:=.type "tuple_iterator",data:=.fields #[.ref l,.int 0 0] },g,d,tk,os⟩) m vs:=zha hl2 fun o e=>yae _ e
  wp_walk using yb3 hL1,yb3 hL2
  refine ⟨_,rfl,?_⟩;have p {h:Heap} {o':Obj} {a:Addr} {o:Obj} (e:h.get? a=some o):(h.push o').get? a=some o:=yae _ e
  have u:∀{h:Heap} {o:Obj} {a:Addr},a=h.objs.size->o.isFreed=false->(h.push o).get? a=some o:=fun e ho=>by rw [e];exact yat _ ho
  simp only [ybi];exact h _ _ rfl (fun c o e=>p (p (p (p (p e))))) ⟨u (by simp only [ybi]) rfl,p (p (u (by simp only [ybi]) rfl)),⟨_,_,p (u (by simp only [ybi]) rfl)⟩,⟨_,p (p (p (p (u rfl rfl)))),rfl,rfl⟩,⟨_,p (p (p (u (by simp only [ybi]) rfl))),rfl,rfl⟩⟩
end
noncomputable def zFp(a:Nat):List Addr:=(List.range 5).map (a+·)
theorem zc3{a b:Nat}:b∈zFp a↔a<=b/\b<a+5:=by
 unfold zFp;rw [yad];exact ⟨fun ⟨j,hj,e⟩=>by rw [ybv] at hj;have e:a+j=b:=e;omega,fun ⟨h1,h2⟩=>⟨b-a,ybv.mpr (by omega),by show a+(b-a)=b;omega⟩⟩
theorem zgl{a b:Nat}(h:b ∉ zFp a):b<a\/a+4<b:=by rw [zc3] at h;omega
theorem ZSt.keep{a l m i:Nat}{f:Value}{h h':Heap}(Z:ZSt a l m i f h)(k:∀(c:Nat) (o:Obj),a<=c->c<a+5->h.get? c=some o->h'.get? c=some o):ZSt a l m i f h' :=
 ⟨k _ _ (by omega) (by omega) Z.z,k _ _ (by omega) (by omega) Z.ti,let ⟨x,y,e⟩:=Z.to;⟨x,y,k _ _ (by omega) (by omega) e⟩,Z.i1.at fun o e=>k _ o (by omega) (by omega) e,Z.i2.at fun o e=>k _ o (by omega) (by omega) e⟩
section
variable{X:Cx}{pins:Z3}{σ:St}{H:Hp}{s:Shared}
noncomputable def ItZ(l m:Addr):It :=
 ⟨fun i H=>∃xs ys,H l=some (.tup xs)/\H m=some (.tup ys)/\i<xs.length/\i<ys.length,
  fun i H v H'=>∃t x y xs ys,v=.ref t/\H t=none/\H'=upd H t (.tup [x,y])/\H l=some (.tup xs)/\H m=some (.tup ys)/\xs[i]?=some x/\ys[i]?=some y,
  fun i H=>∃xs ys,H l=some (.tup xs)/\H m=some (.tup ys)/\i<=xs.length/\i<=ys.length/\(i=xs.length\/i=ys.length)⟩
def zmX{fp:List Addr}{T:Addr}{h2:Heap}{tk:Nat}{us:List Value}{ys:List V}(I:Inv X pins σ H s)(hf:∀b∈fp,zkz X pins H b)(hT:T=s.heap.objs.size)(te:IsT h2 T us)
  (k:∀b o,b ∉ fp->s.heap.get? b=some o->h2.get? b=some o) (r:Vals ys us) (h9:us.length<=9):Inv X pins σ (upd H T (.tup ys)) { s with heap:=h2,toks:=tk }/\H T=none:=by
 have fr:H T=none:=by rw [hT];exact I.hok.fresh (yak _)
 refine ⟨?_,fr⟩;have I1:Inv X pins σ H { s with heap:=h2,toks:=tk }:=I.turnedL (ch:=fp) (fun b o hb q=>k b o hb q) hf;refine I1.track fr (by rw [hT];exact I.sz) (by rw [hT];exact yaX I.lt) (fun z c q=>?_) (fun p hp=>?_) ?_
 ·obtain ⟨v,cq⟩:=I.cell z c q;rw [hT];exact yau cq.lt
 ·rw [hT];exact yau (yap (I.pin p hp).1)
 ·exact ⟨yaw (r.length ▸ h9) (by decide),us,r,_,te,rfl,_,rfl,rfl⟩
theorem zkI{P:Program}{w:World}{K:PySem.W.Frag}{elts:List Expr}{x1:Nat}{pos:Pos}{a l m:Nat}(hl:l<a)(hm:m<a) :
  Turn P w K (.Tuple elts x1 pos) (ItZ l m) (zFp a) (a+4) (fun i h=>ZSt a l m i .none h) where
 mem:=zc3.mpr (by omega)
 obj:=fun i h st b hb=>by
  obtain ⟨hz,hI,⟨x,y,hO⟩,⟨o1,e1,_,d1⟩,⟨o2,e2,_,d2⟩⟩:=st;obtain ⟨h1,h2⟩:=zc3.mp hb;obtain ⟨j,rfl⟩:∃j,b=a+j:=⟨b-a,(Nat.add_sub_cancel' h1).symm⟩
  match j,h2 with
  | 0,_=>exact ⟨_,e1,fun v e=>by rw [d1] at e;cases e⟩
  | 1,_=>exact ⟨_,e2,fun v e=>by rw [d2] at e;cases e⟩
  | 2,_=>exact ⟨_,hI,fun v e=>by cases e⟩
  | 3,_=>exact ⟨_,hO,fun v e=>by cases e⟩
  | 4,_=>exact ⟨_,hz,fun v e=>by cases e⟩
  | j+5,h=>omega
 keep:=fun i h h' st k=>st.keep fun c o c1 c2 e=>k _ (zc3.mpr ⟨c1,c2⟩) _ e
 item:=by
  intro X hP hw hK hc i pins s σ H E I hf st hg;subst hP hw hK;obtain ⟨xs,ys,g1,g2,hi,hj⟩:=hg;obtain ⟨us,ru,t1,_⟩:=I.tuple (SqT.of g1);obtain ⟨vs,rv,t2,_⟩:=I.tuple (SqT.of g2);have hT:s.TypeIs (.ref (a+4)) "zip":=⟨_,st.z,rfl⟩;unfold pyNext
  refine yaa (wpAny_attempt (ybb (name:=Str.ofString "__next__") hT ycy (ybq ycy hT F.entry_zip_next
   (zg5 (A:=X.A.in1) (I.ok.hd hc) st hl hm t1 t2 (by rw [yai,<-ru.length];exact ybI hi) (by rw [yai,<-rv.length];exact ybI hj) (fun x y h' tk hx hy a1 a4 a5=>yaf ?_)
    (fun e=>by rw [yai,yai,<-ru.length,<-rv.length] at e;omega)) (F.args_zip_next_1 _))))
  have ltz:a+4<s.heap.objs.size:=yap st.z;refine ⟨_,rfl,wpAny_letOwnedTupleGo_zip a1.z fun h2' hz2 sb=>?_⟩;have kb:∀(c:Nat) (o:Obj),c≠a+4->h'.get? c=some o->h2'.get? c=some o:=fun c o hc e=>(sb.2 c hc).trans e
  obtain ⟨x',hx1,hx2⟩:=ru.get (yaj hi);obtain ⟨y',hy1,hy2⟩:=rv.get (yaj hj);rw [ycn,hx1] at hx;cases hx;rw [ycn,hy1] at hy;cases hy;obtain ⟨I2,fr⟩:=zmX (tk:=tk) (h2:=h2') I hf rfl (kb _ _ (yaX ltz) a4) (fun b o hb q=>kb b o (by have:=zgl hb;omega) (a5 b o (zgl hb) q)) (.cons hx2 (.cons hy2 .nil)) (by simp);refine ⟨.ref s.heap.objs.size,_,I2,rfl,⟨_,_,_,xs,ys,rfl,fr,rfl,g1,g2,yaj hi,yaj hj⟩,⟨hz2,kb _ _ (by omega) a1.ti,let ⟨x,y,e⟩:=a1.to;⟨x,y,kb _ _ (by omega) e⟩,a1.i1.at fun o e=>kb _ o (by omega) e,a1.i2.at fun o e=>kb _ o (by omega) e⟩,fun b hb=>?_⟩;rw [zah (fun e=>by have:=(zc3.mp (e ▸ hb)).2;omega)];exact (hf b hb).1
 done:=by
  intro X hP hw hK hc i pins s σ H E I hf st hg;subst hP hw hK;obtain ⟨xs,ys,g1,g2,h1,h2,hi⟩:=hg;obtain ⟨us,ru,t1,_⟩:=I.tuple (SqT.of g1);obtain ⟨vs,rv,t2,_⟩:=I.tuple (SqT.of g2);have hT:s.TypeIs (.ref (a+4)) "zip":=⟨_,st.z,rfl⟩;unfold pyNext
  refine yaa (wpAny_attempt (ybb (name:=Str.ofString "__next__") hT ycy (ybq ycy hT F.entry_zip_next
   (zg5 (A:=X.A.in1) (I.ok.hd hc) st hl hm t1 t2 (by rw [yai,<-ru.length];exact h1) (by rw [yai,<-rv.length];exact h2) (fun x y h' tk hx hy=>by
     have e1:=(yaQ.mp hx).1;have e2:=(yaQ.mp hy).1;rw [yai,<-ru.length] at e1;rw [yai,<-rv.length] at e2
     omega) (fun _ h' e tk hk he'=>?_)) (F.args_zip_next_1 _))))
  obtain ⟨o,ho,hcl⟩:=he';refine yaa (wpAny_isInstance (T:="StopIteration") (b:=true) ⟨o,ho,hcl⟩ isSubtype_stop ?_);exact yaf ⟨rfl,I.turnedL (ch:=zFp a) (fun b o hb q=>hk b o (zgl hb) q) hf⟩
 self:=fun _ _ _ _ _ st h=>wpAny_pyIter_zip st.z h
theorem zlZ:bootBuiltins "zip" = some (.type "zip"):=by decide +kernel
def zo1(I1:Inv X pins σ H1 s1)(g1:H1 l=some (.tup xs))(g2:H1 m=some (.tup ys))(q:R (ItZ l m) H1) :
  wpAny (model X.prog X.w) X.A (call (.type "zip") [.ref l,.ref m]) (fun v s2=>wpAny (model X.prog X.w) X.A (pyIter v) (PIE X pins σ (.Tuple elts x1 tp) R) X.xe s2) X.xe s1:=by
 obtain ⟨us,ru,t1,_⟩:=I1.tuple (SqT.of g1);obtain ⟨vs,rv,t2,_⟩:=I1.tuple (SqT.of g2);refine callType_new F.called_zip (by decide) (F.typeCall_zip_2 _ _) (F.newCall_zip_2 _ _) (fun o=>F.args_object_init_3 o _ _) F.entry_zip_new zjt ⟨t1,t2,fun h' n hn hk Z=>?_⟩;refine ⟨⟨_,Z.z,rfl⟩,wpAny_pyIter_zip Z.z ?_⟩;refine ⟨n+4,zFp n,_,_,H1,rfl,I1.kept (t':=s1.toks) hk,zkI ?_ ?_,Z,fun c hb=>?_,q⟩
 ·obtain ⟨o,ho,_⟩:=t1;rw [hn];exact yap ho
 ·obtain ⟨o,ho,_⟩:=t2;rw [hn];exact yap ho
 ·have hc:s1.heap.objs.size<=c:=hn ▸ (zc3.mp hb).1;exact I1.fpOk hc (I1.hok.fresh hc)
end
end L2
namespace S2
open PySem PySem.Spec PyProof.Rows L2
section
variable{X:Cx}{cl:Cf}{E:St->XK}{e tg:Expr}{f:Fe}{own:Bool}{pos pos':Pos}
noncomputable def ztf:List D->Option D | [.int i,.int j]=>some (.int (if j > i then j else i)) | _=>none
noncomputable def zte:List D->Option D | [.int i,.int j]=>some (.int (if j<i then j else i)) | _=>none
noncomputable def ztu:List D->Option D | [.int i]=>some (.int i) | [.bl b]=>some (.int (if b then 1 else 0)) | _=>none
def zry(hc:X.calm=true):zfl X cl (.builtin "max") ztf:=by
 intro pins s σ H xs us Q I r h;obtain ⟨w,ds,d,rfl,hx,hg,q⟩:=h;unfold ztf at hg;split at hg
 ·rename_i i j;cases hg
  cases hx with
  | cons h1 h2=>cases h2 with
   | cons h2 h3 =>
    cases h3;obtain rfl:=h1.intI;obtain rfl:=h2.intI;exact zkq hc pins s σ w.H _ us Q I r ⟨i,j,rfl,q _ w (Grow.refl _) (.int _)⟩
 ·cases hg
def zrx(hc:X.calm=true):zfl X cl (.builtin "min") zte:=by
 intro pins s σ H xs us Q I r h;obtain ⟨w,ds,d,rfl,hx,hg,q⟩:=h;unfold zte at hg;split at hg
 ·rename_i i j;cases hg
  cases hx with
  | cons h1 h2=>cases h2 with
   | cons h2 h3 =>
    cases h3;obtain rfl:=h1.intI;obtain rfl:=h2.intI;exact zkp hc pins s σ w.H _ us Q I r ⟨i,j,rfl,q _ w (Grow.refl _) (.int _)⟩
 ·cases hg
def zrA:zfl X cl (.type "int") ztu:=by
 intro pins s σ H xs us Q I r h;obtain ⟨w,ds,d,rfl,hx,hg,q⟩:=h;unfold ztu at hg;split at hg
 ·rename_i i;cases hg
  cases hx with
  | cons h1 h2 =>
   cases h2;obtain rfl:=h1.intI;exact zf9 pins s σ w.H _ us Q I r (.inl ⟨i,rfl,q _ w (Grow.refl _) (.int _)⟩)
 ·rename_i b;cases hg
  cases hx with
  | cons h1 h2 =>
   cases h2;obtain rfl:=h1.blI;exact zf9 pins s σ w.H _ us Q I r (.inr ⟨b,rfl,q _ w (Grow.refl _) (.int _)⟩)
 ·cases hg
noncomputable def zhZ:List D->List D->List D
 | x::xs,y::ys=>.tup [x,y]::zhZ xs ys
 | _,_=>[]
theorem zg7:∀(xs ys:List D),(zhZ xs ys).length=min xs.length ys.length
 | [],_=>by simp [zhZ]
 | _::_,[]=>by simp [zhZ]
 | _::xs,_::ys=>by simp [zhZ,zg7 xs ys]
theorem zg8:∀{xs ys:List D} {i:Nat} {d:D},(zhZ xs ys)[i]?=some d->∃x y,xs[i]?=some x/\ys[i]?=some y/\d=.tup [x,y]
 | [],_,_,_,h=>by simp [zhZ] at h
 | _::_,[],_,_,h=>by simp [zhZ] at h
 | x::xs,y::ys,0,d,h=>by
  simp only [zhZ,List.getElem?_cons_zero,Option.some.injEq] at h;exact ⟨x,y,rfl,rfl,h.symm⟩
 | x::xs,y::ys,i+1,d,h=>by
  simp only [zhZ,List.getElem?_cons_succ] at h ⊢;exact zg8 h
def ztD(f g:Fe):Fi:=fun ρ S=>(zao [f,g] ρ S).bind fun ds S1=>match ds with | [.tup l,.tup k]=>.ok (zhZ l k) S1 | _=>.bad
theorem zq7(h1:∀w',Fut w w'->w'.H l1=some (.tup xs))(h2:∀w',Fut w w'->w'.H l2=some (.tup ys))(r1:Shds cl w xs ds)(r2:Shds cl w ys es):ItOk cl w (ItZ l1 l2) (zhZ ds es):=by
 have e1:=r1.length;have e2:=r2.length;have el:=zg7 ds es;refine ⟨fun w1 F1 i hi=>⟨xs,ys,h1 w1 F1,h2 w1 F1,by omega,by omega⟩,fun w1 F1=>⟨xs,ys,h1 w1 F1,h2 w1 F1,by omega,by omega,by omega⟩,fun w1 F1 i d x H1 hd y=>?_⟩;obtain ⟨t,v1,v2,xs',ys',rfl,ht,rfl,g1,g2,hx,hy⟩:=y;obtain ⟨z1,z2,hz1,hz2,rfl⟩:=zg8 hd;cases (h1 w1 F1).symm.trans g1;cases (h2 w1 F1).symm.trans g2;obtain ⟨d1,q1,s1⟩:=r1.get hx;obtain ⟨d2,q2,s2⟩:=r2.get hy;rw [hz1] at q1;cases q1;rw [hz2] at q2;cases q2;exact ⟨w1.add t _,rfl,zav ht _,Shd.newT ht (.cons (s1.up F1) (.cons (s2.up F1) .nil))⟩
def zpE(hg:Gl X "zip")(hm:X.mg "zip" = none)(ha:PA X [a,e] (tAs cl E [fa,f]))(hs:starEach [a,e] X.env=(false,eval a X.env)::starEach [e] X.env)(hs2:(backTo pos (starEach [e] X.env)).any (·.1)=false):PI X (.Tuple es kk tp) (.Call (.Name "zip" p) [a,e] [] pos) (tI cl E (ztD fa f)):=by
 intro pins s σ H R' I q;refine Call_ (zfT I hg hm L2.zlZ (ybJ (thn (ha pos pins s σ H (fun vs H1=>∃l m xs ys,vs=[.ref l,.ref m]/\H1 l=some (.tup xs)/\H1 m=some (.tup ys)/\R' (ItZ l m) H1) I ?_) fun us s1 ⟨vs,H1,I1,r1,q1⟩=>?_) hs hs2))
 ·obtain ⟨B,w,ρ,S,rfl,R,q⟩:=q;refine ⟨B,w,ρ,S,rfl,R,?_⟩;dsimp only [ztD] at q
  cases hf:zao [fa,f] ρ S with
  | bad=>rw [hf] at q;exact q.elim
  | exc c S1=>rwa [hf] at q
  | ok ds S1 =>
   rw [hf] at q;dsimp only [Out.bind] at q;intro vs w' R2 F2 sh
   have hz:(∃l k,ds=[.tup l,.tup k])\/(match ds with | [.tup l,.tup k]=>Out.ok (zhZ l k) S1 | _=>.bad)=.bad:=by
    split
    ·exact .inl ⟨_,_,rfl⟩
    ·exact .inr rfl
   rcases hz with ⟨l,k,rfl⟩ | e
   ·cases sh with
    | cons h1 h2 =>
     cases h2 with
     | cons h2 h3 =>
      cases h3
      cases h1 with
      | tup e1 k1 r1 =>
       cases h2 with
       | tup e2 k2 r2 =>
        exact ⟨_,_,_,_,rfl,(Fut.refl w').keep _ _ e1 k1 |>.1,(Fut.refl w').keep _ _ e2 k2 |>.1,q _ w' R2 F2 (zq7 (fun w1 F1=>(F1.keep _ _ e1 k1).1) (fun w1 F1=>(F1.keep _ _ e2 k2).1) r1 r2)⟩
   ·rw [e] at q;exact q.elim
 ·obtain ⟨l,m,xs,ys,rfl,g1,g2,q⟩:=q1
  cases r1 with
  | cons a1 r1 =>
   cases r1 with
   | cons a2 r1=>cases r1;cases a1;cases a2;exact zo1 I1 g1 g2 q
def zpW(i:Nat)(fe:Fe):Fs:=fun ρ S=>match ρ[i]? with
 | some (some (true,.lst l))=>(match fe ρ S with
  | .ok (.lst k) S'=>if small (l.length+k.length) then .nx (ρ.set i (some (true,.lst (l++k)))) S' else .bad
  | .ok _ _=>.bad
  | .exc c S'=>.ex c ρ S' | .bad=>.bad)
 | _=>.bad
def zpz{i:Nat}{x:Str}{ap cp:Pos}(hN:X.N[i]?=some x)(hv:Vis X.env.scope x)(hd:(x == ("__debug__":Str))=false)(hcd:(x == ("__classdict__":Str))=false)(he:PE X e (tH cl E f))
  (hpl:za4 e=true) (hln:(ap.endLine == cp.line)=true):PS X (.Expr (.Call (.Attribute (.Name x pos') "extend" ap) [e] [] cp) pos) (tS cl E own (zpW i f)):=by
 refine PS.imp (zgC (zlm (es:=[]) yb8 PySem.F.slot_list_extend PySem.F.type_list_extend zjr (zdo hN hv hd hcd) (zbB he zdp (za7 hpl)) (hfew:=zf1 (by simp [hpl]) (by simp)) (hline:=hln) (hs:=za7 hpl) (hplain:=rfl))) ?_;rintro De σ H ⟨B,w,ρ,S,rfl,R,q⟩;unfold zpW at q;split at q
 ·rename_i l hl;obtain ⟨a,xs,e1,h1,h2,t⟩:=R.list hl;refine ⟨_,e1,.inl ⟨rfl,_,SqL.of h2⟩,B,w,ρ,S,rfl,R,?_⟩
  cases hf:f ρ S with
  | bad=>rwa [hf] at q
  | exc c S1=>rw [hf] at q;exact fun w' R' F'=>q σ w' R' F'
  | ok d S1 =>
   rw [hf] at q;intro v w' R' F' h'
   cases d with
   | lst k =>
    dsimp only at q
    cases hz:small (l.length+k.length) with
    | false=>rw [hz,if_neg (by decide)] at q;exact q.elim
    | true =>
     rw [hz,if_pos rfl] at q;obtain ⟨a',xs',e1',h1',h2',t'⟩:=R'.list hl;rw [e1] at e1';cases e1';obtain ⟨b,zs,rfl,eb,rb⟩:=(h'.top R').lstI;refine ⟨a,b,xs',zs,rfl,rfl,h2',eb,by rw [t'.length,rb.length];exact zaA hz,?_⟩;exact q σ (w'.mut a (.lst (xs'++zs))) (R'.mut (d0:=.non) e1 h1' (.lst (t'.append rb))) (F'.trans (zfb (by rw [h1'];exact yaG _)))
   | _=>exact q.elim
 ·exact q.elim
end
section
variable{X:Cx}{cl:Cf}{E:St->XK}{e:Expr}{f:Fe}{pos':Pos}
def eMt(g:List D->D->Option D)(i:Nat)(f:Fe):Fe:=fun ρ S=>match ρ[i]? with | some (some (_,.lst l))=>(f ρ S).bind fun d S1=>Out.of (g l d) S1 | _=>.bad
def zdv(l:List D)(d:D):Option D:=if d.fit 8&&D.fits 8 l then some (.int ((l.countP (zeR · d):Nat):Int)) else none
def zds(l:List D)(d:D):Option D:=if d.fit 8&&D.fits 8 l&&decide (l.length<=1000000)&&ziA d l then some (.int ((l.findIdx (zeR · d):Nat):Int)) else none
def Rel.lstAny{B:Base}{σ:St}{w:Wd}{ρ:Env}{S:Sto}{i:Nat}{o:Bool}{l:List D}(R:Rel cl B σ w ρ S)(h:ρ[i]?=some (some (o,.lst l))):∃a xs,σ[i]?=some (some (.ref a))/\w.H a=some (.lst xs)/\Shds cl w xs l:=by
 cases o with
 | true=>obtain ⟨a,xs,e1,_,h2,t⟩:=R.list h;exact ⟨a,xs,e1,h2,t⟩
 | false =>
  obtain ⟨v,e1,sh⟩:=R.slots i false _ h
  cases sh with
  | lst ep k r=>exact ⟨_,_,e1,ep,r⟩
noncomputable def MtB(X:Cx)(cl:Cf)(id:String)(g:List D->D->Option D):Prop:=MtM X id fun x vs H Q=>∃(a:Addr) (xs:List V) (l:List D) (w:Wd) (d:D) (v:V) (r:Int),w.H=H/\x=.ref a/\vs=[v]/\w.H a=some (.lst xs)/\Shds cl w xs l/\TopV cl w v d/\g l d=some (.int r)/\Q (.int r) H
theorem zdu{s:Shared}{d:D}:∀{its:List Value} {ds:List D} {as:List Addr},ReadsAll s.heap its (D.pys ds) as->D.fits 8 ds=true->its.countP (fun y=>(SeqAt.readOf s.heap y).eqv d.py)=ds.countP (zeR · d)
 | [],[],_,_,_=>rfl
 | [],_::_,_,h,_=>by cases h
 | _::_,[],_,h,_=>by cases h
 | v::its,e::ds,_,h,f=>by
  simp only [D.fits,yab] at f
  cases h with
  | cons h1 h2 =>
   rw [List.countP_cons,List.countP_cons,zdu h2 f.2,zgB (D.lay f.1).1 h1];rfl
theorem zda{s:Shared}{d:D}:∀{its:List Value} {ds:List D} {as:List Addr},ReadsAll s.heap its (D.pys ds) as->D.fits 8 ds=true->∀(m:Nat) (hm:m<its.length),∃e,ds[m]?=some e/\(SeqAt.readOf s.heap its[m]).eqv d.py=zeR e d
 | [],_,_,_,_,m,hm=>by simp at hm
 | _::_,[],_,h,_,_,_=>by cases h
 | v::its,e::ds,_,h,f,m,hm=>by
  simp only [D.fits,yab] at f
  cases h with
  | cons h1 h2 =>
   cases m with
   | zero=>exact ⟨e,rfl,by show (SeqAt.readOf s.heap v).eqv d.py=_;rw [zgB (D.lay f.1).1 h1];rfl⟩
   | succ m =>
    obtain ⟨e',h3,h4⟩:=zda h2 f.2 m (by simpa using hm);exact ⟨e',by simpa using h3,by simpa using h4⟩
theorem zek{s:Shared}:∀{its:List Value} {ds:List D} {as:List Addr},ReadsAll s.heap its (D.pys ds) as->its.length=ds.length
 | [],[],_,_=>rfl
 | [],_::_,_,h=>by cases h
 | _::_,[],_,h=>by cases h
 | _::its,_::ds,_,h=>by
  cases h with
  | cons _ h2=>rw [yan,yan,zek h2]
def zlx(hK:X.K=cl.K)(hu:X.A.units+64<cLine):MtB X cl "list.count" zdv:=by
 intro pins s σ H x vs v us Q I rx rv h;obtain ⟨a,xs,l,w,d,v',r,rfl,rfl,rfl,hH,sh,tv,hg,q⟩:=h;unfold zdv at hg;split at hg
 ·rename_i hf;cases hg;rw [yab] at hf;cases rx;obtain ⟨u,rfl,ru⟩:=rv.one;obtain ⟨bs,rb⟩:=zfF I hK tv hf.1 ru;obtain ⟨z,its,n,r,hl,e⟩:=I.lstM hH;obtain ⟨as,ra⟩:=zcB I hK sh hf.2 r;refine ybE F.slot_list_count ⟨_,e,rfl⟩ F.entry_list_count (F.args_list_count_2 _ _) (SeqAt.list_countAt a _ n none #[] u (fun y=>(SeqAt.readOf s.heap y).eqv d.py)) ⟨e,fun y hy=>zbC hu rb hf.1 ra hf.2 y hy,?_⟩;rw [zdu ra hf.2];exact ⟨.int _,w.H,I.tok _,⟨_,rfl⟩,q⟩
 ·cases hg
theorem zlw(hK:X.K=cl.K)(hu:X.A.units+64<cLine):MtB X cl "list.index" zds:=by
 intro pins s σ H x vs v us Q I rx rv h;obtain ⟨a,xs,l,w,d,v',r,rfl,rfl,rfl,hH,sh,tv,hg,q⟩:=h;unfold zds at hg;split at hg
 ·rename_i hf;cases hg;simp only [yab,yaA] at hf;obtain ⟨⟨⟨f1,f2⟩,f3⟩,f4⟩:=hf;cases rx;obtain ⟨u,rfl,ru⟩:=rv.one;obtain ⟨bs,rb⟩:=zfF I hK tv f1 ru;obtain ⟨z,its,n,r,hl,e⟩:=I.lstM hH;obtain ⟨as,ra⟩:=zcB I hK sh f2 r;have hlen:=zek ra
  have hlt:l.findIdx (zeR · d)<l.length:=by
   rw [List.findIdx_lt_length];unfold ziA at f4;rwa [List.any_eq_true] at f4
  refine ybE F.slot_list_index ⟨_,e,rfl⟩ F.entry_list_index (F.args_list_index_2 _ _) (SeqAt.list_indexAt a _ n none #[] u (fun y=>(SeqAt.readOf s.heap y).eqv d.py) (l.findIdx (zeR · d)) (by rw [yai];omega) (by omega) ?_ ?_) ⟨e,fun y hy=>zbC hu rb f1 ra f2 y hy,?_⟩
  ·obtain ⟨e',h1,h2⟩:=zda (d:=d) ra f2 (l.findIdx (zeR · d)) (by omega);simp only [List.getElem_toArray];rw [h2];rw [yaj hlt] at h1;cases h1;exact List.findIdx_getElem (w:=hlt)
  ·intro m hm hmj
   have lm:m<its.length:=by rwa [yai] at hm
   obtain ⟨e',h1,h2⟩:=zda (d:=d) ra f2 m lm;simp only [List.getElem_toArray];rw [h2];rw [yaj (by omega)] at h1;cases h1;exact List.not_of_lt_findIdx hmj
  ·exact ⟨.int _,w.H,I.tok _,⟨_,rfl⟩,q⟩
 ·cases hg
def zpP{id:String}{ap cp:Pos}(slot:Slot "list" name id)(hty:typeOf (.builtin id)=pure (.type "method_descriptor"))(hm:MtB X cl id g)(hgb:∀l d r,g l d=some r->∃n,r=.int n)
  (hN:X.N[i]?=some x) (hv:Vis X.env.scope x) (hd:(x == ("__debug__":Str))=false) (hcd:(x == ("__classdict__":Str))=false) (he:PE X e (tH cl E f)) (hpl:za4 e=true) (hln:(ap.endLine == cp.line)=true) :
  PE X (.Call (.Attribute (.Name x pos') name ap) [e] [] cp) (tE cl E (eMt g i f)):=by
 refine PE.imp (zlm (es:=[]) yb8 slot hty hm (zdo hN hv hd hcd) (ziU he zmi (za7 hpl)) (hfew:=zf1 (by simp [hpl]) (by simp)) (hline:=hln) (hs:=za7 hpl) (hplain:=rfl)) ?_;rintro σ H Q ⟨B,w,ρ,S,rfl,R,q⟩
 have key:(∃o l,ρ[i]?=some (some (o,.lst l)))\/eMt g i f ρ S=.bad:=by
  unfold eMt;split
  ·rename_i o l hl;exact .inl ⟨o,l,hl⟩
  ·exact .inr rfl
 rcases key with ⟨o,l,hl⟩ | hb
 ·have e':eMt g i f ρ S=(f ρ S).bind fun d S1=>Out.of (g l d) S1:=by unfold eMt;rw [hl]
  rw [e'] at q;obtain ⟨a,xs,e1,h2,t⟩:=R.lstAny hl;refine ⟨_,e1,.inl ⟨rfl,_,SqL.of h2⟩,B,w,ρ,S,rfl,R,?_⟩
  cases hf:f ρ S with
  | bad=>rw [hf] at q;exact q.elim
  | exc c S1 =>
   rw [hf] at q;simp only [zao,hf,Out.bind];exact q
  | ok d S1 =>
   rw [hf] at q;simp only [zao,hf,Out.bind];intro vs w' R' F' sh;dsimp only [Out.bind] at q
   cases hg:g l d with
   | none=>rw [hg] at q;exact q.elim
   | some r =>
    rw [hg] at q;obtain ⟨n,rfl⟩:=hgb l d r hg;obtain ⟨a',xs',e1',h2',t'⟩:=R'.lstAny hl;rw [e1] at e1';cases e1'
    cases sh with
    | cons h1 hn =>
     cases hn;exact ⟨a,xs',l,w',d,_,n,rfl,rfl,rfl,h2',t',h1.top R',hg,q _ w' R' F' (.int _)⟩
 ·rw [hb] at q;exact q.elim
end
noncomputable def ze6(g:Str->Str->Option Bool)(C:Str):D->Option D
 | .exc c=>(g c C).map .bl
 | _=>none
noncomputable def zrv(cl:Cf)(C:Str):Value:=if C = "ValueError" then .type "ValueError" else .ref (cl C)
section
variable{X:Cx}{cl:Cf}{E:St->XK}{own:Bool}{e:Expr}{f fe:Fe}{pos pos':Pos}
def Shd.excI{w:Wd}{v:V}{c:Str}(h:Shd cl w v (.exc c)):∃a ob,v=.ref a/\w.H a=some (.frz ob (.own a))/\ob.cls=.ref (cl c):=by
 cases h with
 | exc h1 _ h2=>exact ⟨_,_,rfl,h1,h2⟩
theorem TopV.excI{w:Wd}{v:V}{c:Str}(h:TopV cl w v (.exc c)):∃a ob,v=.ref a/\w.H a=some (.frz ob (.own a))/\ob.cls=.ref (cl c):=by
 cases h with
 | sh h=>exact h.excI
 | ow _ t=>cases t
theorem zit:bootBuiltins "ValueError" = some (.type "ValueError"):=by decide +kernel
def zml{g:Str->Str->Option Bool}{C:Str}{vC:V}{p p2:Pos}(hg:Gl X "isinstance")(hm:X.mg "isinstance" = none)(hC:PE X (.Name C p2) (tC vC))(hv:∀u,zaI vC u->u=zrv cl C)
  (hk:∀c b,g c C=some b->PySem.W.ExcCls X.K (cl c)/\PySem.W.kitOne X.K (.ref (cl c)) (zrv cl C)=some b) (hp:za4 e=true) (he:PE X e (tH cl E f)) :
  PE X (.Call (.Name "isinstance" p) [e,.Name C p2] [] pos) (tE cl E (eUn (ze6 g C) f)):=by
 refine PE.imp (zcQ zir hg hm zgb (zbB he (zbB hC zdp rfl) (za7 hp)) (he:=za7 hp) (hpl:=rfl)) ?_;rintro σ H Q ⟨B,w,ρ,S,rfl,R,q⟩;refine ⟨B,w,ρ,S,rfl,R,?_⟩;unfold eUn at q
 cases hf:f ρ S with
 | bad=>rwa [hf] at q
 | exc c S1=>rwa [hf] at q
 | ok d S1 =>
  rw [hf] at q;intro v w1 R1 F1 h1;dsimp only [Out.bind] at q
  cases d with
  | exc c =>
   dsimp only [ze6] at q
   cases hb:g c C with
   | none=>rw [hb] at q;exact q.elim
   | some b =>
    rw [hb] at q;obtain ⟨k1,k2⟩:=hk c b hb;obtain ⟨a,ob,rfl,h2,h3⟩:=(h1.top R1).excI;exact ⟨a,_,ob,vC,_,b,rfl,h2,h3,k1,hv,k2,q _ w1 R1 F1 (.bl _)⟩
  | _=>exact q.elim
noncomputable def OpN(X:Cx)(cl:Cf)(op:Value->Value->Sem Value)(g:D->D->Option D):Prop:=OpR X op fun x y H Q=>∃w d e r,w.H=H/\TopV cl w x d/\TopV cl w y e/\g d e=some r/\∀p o w',Grow w w'->w'.H p=none->Top cl w' o r->Q (.ref p) (upd w'.H p o)
def zvM{a b:Expr}{h:Fe}{gg:D->D->Option D}{r2:R2}(hr:∀x y H Q,(∃w d e r,w.H=H/\TopV cl w x d/\TopV cl w y e/\gg d e=some r/\∀p o w',Grow w w'->w'.H p=none->Top cl w' o r->Q (.ref p) (upd w'.H p o))->r2 x y H Q)(σ:St)(H:Hp)(Q:VK)(q:tN cl E (zag gg f h) σ H Q):tOp r2 (tH cl E f) (tH cl E h) σ H Q:=by
 obtain ⟨B,w,ρ,S,rfl,R,q⟩:=q;refine ⟨B,w,ρ,S,rfl,R,?_⟩;unfold zag at q
 cases hf:f ρ S with
 | bad=>rwa [hf] at q
 | exc c S1=>rwa [hf] at q
 | ok d S1 =>
  rw [hf] at q;intro v w1 R1 F1 h1;refine ⟨B,w1,ρ,S1,rfl,R1,?_⟩;dsimp only [Out.bind] at q
  cases hh:h ρ S1 with
  | bad=>rwa [hh] at q
  | exc c S2=>rw [hh] at q;exact fun w2 R2 F2=>q w2 R2 (F1.trans F2)
  | ok e S2 =>
   rw [hh] at q;intro y w2 R2 F2 h2;dsimp only at q
   cases hg:gg d e with
   | none=>rw [hg] at q;exact q.elim
   | some r =>
    rw [hg] at q;exact hr _ _ _ _ ⟨w2,d,e,r,rfl,(h1.up F2).top R2,h2.top R2,hg,fun p o w' gr hp t=>q p o w' (R2.grow gr) (F1.trans (F2.trans gr.fut)) hp t⟩
noncomputable def zjq:D->D->Option D
 | .lst a,.int j=>if decide (0<=j/\j<=1000/\a.length<=1000) then some (.lst (List.replicate j.toNat a).flatten) else none
 | _,_=>none
def znV:OpN X cl (binaryOp .Mult) zjq:=by
 intro pins s σ H x y v u Q I rx ry h;obtain ⟨w,d,e,r,rfl,hx,hy,hg,q⟩:=h;unfold zjq at hg;split at hg
 ·rename_i a j;split at hg
  ·rename_i hz;cases hg;have hz':=yaE hz;obtain ⟨p,xs,rfl,ep,rs⟩:=hx.lstI;obtain rfl:=hy.intI;have hl:=rs.length;refine zqu pins s σ w.H _ _ v u Q I rx ry ⟨p,j,xs,rfl,rfl,ep,by omega,by omega,?_,fun l hl=>q l _ w (Grow.refl _) hl (.lst (rs.flat _))⟩;refine yaw (Nat.mul_le_mul (show xs.length<=1000 by omega) (show j.toNat<=1000 by omega)) (by decide)
  ·cases hg
 ·cases hg
def znq(ha:PE X a (tH cl E f))(hb:PE X b (tH cl E h)):PE X (.BinOp a .Mult b pos) (tN cl E (zag zjq f h)) :=
 PE.imp (zqk znV ha hb) (zvM (a:=a) (b:=b) fun _ _ _ _ z=>z)
noncomputable def zop:Expr->Bool | .List _ _=>true | _=>false
noncomputable def zrb:Operator->Bool | .Mult=>true | _=>false
end
end S2
namespace PySem.F
end PySem.F
namespace L2
open PySem PySem.Spec PyProof.Rows
end L2
namespace PySem.F
end PySem.F
namespace L2
open PySem PySem.Spec PyProof.Rows
end L2
namespace S2
open PySem PySem.Spec PyProof.Rows L2
section
variable{X:Cx}{cl:Cf}{E:St->XK}{e:Expr}{f:Fe}{pos:Pos}
noncomputable def zoh:D->Option (List Int) | .tup l=>zdr l | _=>none
def keysOf:List D->Option (List (List Int))
 | []=>some []
 | d::l=>(zoh d).bind fun k=>(keysOf l).bind fun ks=>some (k::ks)
def zcE:D->Option D | .tup l=>(keysOf l).bind fun ks=>if decide (ks.length<=18) then some (.int (ST.ddN ks)) else none | _=>none
theorem zjC{K:PySem.W.Frag}{w:Wd}:∀{xs:List V} {ds:List D} {ks:Z2},Shds cl w xs ds->keysOf ds=some ks->zgj K w.H xs ks
 | _,_,ks,.nil,h=>by cases h;exact .nil
 | _,_,ks,.cons r t,h=>by
  unfold keysOf at h;rename_i v d vs ds'
  cases hk:zoh d with
  | none=>rw [hk] at h;cases h
  | some k =>
   rw [hk] at h;dsimp only [Option.bind] at h
   cases hks:keysOf ds' with
   | none=>rw [hks] at h;cases h
   | some ks' =>
    rw [hks] at h;cases h;refine .cons ?_ (zjC t hks)
    cases r with
    | tup e' _ rs =>
     have:zdr _=some k:=hk;obtain rfl:=zjO rs this;exact ⟨_,rfl,SqT.of e'⟩
    | _=>cases hk
def ztH(ks:Z2):ST.ddN ks<=ks.length:=(ST.zro ks).1
theorem ziY{p p2 pos2:Pos}(hc:X.calm=true)(hu:X.A.units+8<cLine)(hg:Gl X "len")(hm:X.mg "len" = none)(hg2:Gl X "set")(hm2:X.mg "set" = none)(he:PE X e (tE cl E f))(hs:starEach [e] X.env=[(false,eval e X.env)]) :
  PE X (.Call (.Name "len" p) [.Call (.Name "set" p2) [e] [] pos2] [] pos) (tE cl E (eUn zcE f)):=by
 refine PE.imp (zcQ zff hg hm PySem.boot_len (zbB (zdS (zef hc hu) hg2 hm2 (by decide +kernel) (zc7 he zfy hs) (he:=hs) (hpl:=rfl)) zdp)) ?_;rintro σ H Q ⟨B,w,ρ,S,rfl,R,q⟩;refine ⟨B,w,ρ,S,rfl,R,?_⟩;unfold eUn at q
 cases hf:f ρ S with
 | bad=>rw [hf] at q;exact q.elim
 | exc c S1=>rw [hf] at q;simp only [zao,hf,Out.bind];exact q
 | ok d S1 =>
  rw [hf] at q;simp only [zao,hf,Out.bind];intro vs w1 R1 F1 sh;dsimp only [Out.bind] at q
  cases d with
  | tup l =>
   cases hk:keysOf l with
   | none=>simp [zcE,hk,Out.of] at q
   | some ks =>
    by_cases h18:ks.length<=18
    ·simp only [zcE,hk,Option.bind,h18,decide_true,ybK] at q
     cases sh with
     | cons h1 hn =>
      cases hn
      cases h1 with
      | tup ep k r =>
       refine ⟨_,_,ks,rfl,SqT.of ep,zjC r hk,h18,fun l hl=>?_⟩;have hd:=ztH ks;refine ⟨l,_,rfl,zaL,by omega,?_⟩;exact q _ (w1.add l (.ext (zhY l (ST.ddN ks)))) (R1.grow (zav hl _)) (F1.trans (zav hl _).fut) (.int _)
    ·simp [zcE,hk,h18,Out.of] at q
  | _=>exact q.elim
end
noncomputable def zvm(cl:Cf)(cn f:Str):Prop:=Cls cl.K (cl cn)/\zmT cl.K (cl cn) f
end S2
namespace L2
open PySem PySem.Spec PyProof.Rows
end L2
namespace S2
open PySem PySem.Spec PyProof.Rows L2
structure Same'(cl:Cf)(X:Cx):Prop where
 kk:X.K=cl.K
 pp:X.prog=cl.P
 ww:X.w=cl.wo
end S2
namespace L2
open PySem PySem.Spec PyProof.Rows
end L2
namespace S2
open PySem PySem.Spec PyProof.Rows L2
end S2
namespace PySem
open Sem (wp)
namespace F
def zfP:typeLookup (.type "list") "keys" = pure none:=by rw [typeLookup_type,builtinLookup_eq_fast];kernel_rfl
end F
section
variable{prog:Program}{w:World}{A:Around}{E:Z5}{s:Shared}{a:Addr}{o:Obj}
theorem zjB{xs:Array Value}{k:Nat}{sl:Array (Option Value)}{Q:Option Value->Shared->Prop}(hx:s.heap.get? a=some { cls:=.type "list",dict:=none,data:=.seq xs k,slots:=sl })(hA:A.handled=none)
  (h:∀h' tk,(∀b o,s.heap.get? b=some o->h'.get? b=some o)->Q none { s with heap:=h',toks:=tk }) :
  wpAny (model prog w) A (getAttr? (.ref a) "keys") Q E s:=by
 obtain ⟨hp,g,d,tk,os⟩:=s;have hT:∀tk',(⟨hp,g,d,tk',os⟩:Shared).TypeIs (.ref a) "list":=fun _=>⟨_,hx,rfl⟩
 have f1:=sub_AttributeError;have f3:=yb1.lookup;have f4:=yb1.bind (.ref a);have f5:=am_list_getattr_none;unfold getAttr? getAttrBy? getAttrBy
 repeat (any_goals (first | assumption | exact hT _ | ((with_reducible show wpAny _ _ (call (Value.builtin "list.__getattribute__") _ _) _ _ _);refine ybE yb1 (hT _) am_entry_list_getattribute (F.args_list_getattribute_2 _ _) (meets_getattribute_miss_list a xs k sl "keys" _ F.zfP (by decide)) ⟨hx,hA,fun h' tk' e hx'=>?_⟩) | wp_step))
 obtain ⟨t',u',he⟩:=hx'.there;show wpAny _ _ (getattributeRaised _ _ _ _ _ _ _) _ _ _;unfold getattributeRaised
 repeat (any_goals (first | assumption | wp_step))
 exact h _ _ fun b o e=>hx'.keeps b o e
end
namespace F
def zba:entryFor table "dict.update.loop" = some Builtin.«dict.update.loop»:=entryFor_of_tree (by kernel_rfl)
theorem zau:plainId "dict.update.loop" = true:=by decide +kernel
end F
end PySem
namespace ST
open PySem PySem.Spec PyProof.Rows
section
variable{prog:Program}{w:World}{K:Type}[DecidableEq K]{knd:KeyKind prog w K}{A:Around}{R:Result->Shared->Prop}{I:Addr}{fp wr:List Addr}{G:Array GenState->Array GenState->Prop}{n:Nat}{P:Nat->Value->Prop}{St:Nat->Shared->Prop}
noncomputable def zms(ks:Nat->K)(vf:Nat->Value)(i:Nat):List (K×Value):=(List.range i).foldl (fun acc j=>stored acc (ks j) (vf j)) []
def zdQ{ks:Nat->K}{vf:Nat->Value}{i:Nat}:zms ks vf (i+1)=stored (zms ks vf i) (ks i) (vf i):=by
 unfold zms;rw [List.range_succ,ycO];rfl
theorem zhn{ks:Nat->K}{vf:Nat->Value}:∀{i:Nat},(zms ks vf i).length<=i
 | 0=>yak _
 | i+1=>by
  rw [zdQ];refine yaw ?_ (Nat.succ_le_succ (zhn (ks:=ks) (vf:=vf) (i:=i)));unfold stored;split
  ·rw [yac];exact ycf _
  ·rw [yar];exact yak _
theorem zj7(W:WalksS prog w A.in1 I fp wr G n P St)(S:Addr)(hSf:S ∉ fp)(T:Nat->Addr)(ks:Nat->K)(kf vf:Nat->Value)(hval:∀i v,P i v->v=.ref (T i))(hk:∀i,i<n->knd.is (ks i) (kf i)=true)(hT:∀i,i<n->T i ∉ S::wr)(hn:n<=sizeLine) :
  ∀(k i:Nat) (tk:Tok) (s:Shared),n-i=k->i<=n->St i s->s.heap.DictOf knd S (zms ks vf i)->(∀i,i<n->s.heap.IsTuple (T i) #[kf i,vf i]) →
   (∀s',Moved (S::wr) G s s'->s'.heap.DictOf knd S (zms ks vf n)->R (.ok (.ret .none)) s') →
   codeAny (model prog w) A (.builtin "dict.update.loop" ⟨[.ref S,.ref I,.int i tk,.none],[]⟩) R s:=by
 have hSw:S ∉ wr:=fun h=>hSf (W.sub _ h)
 have hsub:∀b∈wr,b∈S::wr:=fun b hb=>yag _ hb
 intro k
 induction k with
 | zero =>
  intro i tk s hk' hi hst hS hTs hR
  have hin:i=n:=by omega
  subst hin;refine ybN PySem.F.zba ?_;rw [ybW PySem.F.zau _];show wpAny _ A.in1 (pyNext (.ref I) >>= _) _ _ s;refine yaa (W.done s _ _ hst fun s' hm=>?_);show wpAny _ A.in1 (Builtin.Dict.addKeywords S [] >>= _) _ _ s';exact yaa (yaf (yaf (hR s' (hm.mono hsub) (hS.at fun o ho=>hm.heap S _ hSw ho))))
 | succ k ih =>
  intro i tk s hk' hi hst hS hTs hR
  have hlt:i<n:=by omega
  refine ybN PySem.F.zba ?_;rw [ybW PySem.F.zau _];show wpAny _ A.in1 (pyNext (.ref I) >>= _) _ _ s;refine yaa (W.item i s _ _ hlt hst fun v s' hP hst' hm=>?_);obtain rfl:=hval i v hP
  have hTs':∀i,i<n->s'.heap.IsTuple (T i) #[kf i,vf i]:=fun i hi=>by
   obtain ⟨o,ho,r⟩:=hTs i hi;exact ⟨o,hm.heap _ _ (fun z=>hT i hi (hsub _ z)) ho,r⟩
  have hS':=hS.at (h':=s'.heap) fun o ho=>hm.heap S _ hSw ho
  refine yaa (yba (yaa ?_));refine wpAny_tryCatch ?_;unfold Builtin.Dict.pairItems;obtain ⟨ot,hot,hct,nt,hdt⟩:=hTs' i hlt;have hTy:s'.TypeIs (.ref (T i)) "tuple":=⟨ot,hot,hct⟩;refine yaa (yci hTy ?_);rw [if_pos (by decide)];refine yaa (ybx hot hdt (yaf ?_));show wpAny _ _ (holding [kf i,vf i] (dictSet S (kf i) (vf i))) _ _ _;refine yba (wpAny_dictSet_pairs (hk i hlt) hS' (fun h' hd hsb=>?_) (yaw zhn (by omega)));rw [<-zdQ] at hd;refine yaf ⟨plainId_quiet PySem.F.zau _,?_⟩;refine ih (i+1) _ _ (by omega) hlt (W.frame _ s' _ _ hst' (ycf _) fun b hb o e=>?_) hd (fun j hj=>?_) fun s'' hm'' hS''=>?_
  ·rw [hsb.2 b (fun h:b=S=>hSf (by rw [<-h];exact hb))];exact e
  ·obtain ⟨o,ho,r⟩:=hTs' j hj;exact ⟨o,(hsb.2 _ (fun z=>hT j hj (by rw [z];exact yah))).trans ho,r⟩
  ·refine hR s'' (Moved.trans W.gtrans ((hm.mono hsub).then_heap (ycf _) fun b o hb e=>?_) hm'') hS'';rw [hsb.2 b (fun h:b=S=>hb (by rw [h];exact yah))];exact e
end
end ST
namespace PySem
section
variable{prog:Program}{w:World}{K:Type}[DecidableEq K]{knd:KeyKind prog w K}{A:Around}{E:Z5}{s:Shared}
theorem zis{l:Addr}{items:Array Value}{Q:Z5}(T:Nat->Addr)(ks:Nat->K)(kf vf:Nat->Value)(hh:A.handled=none){kl:Nat}{sl:Array (Option Value)}(hl:s.heap.get? l=some { cls:=.type "list",dict:=none,data:=.seq items kl,slots:=sl })
  (hi:∀(i:Nat) (v:Value),items[i]?=some v->v=.ref (T i)) (hk:∀i,i<items.size->knd.is (ks i) (kf i)=true) (hT:∀i,i<items.size->s.heap.IsTuple (T i) #[kf i,vf i]) (hn:items.size<=sizeLine)
  (h:∀(h':Heap) (tk:Nat),h'.DictOf knd s.heap.objs.size (ST.zms ks vf items.size)->(∀b o,s.heap.get? b=some o->h'.get? b=some o)->Q (.ref s.heap.objs.size) { s with heap:=h',toks:=tk }) :
  wpAny (model prog w) A (call (.type "dict") [.ref l]) Q E s:=by
 refine callType_codes (Q₁:=fun obj s₁=>obj=.ref s.heap.objs.size/\s₁={ s with heap:=s.heap.push { cls:=.type "dict",data:=.dict #[] } }) F.kt_called_dict (F.kt_typeCall_dict_1 _) F.entry_dict_init (kt_code_dict_new _ ⟨rfl,rfl⟩) ?_;rintro obj s₁ ⟨rfl,rfl⟩;generalize hG:s.heap.push { cls:=.type "dict",data:=.dict #[] }=G;have hnew:G.DictOf knd s.heap.objs.size []:=hG ▸ Heap.DictOf.new s.heap;have upG:∀b o,s.heap.get? b=some o->G.get? b=some o:=fun b o e=>hG ▸ yae _ e
 have hl':=upG _ _ hl;refine ⟨hnew.typeIs,F.args_dict_init_2 _ _,?_⟩;unfold Builtin.«dict.__init__»;refine yaa ?_;unfold Builtin.Dict.selfAndRest;refine yaa (wpAny_notOrdered_dict hnew.typeIs ?_);show wpAny _ _ (pure (s.heap.objs.size,[Value.ref l])) _ _ _;refine yaf ?_;show wpAny _ _ (Builtin.Dict.updateFrom "dict.__init__" s.heap.objs.size (.ref l) [] .none) _ _ _;unfold Builtin.Dict.updateFrom;refine yaa (yci (T:="list") ⟨_,hl',rfl⟩ ?_);rw [if_pos (by decide)];refine yaa (zjB hl' (by simp [hh]) fun h₁ tk₁ k₁=>?_);refine yaa (ycV ?_);have hl1:h₁.IsList l items:=⟨_,k₁ _ _ hl',rfl,_,rfl⟩;refine yaa (ycJ hl1 ?_);have hlS:l<s.heap.objs.size:=yap hl
 have hS1:s.heap.objs.size<h₁.objs.size:=by
  obtain ⟨o,_,_,ho,_⟩:=hnew;exact yap (k₁ _ _ ho)
 have hh3:A.in1.in1.handled=none:=by simp [hh]
 have hneI:l≠h₁.objs.size:=yau (ycG hlS hS1);have kP:∀b o,s.heap.get? b=some o->∀o',(h₁.push o').get? b=some o:=fun b o e o'=>yae _ (k₁ _ _ (upG _ _ e))
 refine yaf ⟨plainId_quiet F.zau _,?_⟩;refine ST.zj7 ((Walks.list hh3 _ l hneI items).toS) s.heap.objs.size ?_ T ks kf vf hi hk (fun i hi=>?_) hn (items.size-0) 0 _ _ (by omega) (yaP _) ⟨⟨_,yat _ rfl,rfl,rfl⟩,(hl1.push _)⟩ ?_ (fun i hi=>?_) ?_
 ·simp only [yao,yaD,ybX,or_false,not_or];exact ⟨yau hS1,yaX hlS⟩
 ·obtain ⟨o,ho,_⟩:=hT i hi;have:=yap ho;simp only [yao,yaD,ybX,or_false,not_or];exact ⟨yau this,yau (ycG this hS1)⟩
 ·exact (hnew.at fun o e=>yae _ (k₁ _ _ e))
 ·obtain ⟨o,ho,r⟩:=hT i hi;exact ⟨o,kP _ _ ho _,r⟩
 ·intro s' hm hS';obtain ⟨h',g',d',tk',os'⟩:=s';have eg:g'=s.gens:=hm.gens;have ed:d'=s.drawn:=hm.drawn;have eo:os'=s.os:=hm.os;subst eg;subst ed;subst eo;refine ⟨rfl,h h' tk' hS' fun b o e=>?_⟩;have hb1:b≠s.heap.objs.size:=yau (yap e);have hb2:b≠h₁.objs.size:=yau (ycG (yap e) hS1);exact hm.heap b o (by simp only [yao,yaD,ybX,or_false,not_or];exact ⟨hb1,hb2⟩) (kP _ _ e _)
end
end PySem
namespace L2
open PySem PySem.Spec PySem.W PyProof.Rows
noncomputable def leS(a b:Str):Prop:=a.cps.toList<=b.cps.toList
noncomputable def zoX(x:Str):List Str->List Str
 | []=>[x]
 | y::r=>if decide (y.cps.toList<x.cps.toList) then y::zoX x r else x::y::r
noncomputable def zeK:List Str->List Str
 | []=>[]
 | x::r=>zoX x (zeK r)
theorem zd1(x:Str):∀l:List Str,(zoX x l).Perm (x::l)
 | []=>.refl _
 | y::r=>by
  unfold zoX;split
  ·exact ((zd1 x r).cons y).trans (List.Perm.swap x y r)
  ·exact .refl _
theorem zc6:∀l:List Str,(zeK l).Perm l
 | []=>.refl _
 | x::r=>(zd1 x (zeK r)).trans ((zc6 r).cons x)
def zfS{a b c:Str}(h:leS a b)(h':leS b c):leS a c:=List.le_trans h h'
theorem zhE(x:Str):∀l:List Str,l.Pairwise leS->(zoX x l).Pairwise leS
 | [],_=>List.pairwise_singleton _ _
 | y::r,h=>by
  have h1:=ybm.mp h;unfold zoX;split
  ·rename_i hl;have hl:=yaE hl;refine ybm.mpr ⟨fun z hz=>?_,zhE x r h1.2⟩
   rcases yao.mp ((zd1 x r).mem_iff.mp hz) with rfl | hz
   ·exact List.le_of_lt hl
   ·exact h1.1 z hz
  ·rename_i hl;have hl:¬ y.cps.toList<x.cps.toList:=fun z=>hl (yaJ z)
   have hxy:leS x y:=List.not_lt.mp hl;refine ybm.mpr ⟨fun z hz=>?_,h⟩
   rcases yao.mp hz with rfl | hz
   ·exact hxy
   ·exact zfS hxy (h1.1 z hz)
theorem zft:∀l:List Str,(zeK l).Pairwise leS
 | []=>.nil
 | x::r=>zhE x _ (zft r)
theorem zfC:∀(p:Str) (l:List Str),risingS p l=true->(p::l).Pairwise leS
 | p,[],_=>List.pairwise_singleton _ _
 | p,x::r,h=>by
  have h':(!ltCps x.cps.toList p.cps.toList&&risingS x r)=true:=h;rw [yab,ya8] at h';have ih:=zfC x r h'.2
  have hpx:leS p x:=by
   have e:=h'.1;rw [ltCps_eq] at e;exact List.not_lt.mp (of_decide_eq_false e)
  refine ybm.mpr ⟨fun z hz=>?_,ih⟩
  rcases yao.mp hz with rfl | hz
  ·exact hpx
  ·exact zfS hpx ((ybm.mp ih).1 z hz)
theorem ziQ:∀(l:List Str),sortedS l=true->l.Pairwise leS
 | [],_=>.nil
 | x::r,h=>zfC x r h
def zkM{a b:Str}(h:a.cps.toList=b.cps.toList):a=b:=by
 cases a;cases b;simp only at h;congr 1;exact Array.toList_inj.mp h
def zh3{a b:List Str}(p:a.Perm b)(h:sortedS a=true):a=zeK b :=
 List.Perm.eq_of_pairwise (le:=leS) (fun x y _ _ h1 h2=>zkM (List.le_antisymm h1 h2)) (ziQ a h) (zft b) (p.trans (zc6 b).symm)
section
variable{X:Cx}{pins:Z3}{σ:St}{H:Hp}{s:Shared}{a:Addr}{kvs:List (Key×V)}{A:Around}{E:Z5}{ks:List Str}
theorem zdj:∀{vs:List Value} {ss:List Str},StrsAre vs ss->Vals (ss.map V.str) vs
 | _,_,.nil=>.nil
 | _,_,.cons x t h=>.cons ⟨t,rfl⟩ (zdj h)
theorem zdk:∀{ks:List Str} {vs:List Value} (h:vs.length=ks.length),(∀(i:Nat) (v:Value) (k:Str),vs[i]?=some v->ks[i]?=some k->∃t,v=Value.str k t)->StrsAre vs ks
 | [],[],_,_=>.nil
 | k::ks,v::vs,h,hv=>by
  obtain ⟨t,rfl⟩:=hv 0 v k rfl rfl;exact .cons k t (zdk (by simpa using h) fun i v k h1 h2=>hv (i+1) v k (by simpa using h1) (by simpa using h2))
theorem zjz:∀{kvs:List (Key×V)} {vs:List (Key×Value)},KV kvs vs->kvs.map (·.1)=vs.map (·.1)
 | _,_,.nil=>rfl
 | _,_,.cons h t=>by rw [yas,yas,h.1,zjz t]
def zlH{P:Program}{w:World}{k:Str}{v:Value}(h:(zap P w).is (Sum.inr k) v=true):∃t,v=Value.str k t:=by
 have h':Value.isStrOf k v=true:=h
 cases v<;>first | (cases h';done) | skip
 rename_i x t
 have e:x=k:=by simpa [Value.isStrOf] using h'
 exact ⟨t,by rw [e]⟩
theorem zlS{Q:Z5}(hh:A.handled=none)(I:Inv X pins σ H s)(e:Rd H a (.dK kvs))(hk:kvs.map (·.1)=ks.map Sum.inr)(h64:ks.length<64)
  (h:∀p s',H p=none->Inv X pins σ (upd H p (.lst ((zeK ks).map V.str))) s'->Q (.ref p) s'):wpAny (model X.prog X.w) A (call (.builtin "sorted") [.ref a]) Q E s:=by
 obtain ⟨z,hd,vs,rel,dd⟩:=zed I.hok e;obtain ⟨ep,da⟩:=dd.dictAt
 have hlen:vs.length=ks.length:=by
  rw [<-rel.length];have:=congrArg List.length hk;simpa using this
 have hkeys:vs.map (·.1)=ks.map Sum.inr:=by
  rw [<-hk];exact (zjz rel).symm
 refine Calls.call_function_entry kind_sorted plain_sorted entry_sorted (args_sorted1 _) ?_;unfold Builtin.«sorted»;refine yaa (m:=checkCount "sorted" 1 1 _) (yaf ?_);refine yaa (kdu_collect (A:=A.in1) (kdl_dict (prog:=X.prog) hd) hh da (by rw [hlen,ycQ];omega) fun h' tk acc kp hacc=>?_)
 have hl:acc.toList.length=ks.length:=by rw [yaM,hacc.1,hlen]
 have hS:StrsAre acc.toList ks:=zdk hl fun i v k h1 h2=>by
  obtain ⟨k',x,e1,e2⟩:=hacc.2 i v (by rw [<-yaZ];exact h1);have e3:=congrArg (fun l=>l[i]?) hkeys;simp only [yav,e1,h2,Option.map_some] at e3;cases e3;exact zlH e2
 refine yaa (wpAny_newList ?_ (by rw [hl,ycQ];omega));have hoL:(h'.push (seqObj "list" acc.toList.toArray 0)).get? h'.objs.size=some (seqObj "list" acc.toList.toArray 0):=yat _ rfl;refine yaa (yba (ybq slot_list_sort ⟨_,hoL,rfl⟩ entry_list_sort (list_sort_treeK strKind_oneLt (s:={ s with heap:=h'.push (seqObj "list" acc.toList.toArray 0),toks:=tk }) hoL hS.keysOf (fun v₁ v₂ za0 e=>keyKind_strs (by rw [<-e];exact hS)) (by rw [hl];exact h64) fun st' hp hs=>⟨_,rfl,?_⟩) (args_list_sort _)));refine yaf ⟨_,rfl,?_⟩;obtain ⟨ss',b1,b2,b3⟩:=sorted_out_str hS hp hs;obtain ⟨e',he⟩:=sortedHeap_at (out:=(arrOf st').map (·.2)) hoL;have I1:=I.kept kp (t':=tk);have eu:=zh3 b2 b3;refine h h'.objs.size _ (I1.hok.fresh (yak _)) (I1.laid (t':=tk) (o:=.lst ((zeK ks).map V.str)) (fun b o hb=>?_) (yak _) (show zaG X.prog X.w _ _ _ (.lst _) from ⟨?_,((arrOf st').map (·.2)).toList,e',?_,?_⟩))
 ·have hlt:b<h'.objs.size:=yap hb;rw [sortedHeap_old (yau hlt) (by rw [size_push'];exact ycg hlt)];exact yae _ hb
 ·rw [yac,(zc6 ks).length_eq,ycQ];omega
 ·rw [<-eu];exact zdj b1
 ·rw [Array.toArray_toList];exact he
end
open PySem PySem.Spec PyProof.Rows
noncomputable def kvS(ps:List (Str×V)):List (Key×V):=ps.foldl (fun acc p=>zdR acc (.inr p.1) p.2) []
theorem zoc{ps:List (Str×V)}:(kvS ps).length<=ps.length:=by
 have go:∀(ps:List (Str×V)) (acc:List (Key×V)),(ps.foldl (fun acc p=>zdR acc (.inr p.1) p.2) acc).length<=acc.length+ps.length:=by
  intro ps
  induction ps with
  | nil=>intro acc;exact yak _
  | cons p ps ih =>
   intro acc;have h1:=ih (zdR acc (.inr p.1) p.2);have h2:=zb5 acc (.inr p.1:Key) p.2;rw [yby,yan];omega
 have:=go ps [];rwa [List.length_nil,Nat.zero_add] at this
section
variable{X:Cx}
theorem zfg(hc:X.calm=true):zb9 X (.type "dict") (fun xs H Q=>∃(p:Addr) (qs:List Addr) (ps:List (Str×V)),xs=[.ref p]/\SqL X.K H p (qs.map V.ref)/\qs.length=ps.length/\(∀(i:Nat) q c,qs[i]?=some q->ps[i]?=some c->SqT X.K H q [.str c.1,c.2])/\∀l,H l=none->Q (.ref l) (upd H l (.dK (kvS ps)))):=by
 intro pins s σ H xs us Q I r h;obtain ⟨p,qs,ps,rfl,hq,hn,ht,q⟩:=h;obtain ⟨u,rfl,rx⟩:=zdx r;cases rx;obtain ⟨its,rv,pl,hz⟩:=I.list hq
 have hl:its.length=ps.length:=by rw [<-rv.length,yac];exact hn
 have hz':ps.length<=sizeLine:=by rwa [yac,hn] at hz
 obtain ⟨o,kl,ho,hc1,hc2,hc3⟩:=pl;obtain ⟨c,dc,dt,sl⟩:=o;simp only at hc1 hc2 hc3;subst hc1 hc2 hc3
 have hch:∀i:Nat,∃kv:Value×Value,i<ps.length->s.heap.IsTuple (qs.getD i 0) #[kv.1,kv.2]/\zaI (.str (ps.getD i ("",.non)).1) kv.1/\zaI (ps.getD i ("",.non)).2 kv.2:=by
  intro i
  by_cases hi:i<ps.length
  ·have e1:qs[i]?=some (qs.getD i 0):=by rw [ya2,yaj (by omega)];rfl
   have e2:ps[i]?=some (ps.getD i ("",.non)):=by rw [ya2,yaj hi];rfl
   obtain ⟨ts,rt,pt,_⟩:=I.tuple (ht i _ _ e1 e2)
   cases rt with
   | cons r1 rt =>
    cases rt with
    | cons r2 rt=>cases rt;exact ⟨(_,_),fun _=>⟨pt,r1,r2⟩⟩
  ·exact ⟨(.none,.none),fun z=>absurd z hi⟩
 obtain ⟨kv,hkv⟩:=Classical.axiomOfChoice hch
 have hits:∀(i:Nat) (v:Value),its.toArray[i]?=some v->v=.ref (qs.getD i 0):=by
  intro i v hv;rw [ycn] at hv;have hi:i<its.length:=(yam.mp hv).1
  have e1:(qs.map V.ref)[i]?=some (.ref (qs.getD i 0)):=by rw [yav,ya2,yaj (by omega)];rfl
  obtain ⟨u,hu,ru⟩:=rv.get e1;rw [hu] at hv;cases hv;exact ru
 have hsz:its.toArray.size=ps.length:=by rw [yai];exact hl
 refine zis (knd:=zap X.prog X.w) (fun i=>qs.getD i 0) (fun i=>(.inr (ps.getD i ("",.non)).1:Key)) (fun i=>(kv i).1) (fun i=>(kv i).2) (I.ok.hd hc) ho hits (fun i hi=>zfU (k:=.inr _) (hkv i (hsz ▸ hi)).2.1) (fun i hi=>(hkv i (hsz ▸ hi)).1) (hsz ▸ hz') fun h' tk D k=>?_
 have rel:∀i,i<=ps.length->KV (kvS (ps.take i)) (ST.zms (fun i=>(.inr (ps.getD i ("",.non)).1:Key)) (fun i=>(kv i).2) i):=by
  intro i
  induction i with
  | zero=>intro _;exact .nil
  | succ i ih =>
   intro hi
   have e2:ps[i]?=some (ps.getD i ("",.non)):=by rw [ya2,yaj (by omega)];rfl
   rw [ST.zdQ,List.take_succ,e2];unfold kvS;rw [ycO];exact (ih (by omega)).put _ (hkv i (by omega)).2.2
 have rel':=rel ps.length (yak _);rw [ybr] at rel';rw [hsz] at D;refine ⟨.ref s.heap.objs.size,_,I.laid (t':=tk) (o:=.dK (kvS ps)) k (yak _) ⟨yaw zoc hz',?_,_,rel',D⟩,rfl,q _ (I.hok.fresh (yak _))⟩;exact beq_false_of_ne (yaX I.big)
def zee(hc:X.calm=true):zb9 X (.builtin "sorted") (fun xs H Q=>∃(a:Addr) (kvs:List (Key×V)) (ks:List Str),xs=[.ref a]/\Rd H a (.dK kvs)/\kvs.map (·.1)=ks.map Sum.inr/\ks.length<64/\∀p,H p=none->Q (.ref p) (upd H p (.lst ((zeK ks).map V.str)))):=by
 intro pins s σ H xs us Q I r h;obtain ⟨a,kvs,ks,rfl,ha,hk,h64,q⟩:=h;obtain ⟨u,rfl,rx⟩:=zdx r;cases rx;exact zlS (I.ok.hd hc) I ha hk h64 fun p s' hp I'=>⟨.ref p,_,I',rfl,q p hp⟩
end
end L2
namespace S2
open PySem PySem.Spec PyProof.Rows L2
noncomputable def zvW:D->Option Str | .str k=>some k | _=>none
noncomputable def zvN:D->Option (List D) | .tup l=>some l | _=>none
def prO(d:D):Option (Str×D):=(zvN d).bind fun l=>match l with | [a,b]=>(zvW a).map fun k=>(k,b) | _=>none
def zrY:List D->Option (List (Str×D))
 | []=>some []
 | d::l=>(prO d).bind fun p=>(zrY l).map (p::·)
def zqb{d:D}{p:Str×D}(h:prO d=some p):d=.tup [.str p.1,p.2]:=by
 cases d with
 | tup l =>
  cases l with
  | nil=>cases h
  | cons a l=>cases l with
   | nil=>cases h
   | cons b l=>cases l with
    | cons _ _=>cases h
    | nil=>cases a<;>first | (cases h;rfl) | (cases h;done)
 | _=>cases h
noncomputable def zsY(ps:List (Str×D)):List (D×D):=ps.foldl (fun acc p=>putS p.1 p.2 acc) []
def zoB:List D->Option D | [.lst l]=>(zrY l).map fun ps=>.dic (zsY ps) | _=>none
def zeJ:List D->Option D | [.dic ds]=>if zaz ds&&decide (ds.length<64) then some (.lst ((zeK (zeZ ds)).map D.str)) else none | _=>none
section
variable{X:Cx}{cl:Cf}
theorem zhw{k x:Str}{d:D}:∀{ds:List (D×D)},zaz ds=true->zaK x (putS k d ds)=if k=x then some d else zaK x ds
 | [],_=>rfl
 | (.str y,e)::r,h=>by
  unfold zaz at h;rw [yab] at h;unfold putS
  by_cases hy:y=k
  ·subst hy;rw [if_pos rfl];unfold zaK
   by_cases hx:y=x
   ·rw [if_pos hx,if_pos hx]
   ·rw [if_neg hx,if_neg hx,if_neg hx]
  ·rw [if_neg hy];unfold zaK
   by_cases hx:y=x
   ·rw [if_pos hx,if_neg (fun z=>hy (hx.trans z.symm)),if_pos hx]
   ·rw [if_neg hx,zhw h.2,if_neg hx]
theorem zhq{k:Str}{d:D}:∀{ds:List (D×D)},zaz ds=true->zaz (putS k d ds)=true
 | [],_=>rfl
 | (.str y,e)::r,h=>by
  have h':=h;unfold zaz at h;rw [yab] at h;unfold putS
  by_cases hy:y=k
  ·rw [if_pos hy];unfold zaz;rw [yab];exact h
  ·rw [if_neg hy];unfold zaz;rw [yab,zhw h.2,if_neg (fun z=>hy z.symm)];exact ⟨h.1,zhq h.2⟩
def zk9{w:Wd}:∀{l:List D} {ps:List (Str×D)} {xs:List V},zrY l=some ps->Shds cl w xs l->∃(qs:List Addr) (vs:List (Str×V)),xs=qs.map V.ref/\qs.length=vs.length/\(∀(i:Nat) q c,qs[i]?=some q->vs[i]?=some c->w.H q=some (.tup [.str c.1,c.2]))/\Paired (fun (v:Str×V) (p:Str×D)=>v.1=p.1/\Shd cl w v.2 p.2) vs ps:=by
 intro l
 induction l with
 | nil =>
  intro ps xs e r;cases e;cases r;exact ⟨[],[],rfl,rfl,(fun i q c z=>by cases z),.nil⟩
 | cons d l ih =>
  intro ps xs e r;obtain ⟨p,e0,e⟩:=Option.bind_eq_some_iff.mp (show (prO d).bind (fun p=>(zrY l).map (p::·))=some ps from e);obtain ⟨ps',e1,rfl⟩:=yax.mp e;obtain rfl:=zqb e0
  cases r with
  | cons r1 r2 =>
   obtain ⟨qs,vs,rfl,hn,hp,hv⟩:=ih e1 r2
   cases r1 with
   | tup ep k0 rt =>
    cases rt with
    | cons t1 t2 =>
     cases t2 with
     | cons t2 t3 =>
      cases t3;cases t1;refine ⟨_::qs,(p.1,_)::vs,rfl,congrArg Nat.succ hn,fun i q c h1 h2=>?_,.cons ⟨rfl,t2⟩ hv⟩
      cases i with
      | zero=>cases h1;cases h2;exact ep
      | succ i=>exact hp i q c h1 h2
theorem zhm{w:Wd}:∀{vs:List (Str×V)} {ps:List (Str×D)} {kvs:List (Key×V)} {ds:List (D×D)},Paired (fun (v:Str×V) (p:Str×D)=>v.1=p.1/\Shd cl w v.2 p.2) vs ps->ShdK cl w kvs ds->zaz ds=true →
  ShdK cl w (vs.foldl (fun acc p=>zdR acc (.inr p.1) p.2) kvs) (ps.foldl (fun acc p=>putS p.1 p.2 acc) ds)/\zaz (ps.foldl (fun acc p=>putS p.1 p.2 acc) ds)=true
 | _,_,_,_,.nil,h,o=>⟨h,o⟩
 | _,_,_,_,.cons ⟨e,hv⟩ t,h,o=>by
  rw [yby,yby,e];exact zhm t (h.putS o hv) (zhq o)
def zoG(hc:X.calm=true):zmd X cl (.type "dict") zoB:=by
 intro pins s σ H xs us Q I r h;obtain ⟨w,ds,d,rfl,hx,hg,q⟩:=h;unfold zoB at hg;split at hg
 ·rename_i l;obtain ⟨ps,h1,rfl⟩:=yax.mp hg
  cases hx with
  | cons h2 h3 =>
   cases h3;obtain ⟨p,ys,rfl,ep,rs⟩:=h2.lstI;obtain ⟨qs,vs,rfl,hn,hp,hv⟩:=zk9 h1 rs;exact zfg hc pins s σ w.H _ us Q I r ⟨p,qs,vs,rfl,SqL.of ep,hn,fun i q c e1 e2=>SqT.of (hp i q c e1 e2),fun l hl=>q _ _ w (Grow.refl _) hl (.dicK (zhm hv .nil rfl).1)⟩
 ·cases hg
theorem zdJ{w:Wd}:∀{l:List Str},Shds cl w (l.map V.str) (l.map D.str)
 | []=>.nil
 | i::l=>.cons (.str i) (zdJ (l:=l))
def zkl(hc:X.calm=true):zmd X cl (.builtin "sorted") zeJ:=by
 intro pins s σ H xs us Q I r h;obtain ⟨w,ds,d,rfl,hx,hg,q⟩:=h;unfold zeJ at hg;split at hg
 ·rename_i l;split at hg
  ·rename_i ho;rw [yab,yaA] at ho;cases hg
   cases hx with
   | cons h2 h3 =>
    cases h3;obtain ⟨p,kvs,rfl,ep,rs⟩:=h2.dicI;obtain ⟨k1,k2⟩:=zeY rs ho.1;exact zee hc pins s σ w.H _ us Q I r ⟨p,kvs,_,rfl,ep,k1,by rw [k2];exact ho.2,fun l hl=>q _ _ w (Grow.refl _) hl (.lst zdJ)⟩
  ·cases hg
 ·cases hg
end
end S2
namespace L2
open PySem PySem.Spec PyProof.Rows
def zkU{X:Cx}(hu:X.A.units+1<cLine):zvl X (fun o i v H Q=>∃a H',o=.ref a/\zrP H a i v H'/\Q H'):=by
 intro pins s σ H o i v ov iv vv Q I ro ri rv h;obtain ⟨a,H',rfl,g,q⟩:=h;cases ro;exact zkb hu I g ri rv fun s' I'=>⟨H',I',q⟩
end L2
namespace S2
open PySem PySem.Spec PyProof.Rows L2
noncomputable def zrl:Fe:=fun _ S=>.ok (.dic []) S
def zgt(i:Nat)(ρ:Env):Option (List (D×D)):=match ρ[i]? with | some (some (true,.dic ds))=>if zaz ds&&small ds.length then some ds else none | _=>none
def zh6(i:Nat)(fk fe:Fe):Fs:=fun ρ S=>match zgt i ρ with
 | some ds=>(match fe ρ S with
  | .ok d S1=>(match fk ρ S1 with
   | .ok k S2=>(match k with
    | .str x=>.nx (ρ.set i (some (true,.dic (putS x d ds)))) S2
    | _=>.bad)
   | .exc c S2=>.ex c ρ S2 | .bad=>.bad)
  | .exc c S1=>.ex c ρ S1 | .bad=>.bad)
 | _=>.bad
section
variable{X:Cx}{cl:Cf}{E:St->XK}{own:Bool}{a b e:Expr}{f g fe fk:Fe}{pos pos':Pos}{i:Nat}{x:Str}{ap cp:Pos}
def zgv:PE X (.Dict [] [] pos) (tN cl E zrl):=PE.imp zlh fun σ H Q ⟨B,w,ρ,S,e,R,q⟩=>by
 subst e;intro p hp;exact q p _ w R (Fut.refl _) hp (.dicK .nil)
def zhg{B:Base}{σ:St}{w:Wd}{ρ:Env}{S:Sto}{ds:List (D×D)}(R:Rel cl B σ w ρ S)(h:zgt i ρ=some ds):∃p kvs,σ[i]?=some (some (.ref p))/\w.ow p=some (.slot i)/\w.H p=some (.dK kvs)/\ShdK cl w kvs ds/\zaz ds=true/\small ds.length=true:=by
 unfold zgt at h;split at h
 ·rename_i ds' hd;split at h
  ·rename_i ho;cases h;rw [yab] at ho;obtain ⟨v,e1,p,o,rfl,h1,h2,t⟩:=R.slots i true _ hd
   cases t with
   | dicK t=>exact ⟨p,_,e1,h1,h2,t,ho.1,ho.2⟩
  ·cases h
 ·cases h
def zng{p3:Pos}(hu:X.A.units+1<cLine)(hN:X.N[i]?=some x)(hv:Vis X.env.scope x)(hd:(x == ("__debug__":Str))=false)(hcd:(x == ("__classdict__":Str))=false)(hk:PE X a (tE cl E fk))(he:PE X e (tE cl E fe))(sw:swapsWithSole [.Subscript (.Name x pos') a p3] e pos.line X.env=pure false)(sw2:swappedStores [.Subscript (.Name x pos') a p3] e X.env=pure none)
  (ha:∀v,assign (.Subscript (.Name x pos') a p3) X.env v=(do
   let ov ← holding [v] (eval (.Name x pos') X.env)
   let iv ← holding [v,ov] (eval a X.env)
   standAt p3
   holding [v,ov,iv] (setItem ov iv v)
   release [v,ov,iv] [])) :
  PS X (.Assign [.Subscript (.Name x pos') a p3] e pos) (tS cl E own (zh6 i fk fe)):=by
 refine PS.imp (zmt he (zqh (zdo hN hv hd hcd) hk (zkU hu) ha) sw sw2 rfl) ?_;rintro De σ H ⟨B,w,ρ,S,rfl,R,q⟩;unfold zh6 at q
 cases hs:zgt i ρ with
 | none=>rw [hs] at q;exact q.elim
 | some ds =>
  rw [hs] at q;refine ⟨B,w,ρ,S,rfl,R,?_⟩
  cases hev:fe ρ S with
  | bad=>rwa [hev] at q
  | exc c S1=>rw [hev] at q;exact fun w' R' F'=>q σ w' R' F'
  | ok d S1 =>
   rw [hev] at q;intro v w1 R1 F1 sv;obtain ⟨p,kvs,e1,_,_,_,_,_⟩:=zhg R1 hs;refine ⟨_,e1,B,w1,ρ,S1,rfl,R1,?_⟩;dsimp only at q
   cases hkv:fk ρ S1 with
   | bad=>rwa [hkv] at q
   | exc c S2=>rw [hkv] at q;exact fun w' R' F'=>q σ w' R' (F1.trans F')
   | ok k S2 =>
    rw [hkv] at q;intro y w2 R2 F2 sy;dsimp only at q
    cases k with
    | str k =>
     cases sy;obtain ⟨p',kvs',e1',h1,h2,t,ho,hm⟩:=zhg R2 hs;rw [e1] at e1';cases e1';refine ⟨p,_,rfl,zrP.k (k:=.inr k) h2 (by rw [t.length];exact zhf hm),?_⟩;exact q σ _ (R2.mut (d0:=.non) e1 h1 (.dicK (t.putS ho (sv.up F2)))) ((F1.trans F2).trans (zfb (by rw [h1];exact yaG _)))
    | _=>exact q.elim
end
noncomputable def ztJ(nm:List (Str×NameKind))(ts:List Expr):Bool:=ts.any fun | .Name x _=>!decide (nm.lookup x=some .local) | _=>false
theorem zrg{α β:Type}(f:α->Option β):∀(l:List α),(∃a∈l,f a=none)->(l.filterMap f).length<l.length
 | [],h=>by obtain ⟨_,h,_⟩:=h;cases h
 | a::l,h=>by
  rw [yan,ybY];have hle:=List.length_filterMap_le f l
  cases ha:f a with
  | none=>exact Nat.lt_succ_of_le hle
  | some b =>
   show (l.filterMap f).length+1<_;obtain ⟨c,hc,e⟩:=h
   rcases yao.mp hc with rfl | hc
   ·rw [ha] at e;cases e
   ·have:=zrg f l ⟨c,hc,e⟩;omega
section
variable{X:Cx}{cl:Cf}{E:St->XK}{own:Bool}{nm:List (Str×NameKind)}
def zoH(hs:X.env.scope.names=nm)(h:ztJ nm ts=true):swappedStores [.Tuple ts k p] (.Tuple vs k2 p2) X.env=pure none:=by
 unfold swappedStores;dsimp only;split
 ·rfl
 ·split
  ·rfl
  ·split
   ·rfl
   ·rename_i hn;exfalso;apply hn;rw [ycx];left;rw [bne_iff_ne];apply yau;apply zrg;unfold ztJ at h;rw [List.any_eq_true] at h;obtain ⟨x,hx,hb⟩:=h;refine ⟨x,hx,?_⟩
    cases x with
    | Name y q =>
     have hb':¬ nm.lookup y=some .local:=by simpa using hb
     have:¬ X.env.kindOf y=some .local:=by unfold Env.kindOf;rw [hs];exact hb'
     simp [this]
    | _=>cases hb
variable{i j h:Nat}{x y z:Str}{a e:Expr}{f f1:Fe}{px py pz pt pt2 p2 pos:Pos}{kt k2:Nat}
end
noncomputable def Base.hold(B:Base)(p:Addr)(o:HO):Base:=⟨fun a=>if a=p then some o else B.Fr a,fun a=>if a=p then some .far else B.fw a⟩
section
variable{cl:Cf}{B:Base}{σ:St}{w:Wd}{ρ:Env}{S:Sto}
theorem Rel.hold(R:Rel cl B σ w ρ S)(hp:w.H p=none):Rel cl (B.hold p o) σ (w.addAs p o .far) ρ S:=by
 have ff:=zbl (w:=w) (p:=p) (o:=o) (r:=.far) hp
 have kp:∀a u,w.H a=some u->(w.addAs p o .far).H a=some u/\(w.addAs p o .far).ow a=w.ow a:=fun a u ha=>by
  have n:a≠p:=zaH ha hp;refine ⟨?_,?_⟩
  ·show upd w.H p o a=_;rw [zah n];exact ha
  ·show (if a=p then _ else if w.ow a=some Root.far then some Root.far else w.ow a)=_;rw [if_neg n];split
   ·rename_i e;exact e.symm
   ·rfl
 refine ⟨⟨fun a u h=>?_,fun a r h=>?_,R.wd.len,fun n ob h=>?_,R.wd.tab.keep ff fun P ps h1 h2=>⟨(kp P _ h1).1,(kp P _ h1).2.trans h2⟩⟩,R.len,fun j b e hj=>?_⟩
 ·by_cases ha:a=p
  ·subst ha;have h':(if a=a then some o else B.Fr a)=some u:=h;rw [if_pos rfl] at h';cases h';exact ⟨zaL,by show (if a=a then some Root.far else _)=(if a=a then some Root.far else _);rw [if_pos rfl,if_pos rfl]⟩
  ·have h':(if a=p then some o else B.Fr a)=some u:=h;rw [if_neg ha] at h';have:=kp a u (R.wd.fr a u h').1;refine ⟨this.1,this.2.trans ?_⟩;show _=(if a=p then some Root.far else B.fw a);rw [if_neg ha];exact (R.wd.fr a u h').2
 ·by_cases ha:a=p
  ·have h':(if a=p then some Root.far else if w.ow a=some Root.far then some Root.far else w.ow a)=some r:=h;rw [if_pos ha] at h';cases h';exact .inl rfl
  ·have h':(if a=p then some Root.far else if w.ow a=some Root.far then some Root.far else w.ow a)=some r:=h;rw [if_neg ha] at h';split at h'
   ·cases h';exact .inl rfl
   ·rcases R.wd.own a r h' with z | z
    ·exact .inl z
    ·refine .inr ?_;show (if a=p then some o else B.Fr a)=none;rw [if_neg ha];exact z
 ·obtain ⟨a,e,x⟩:=R.wd.obj n ob h;exact ⟨a,e,x.keep ff fun b u hb _=>kp b u hb⟩
 ·obtain ⟨v,e1,x⟩:=R.slots j b e hj;exact ⟨v,e1,x.keep ff fun a u ha hr=>⟨(kp a u ha).1,(kp a u ha).2.trans hr⟩⟩
def Rel.unhold(R:Rel cl (B.hold p o) σ w ρ S)(hB:B.Fr p=none):Rel cl B σ w ρ S:=by
 refine ⟨⟨fun a u h=>?_,fun a r h=>?_,R.wd.len,R.wd.obj,R.wd.tab⟩,R.len,R.slots⟩
 ·have na:a≠p:=fun z=>by rw [z,hB] at h;cases h
  have h2:=R.wd.fr a u (show (if a=p then some o else B.Fr a)=some u by rw [if_neg na];exact h);exact ⟨h2.1,h2.2.trans (show (if a=p then some Root.far else B.fw a)=_ from if_neg na)⟩
 ·rcases R.wd.own a r h with z | z
  ·exact .inl z
  ·have z':(if a=p then some o else B.Fr a)=none:=z;split at z'
   ·cases z'
   ·exact .inr z'
end
def eSm(g:Str->D->Option D)(fo f:Fe):Fe:=fun ρ S=>(fo ρ S).bind fun d S1=>match d with | .str x=>(f ρ S1).bind fun d S2=>Out.of (g x d) S2 | _=>.bad
noncomputable def MtS(X:Cx)(cl:Cf)(id:String)(g:Str->D->Option D):Prop:=MtR X id fun x vs H Q=>∃(y:Str) (w:Wd) (d:D) (v:V) (r:D),w.H=H/\x=.str y/\vs=[v]/\Shd cl w v d/\g y d=some r/\∀v' w',Grow w w'->Shd cl w' v' r->Q v' w'.H
section
variable{X:Cx}{cl:Cf}{E:St->XK}{o e e2:Expr}{fo f f2:Fe}
def zkW{name:Str}{id:String}{g:Str->D->Option D}{ap cp:Pos}(slot:Slot "str" name id)(hty:typeOf (.builtin id)=pure (.type "method_descriptor"))(hm:MtS X cl id g)(ho:PE X o (tE cl E fo))(he:PE X e (tE cl E f))(hpl:za4 e=true)
  (hb:attributeBase o name X.env (eval o X.env)=eval o X.env) (hln:(ap.endLine == cp.line)=true):PE X (.Call (.Attribute o name ap) [e] [] cp) (tE cl E (eSm g fo f)):=by
 refine PE.imp (zlm (es:=[]) PySem.F.plainAttrs_str slot hty hm ho (zc7 he zfy (za7 hpl)) hb (zf1 (by simp [hpl]) (by simp)) hln (za7 hpl) rfl) ?_;rintro σ H Q ⟨B,w,ρ,S,rfl,R,q⟩;refine ⟨B,w,ρ,S,rfl,R,?_⟩;unfold eSm at q
 cases hf:fo ρ S with
 | bad=>rwa [hf] at q
 | exc c S1=>rwa [hf] at q
 | ok d S1 =>
  rw [hf] at q;intro v w1 R1 F1 sh;dsimp only [Out.bind] at q
  cases d with
  | str x =>
   cases sh;refine ⟨rfl,B,w1,ρ,S1,rfl,R1,?_⟩
   cases h2:f ρ S1 with
   | bad=>rw [h2] at q;exact q.elim
   | exc c S2=>rw [h2] at q;simp only [zao,h2,Out.bind];exact fun w' R' F'=>q w' R' (F1.trans F')
   | ok d2 S2 =>
    rw [h2] at q;simp only [zao,h2,Out.bind];intro vs w2 R2 F2 shs;dsimp only [Out.bind] at q
    cases shs with
    | cons h1 hn =>
     cases hn
     cases hg:g x d2 with
     | none=>rw [hg] at q;exact q.elim
     | some r=>rw [hg] at q;exact ⟨x,w2,d2,_,r,rfl,rfl,rfl,h1,hg,fun v' w' gr s=>q v' w' (R2.grow gr) (F1.trans (F2.trans gr.fut)) s⟩
  | _=>exact q.elim
noncomputable def zlO(x:Str):D->Option D | .str y=>some (.bl (Txt.endswith x y)) | _=>none
def zn4:MtS X cl "str.endswith" zlO:=by
 intro pins s σ H x vs v us Q I rx rv h;obtain ⟨y,w,d,v',r,rfl,rfl,rfl,sh,hg,q⟩:=h;obtain ⟨t,rfl⟩:=rx;obtain ⟨u,rfl,ru⟩:=rv.one
 cases d with
 | str z =>
  cases sh;cases hg;obtain ⟨t',rfl⟩:=ru;exact call_gives PySem.F.slot_str_endswith (yb0 _ _ _) PySem.F.entry_str_endswith (PySem.F.args_str_endswith_2 _ _) (gives_str_endswith _ _ _ _) ⟨.bl _,w.H,I,rfl,q _ w (Grow.refl _) (.bl _)⟩
 | _=>cases hg
noncomputable def zhF(x:Str):D->Option D | .str y=>(Builtin.Str.occurrences x y 0 x.length 1).head?.map fun i=>.int (i:Nat) | _=>none
def zlt:MtS X cl "str.index" zhF:=by
 intro pins s σ H x vs v us Q I rx rv h;obtain ⟨y,w,d,v',r,rfl,rfl,rfl,sh,hg,q⟩:=h;obtain ⟨t,rfl⟩:=rx;obtain ⟨u,rfl,ru⟩:=rv.one
 cases d with
 | str z =>
  cases sh;obtain ⟨t',rfl⟩:=ru;obtain ⟨i,hi,rfl⟩:=yax.mp hg;obtain ⟨l,hl⟩:=List.head?_eq_some_iff.mp hi;exact call_gives PySem.F.slot_str_index (yb0 _ _ _) PySem.F.entry_str_index (PySem.F.args_str_index_2 _ _) (gives_str_index _ _ _ _ i l hl) ⟨.int _,w.H,I.tok _,⟨_,rfl⟩,q _ w (Grow.refl _) (.int _)⟩
 | _=>cases hg
noncomputable def zdH:List D->Option (List Str)
 | []=>some []
 | .str x::l=>(zdH l).map (x::·)
 | _::_=>none
theorem zfr{w:Wd}:∀{xs:List V} {ds:List D} {ts:List Str} {its:List Value},Shds cl w xs ds->zdH ds=some ts->Vals xs its->∃l:List (Str×Tok),its=strValues l/\l.map (·.1)=ts
 | _,_,ts,its,.nil,h,r=>by cases h;cases r;exact ⟨[],rfl,rfl⟩
 | _,_,ts,its,.cons (d:=d) s t,h,r=>by
  cases d with
  | str x =>
   cases s;obtain ⟨ts',h1,rfl⟩:=yax.mp h
   cases r with
   | cons r1 r2 =>
    obtain ⟨tk,rfl⟩:=r1;obtain ⟨l,rfl,rfl⟩:=zfr t h1 r2;exact ⟨(x,tk)::l,rfl,rfl⟩
  | _=>cases h
theorem zfn:∀(l:List (Str×Tok)),Vals ((l.map (·.1)).map V.str) (strValues l)
 | []=>.nil
 | p::l=>.cons ⟨_,rfl⟩ (zfn l)
def ze4(x:Str):D->Option D | .lst l=>(zdH l).bind fun ts=>if JoinOk x ts then some (.str (Txt.join x ts)) else none | _=>none
def zn3:MtS X cl "str.join" ze4:=by
 intro pins s σ H x vs v us Q I rx rv h;obtain ⟨y,w,d,v',r,rfl,rfl,rfl,sh,hg,q⟩:=h;obtain ⟨t,rfl⟩:=rx;obtain ⟨u,rfl,ru⟩:=rv.one
 cases d with
 | lst z =>
  cases sh with
  | lst e k rs =>
   cases ru
   cases ht:zdH z with
   | none=>unfold ze4 at hg;dsimp only at hg;rw [ht] at hg;cases hg
   | some ts =>
    unfold ze4 at hg;dsimp only at hg;rw [ht] at hg;dsimp only [Option.bind] at hg;split at hg
    ·rename_i hj;cases hg;obtain ⟨its,r,p,_⟩:=I.list (SqL.of (K:=X.K) e);obtain ⟨l,rfl,rfl⟩:=zfr rs ht r;refine ybE PySem.F.slot_str_join (yb0 _ _ _) PySem.F.entry_str_join (PySem.F.args_str_join_2 _ _) (meets_str_join_list y t _ l ?_) ⟨p.isList,post_join l ⟨joinOk_length hj,fun t' k=>⟨.str _,w.H,I.tok _,⟨_,rfl⟩,q _ w (Grow.refl _) (.str _)⟩⟩⟩;unfold JoinOk at hj;rwa [ya8] at hj
    ·cases hg
 | _=>cases hg
noncomputable def zdI(x:Str):D->Option D | .str y=>if !(y.length == 0)&&small x.length then some (.lst ((Txt.split x y).map D.str)) else none | _=>none
def zls:MtS X cl "str.split" zdI:=by
 intro pins s σ H x vs v us Q I rx rv h;obtain ⟨y,w,d,v',r,rfl,rfl,rfl,sh,hg,q⟩:=h;obtain ⟨t,rfl⟩:=rx;obtain ⟨u,rfl,ru⟩:=rv.one
 cases d with
 | str z =>
  cases sh;obtain ⟨t',rfl⟩:=ru;unfold zdI at hg;dsimp only at hg;split at hg
  ·rename_i hz;cases hg;rw [yab,ya8] at hz;have hs:y.length+2<=sizeLine:=yaw (Nat.add_le_add_right (yaE hz.2) 2) (by decide)
   have hn:(Builtin.Str.partsBetween y (Builtin.Str.occurrences y z 0 y.length (y.length+1)) z.length).length<=sizeLine:=by
    have e1:=StrLaws.occ_length_le y z 0 y.length (y.length+1);rw [length_partsBetween];omega
   have fin:∀(l:List (Str×Tok)) (k:Nat),l.map (·.1)=Txt.split y z->l.length<=sizeLine->EP X pins σ Q (.ref s.heap.objs.size) { s with heap:=s.heap.push { cls:=.type "list",data:=.seq (strValues l).toArray },toks:=k }:=fun l k e hl=>by
    have hf:=I.hok.fresh (a:=s.heap.objs.size) (yak _);refine ⟨.ref s.heap.objs.size,_,I.laid (t':=k) (o:=.lst ((l.map (·.1)).map V.str)) (fun b ob q=>yae _ q) (yak _) ?_,rfl,q _ (w.add _ _) (zav hf _) ?_⟩
    ·exact ⟨by rw [yac,yac];exact hl,_,0,zfn l,yat _ rfl⟩
    ·rw [<-e];exact Shd.newL hf zdJ
   cases h1:(decide (y.length<z.length)||decide (Builtin.Str.strKind y<Builtin.Str.strKind z))
   ·cases hf:(Builtin.Str.occurrences y z 0 y.length (y.length+1)).isEmpty
    ·refine ybE ybF (yb0 _ _ _) ycb (yb2 _ _) (meets_str_split_sep y z t t' h1 hz.1 hf (by omega) hn) ?_;show wants _ _ _ { s with toks:=_,heap:=s.heap.push { cls:=.type "list",data:=.seq (strsFrom s.toks (Builtin.Str.partsBetween y (Builtin.Str.occurrences y z 0 y.length (y.length+1)) z.length)).toArray } };rw [strsFrom_eq];refine fin (numbered s.toks _) _ ((numbered_texts _ _).trans ((if_neg (ycz h1)).trans (if_neg (ycz hf))).symm) ?_;have:=congrArg List.length (numbered_texts s.toks (Builtin.Str.partsBetween y (Builtin.Str.occurrences y z 0 y.length (y.length+1)) z.length));rw [yac] at this;rw [this];exact hn
    ·exact ybE ybF (yb0 _ _ _) ycb (yb2 _ _) (meets_str_split_not_found y z t t' h1 hz.1 hf)
      (fin [(y,t)] s.toks ((if_neg (ycz h1)).trans (if_pos hf)).symm (show 1<=sizeLine by decide))
   ·exact ybE ybF (yb0 _ _ _) ycb (yb2 _ _) (meets_str_split_cannot_occur y z t t' h1)
     (fin [(y,t)] s.toks (if_pos h1).symm (show 1<=sizeLine by decide))
  ·cases hg
 | _=>cases hg
noncomputable def zkA:List D->Option D | [.int i]=>if decide (-1000<=i/\i<=1000) then some (.str (toString i)) else none | _=>none
def zrw:zfl X cl (.type "str") zkA:=by
 intro pins s σ H xs us Q I r h;obtain ⟨w,ds,d,rfl,hx,hg,q⟩:=h;unfold zkA at hg;split at hg
 ·rename_i i;split at hg
  ·rename_i hz;cases hg;have hz:=yaE hz
   cases hx with
   | cons h1 h2 =>
    cases h2;obtain rfl:=h1.intI;refine zf7 pins s σ w.H _ us Q I r ⟨i,rfl,?_,q _ w (Grow.refl _) (.str _)⟩;have:=Nat.log2_le_self i.natAbs;omega
  ·cases hg
 ·cases hg
def zdt(fo f f2:Fe):Fe:=fun ρ S=>(fo ρ S).bind fun d S1=>match d with
 | .dic ds=>if zaz ds then (f ρ S1).bind fun k S2=>(f2 ρ S2).bind fun z S3=>match k with | .str x=>.ok ((zaK x ds).getD z) S3 | _=>.bad else .bad
 | _=>.bad
def zkX{ap cp:Pos}(hu:X.A.units+1<cLine)(ho:PE X o (tE cl E fo))(he:PE X e (tE cl E f))(hf:PE X e2 (tE cl E f2))(h1:za4 e=true)(h2:za4 e2=true)(hb:attributeBase o "get" X.env (eval o X.env)=eval o X.env)(hln:(ap.endLine == cp.line)=true) :
  PE X (.Call (.Attribute o "get" ap) [e,e2] [] cp) (tE cl E (zdt fo f f2)):=by
 refine PE.imp (zli hu ho he hf ⟨hb,zf1 (by simp [h1,h2]) (by simp),hln,by rw [za7 h1,za7 h2];rfl⟩) ?_;rintro σ H Q ⟨B,w,ρ,S,rfl,R,q⟩;refine ⟨B,w,ρ,S,rfl,R,?_⟩;unfold zdt at q
 cases hfo:fo ρ S with
 | bad=>rwa [hfo] at q
 | exc c S1=>rwa [hfo] at q
 | ok d S1 =>
  rw [hfo] at q;intro v w1 R1 F1 sh;dsimp only [Out.bind] at q
  cases d with
  | dic ds =>
   dsimp only at q
   by_cases hon:zaz ds=true
   ·rw [if_pos hon] at q
    cases sh with
    | dicK ea ka ra =>
     refine ⟨_,rfl,.inl ⟨_,.inr ⟨_,ea⟩⟩,B,w1,ρ,S1,rfl,R1,?_⟩
     cases h3:f ρ S1 with
     | bad=>rw [h3] at q;exact q.elim
     | exc c S2=>rw [h3] at q;exact fun w' R' F'=>q w' R' (F1.trans F')
     | ok k S2 =>
      rw [h3] at q;intro y w2 R2 F2 sy;dsimp only [Out.bind] at q;refine ⟨B,w2,ρ,S2,rfl,R2,?_⟩
      cases h4:f2 ρ S2 with
      | bad=>rw [h4] at q;exact q.elim
      | exc c S3=>rw [h4] at q;exact fun w' R' F'=>q w' R' (F1.trans (F2.trans F'))
      | ok z S3 =>
       rw [h4] at q;intro zv w3 R3 F3 sz;dsimp only [Out.bind] at q
       cases k with
       | str x =>
        cases sy;dsimp only at q;have F13:=F2.trans F3;have e3:=(F13.keep _ _ ea ka).1
        rcases zcD x (ra.up F13) hon with ⟨g1,g2⟩ | ⟨v',d',g1,g2,g3⟩
        ·rw [g2] at q;exact ⟨none,.inl ⟨_,.inr x,.inr ⟨_,e3⟩,rfl,g1.symm⟩,q zv w3 R3 (F1.trans F13) sz⟩
        ·rw [g2] at q;exact ⟨some v',.inl ⟨_,.inr x,.inr ⟨_,e3⟩,rfl,g1.symm⟩,q v' w3 R3 (F1.trans F13) g3⟩
       | _=>exact q.elim
   ·rw [if_neg hon] at q;exact q.elim
  | _=>exact q.elim
def zil(k:Str)(f:Fe):Fe:=fun ρ S=>(f ρ S).bind fun d S1=>.ok (.dic [(.str k,d)]) S1
def zns{k:Str}{ke e:Expr}{fe:Fe}{pos:Pos}(hk:PE X ke (tC (.str k)))(he:PE X e (tE cl E fe)):PE X (.Dict [some ke] [e] pos) (tN cl E (zil k fe)):=by
 refine PE.imp (znQ (zlb hk he znG) rfl rfl (by simp) (by show 1<=15;decide)) ?_;rintro σ H Q ⟨B,w,ρ,S,rfl,R,q⟩;intro pd hpd;have Rh:=R.hold (o:=.dK []) hpd;have fa:=zbl (w:=w) (p:=pd) (o:=.dK []) (r:=.far) hpd
 have hB:B.Fr pd=none:=by
  cases z:B.Fr pd with
  | none=>rfl
  | some x=>have:=(R.wd.fr pd x z).1;rw [hpd] at this;cases this
 unfold zil at q;refine ⟨B.hold pd (.dK []),w.addAs pd (.dK []) .far,ρ,S,rfl,Rh,?_⟩
 cases hf:fe ρ S with
 | bad=>rwa [hf] at q
 | exc c S1=>rw [hf] at q;exact fun w' R' F'=>q w' (R'.unhold hB) (fa.trans F')
 | ok d S1 =>
  rw [hf] at q;dsimp only [Out.bind] at q;intro v w2 R2 F2 sh2;have hpp:=R2.wd.fr pd (.dK []) (show (if pd=pd then some (HO.dK []) else B.Fr pd)=some (.dK []) from if_pos rfl);have how:w2.ow pd=some .far:=hpp.2.trans (show (B.hold pd (.dK [])).fw pd=some Root.far from if_pos rfl)
  have hfar:w2.ow pd≠none:=by rw [how];exact yaG _
  have fd:=zgP (w:=w2) (a:=pd) hfar;refine ⟨hpp.1,[(.inr k,v)],rfl,(by show 1<=15;decide),?_⟩
  have eu:upd w2.H pd (.dK (zel [] [((.inr k:Key),v)]))=upd (w2.del pd).H pd (.dK [(.inr k,v)]):=by
   funext b;unfold upd
   by_cases hb':b=pd
   ·rw [if_pos hb',if_pos hb'];rfl
   ·rw [if_neg hb',if_neg hb'];show _=(if b=pd then none else w2.H b);rw [if_neg hb']
  rw [eu];exact q pd _ (w2.del pd) ((R2.unhold hB).del how hB) (fa.trans (F2.trans fd)) (if_pos rfl) (.dicK (.consS (sh2.up fd) .nil))
end
def zrh(g:Str->Str->Option Bool):Fs :=
 zae (zbj 1 true (zes [eUn (ze6 g "NoFill") (zad 0),eUn (ze6 g "NoName") (zad 0),eUn (ze6 g "NoPlace") (zad 0),eUn (ze6 g "NoText") (zad 0)]))
 (zae (zbj 1 false (zag zbu (zad 1) (zes [eUn (ze6 g "NoTile") (zad 0),eUn (ze6 g "Nothing") (zad 0),eUn (ze6 g "Unlike") (zad 0)])))
 (zae (sIf (eOr (zag neD (eMt zdv 1 (zab (.bl true))) (zab (.int 1))) (eUn zcS (eUn (ze6 g "ValueError") (zad 0)))) (zae (za9 (zab (.str "wrong"))) sNx) sNx)
 (zae (za9 (zag ixD (zes [zab (.str "no fill"),zab (.str "no name"),zab (.str "no place"),zab (.str "no text"),zab (.str "no tile"),zab (.str "nothing"),zab (.str "unlike")]) (eMt zds 1 (zab (.bl true))))) sNx)))
def zwR(g:Str->Str->Option Bool)(c:Str)(S:Sto):Out D:=match zrh g [some (false,.exc c),none] S with | .rt d S'=>.ok d S' | _=>.bad
noncomputable def zrC(ρ:Env):List Nat->Option (List D)
 | []=>some []
 | i::is=>match ρ[i]? with | some (some (false,d))=>(zrC ρ is).map (d::·) | _=>none
def ztE(und:Str->Str->Bool)(isx:Str->Str->Option Bool)(caps:List Nat)(fb:Fe):Fe:=fun ρ S=>match zrC ρ caps with
 | none=>.bad
 | some ds=>match fb (ds.map fun d=>some (false,d)) S with
  | .ok d S'=>.ok d S'
  | .exc c S'=>if und c "FloorError" then zwR isx c S' else .bad
  | .bad=>.bad
structure CapsOk(X:Cx)(N:List Str)(caps:List Nat):Prop where
 len:caps.length=N.length
 at':∀(j:Nat) (x:Str) (i:Nat),N[j]?=some x->caps[j]?=some i->X.N[i]?=some x/\X.env.scope.names.lookup x=some .cell/\X.fn x=true
noncomputable def ztT(cl:Cf)(und:Str->Str->Bool)(isx:Str->Str->Option Bool)(P:Program)(wo:PySem.World)(K:PySem.W.Frag)(mg:Z6)(base:Heap)(k:Nat)(cod:Option (Addr×Str))(e:Expr)(N:List Str)(fb:Fe):Prop :=
 ∀(X:Cx) (E:St->XK) (caps:List Nat) (p pos:Pos),X.prog=P->X.w=wo->X.K=K->X.mg=mg->X.base=base->Room k X.A->X.calm=true->Gl X "_law_told" -> (∀c,cod=some c->X.env.code=.ref c.1/\X.env.qual=c.2)->CapsOk X N caps →
  PE X (.Call (.Name "_law_told" p) [e] [] pos) (tE cl E (ztE und isx caps fb))
structure FnI where
 ar:Nat
 own:Bool
 run:List D->Sto->Out D
structure ObE where
 cur:Str
 fk:Str->Str->Bool
 df:Str->Bool
 mt:Str->Option (Str×FnI)
 mks:Str->Option (List D×FnI)
structure Genv where
 con:Str->Option D
 fn:Str->Option FnI
 blt:Str->Bool
 exc:Str->Bool
 und:Str->Str->Bool
 isx:Str->Str->Option Bool
 ob:ObE
 ds:Str->Bool
 lam:Expr->Option (List Str×Fe)
 cod:Option (Addr×Str)
abbrev bmV:List Value:=[.type "ValueError",.type "Exception",.type "BaseException",.type "object"]
structure GOk(cl:Cf)(G:Genv)(P:Program)(wo:PySem.World)(K:PySem.W.Frag)(mg:Z6)(base:Heap)(k:Nat):Prop where
 con:∀x d,G.con x=some d->∃v u,mg x=some u/\zaI v u/\∀w,Shd cl w v d
 fn:∀x fi,G.fn x=some fi->∃f fd ps,mg x=some (.ref f)/\PySem.W.keepIn K (.ref f)=true/\zdz K fd ps []/\FnOk P wo K mg base (CXE P wo) k f fd ps (zkR cl fi.ar fi.own fi.run)
 blt:∀x,G.blt x=true->mg x=none
 exc:∀c,G.exc c=true->mg c=some (.ref (cl c))/\PySem.W.excIn K (cl c) bmV "ValueError.__new__" = true
 und:∀c C,G.und c C=true->L2.zl7 K (cl c) (cl C)
 isx:∀c C b,G.isx c C=some b->PySem.W.ExcCls K (cl c)/\PySem.W.kitOne K (.ref (cl c)) (zrv cl C)=some b
 fk:∀c f,G.ob.fk c f=true->zvm cl c f
 mt:∀m c fi,G.ob.mt m=some (c,fi)->∃f fd ps,Cls K (cl c)/\Meth K (cl c) m f/\zdz K fd ps []/\FnOk P wo K mg base (CXE P wo) k f fd ps (zkR cl fi.ar fi.own fi.run)
 mks:∀c dds fi,G.ob.mks c=some (dds,fi)->∃f fd ps dvs ds k',k'+1<=k/\mg c=some (.ref (cl c))/\Mk K (cl c) f/\zdz K fd ps []/\zdz K fd ps ds/\Vals dvs ds/\(∀w,Shds cl w dvs dds)/\FnOk P wo K mg base (CXE P wo) k' f fd ps (zkR cl fi.ar false fi.run)
 tl:∀e N fb,G.lam e=some (N,fb)->ztT cl G.und G.isx P wo K mg base k G.cod e N fb
noncomputable abbrev Names:=List (Str×NameKind)
structure Gx(cl:Cf)(G:Genv)(k:Nat)(X:Cx)(nm:Names)(N:List Str)(E:St->XK):Prop where
 gok:GOk cl G X.prog X.w X.K X.mg X.base k
 room:Room k X.A
 calm:X.calm=true
 pass:zfk (CXE X.prog X.w) X E
 eN:X.N=N
 kk:X.K=cl.K
 pp:X.prog=cl.P
 ww:X.w=cl.wo
 nd:N.Nodup
 vis:∀x kd,nm.lookup x=some kd->∃kd',X.env.scope.names.lookup x=some kd'/\(kd'=kd\/(kd=.free/\kd'=.cell))
 fnx:∀x,nm.lookup x=some .local->X.env.scope.names.lookup x=some .local
 cod:∀c,G.cod=some c->X.env.code=.ref c.1/\X.env.qual=c.2
 fnc:∀x,nm.lookup x=some .cell->X.fn x=true
noncomputable def idx:List Str->Str->Option Nat
 | [],_=>none
 | y::l,x=>if y=x then some 0 else (idx l x).map (·+1)
theorem zd2:∀{N:List Str} {x:Str} {i:Nat},idx N x=some i->N[i]?=some x
 | y::l,x,i,h=>by
  unfold idx at h;split at h
  ·rename_i e;cases h;rw [e];rfl
  ·cases hr:idx l x with
   | none=>rw [hr] at h;cases h
   | some j=>rw [hr] at h;cases h;simpa using zd2 hr
noncomputable def zfK(x:Str):Bool:=!(x == ("__debug__":Str))&&!(x == ("__classdict__":Str))&&!decide (x = "__name__")
def zdT(h:zfK x=true):(x == ("__debug__":Str))=false/\(x == ("__classdict__":Str))=false/\x ≠ "__name__":=by
 unfold zfK at h;simp only [yab,ya8,ycc] at h;exact ⟨h.1.1,h.1.2,h.2⟩
noncomputable def zts:Option NameKind->Bool | some .local=>true | some .cell=>true | some .free=>true | _=>false
def zcA(nm:Names)(N:List Str)(x:Str):Option Nat:=if zts (nm.lookup x)&&zfK x then idx N x else none
noncomputable def zbR(nm:Names)(x:Str):Bool:=decide (nm.lookup x=some .globalImplicit)&&zfK x
section
variable{cl:Cf}{G:Genv}{k:Nat}{X:Cx}{nm:Names}{N:List Str}{E:St->XK}
def Gx.slot(g:Gx cl G k X nm N E)(h:zcA nm N x=some i):X.N[i]?=some x/\Vis X.env.scope x/\(x == ("__debug__":Str))=false/\(x == ("__classdict__":Str))=false:=by
 unfold zcA at h;split at h
 ·rename_i hv;rw [yab] at hv;obtain ⟨h1,h2,_⟩:=zdT hv.2;refine ⟨by rw [g.eN];exact zd2 h,?_,h1,h2⟩
  cases hk:nm.lookup x with
  | none=>rw [hk] at hv;exact absurd hv.1 (by decide)
  | some kd =>
   obtain ⟨kd',e,z⟩:=g.vis x kd hk;rw [hk] at hv;unfold Vis;rw [e]
   rcases z with rfl | ⟨_,rfl⟩
   ·cases kd'<;>first | exact .inl rfl | exact .inr (.inl rfl) | exact .inr (.inr rfl) | exact absurd hv.1 (by decide)
   ·exact .inr (.inl rfl)
 ·cases h
def Gx.glob(g:Gx cl G k X nm N E)(h:zbR nm x=true):Gl X x/\(x == ("__debug__":Str))=false/\x ≠ "__name__":=by
 unfold zbR at h;rw [yab] at h;obtain ⟨h1,_,h3⟩:=zdT h.2;obtain ⟨kd',e,z⟩:=g.vis x _ (yaE h.1)
 rcases z with rfl | ⟨z,_⟩
 ·exact ⟨e,h1,h3⟩
 ·cases z
end
noncomputable abbrev Rec:=Names->List Str->Expr->Option (Bool×Fe)
noncomputable def okE:Expr->Bool | .Starred _ _=>false | .Set _ _ _=>false | _=>true
def zac(h:okE e=true):za4 e=true:=by cases e<;>first | rfl | cases h
def zdU(h:okE e=true):behindInMarks op e=false:=by cases e<;>first | rfl | cases h
def zeS(h:okE e=true)(v:Value):foldedSetIterable e env v=pure v:=by cases e<;>first | rfl | cases h
noncomputable def zbq:Expr->Bool | .IfExp _ _ _ _=>false | _=>true
noncomputable def za8(cl:Cf)(G:Genv)(k:Nat)(rc:Rec):Prop:=∀(X:Cx) (nm:Names) (N:List Str) (E:St->XK),Gx cl G k X nm N E->∀(e:Expr) (o:Bool) (f:Fe),rc nm N e=some (o,f) →
 (o=true->PE X e (tN cl E f))/\PE X e (tE cl E f)/\(zbq e=true->PT X e (tTr cl E f))/\okE e=true
noncomputable def shE(rc:Rec)(nm:Names)(N:List Str)(e:Expr):Option Fe:=(rc nm N e).map (·.2)
def opE(rc:Rec)(nm:Names)(N:List Str)(e:Expr):Option Fe:=match e with
 | .Name x _=>(match zcA nm N x with | some i=>some (zad i) | none=>shE rc nm N e)
 | _=>shE rc nm N e
def shL(rc:Rec)(nm:Names)(N:List Str):List Expr->Option (List Fe)
 | []=>some []
 | e::es=>(shE rc nm N e).bind fun f=>(shL rc nm N es).bind fun fs=>some (f::fs)
def opL(rc:Rec)(nm:Names)(N:List Str):List Expr->Option (List Fe)
 | []=>some []
 | e::es=>(opE rc nm N e).bind fun f=>(opL rc nm N es).bind fun fs=>some (f::fs)
section
variable{cl:Cf}{G:Genv}{k:Nat}{rc:Rec}{X:Cx}{nm:Names}{N:List Str}{E:St->XK}
def za1(hs:za8 cl G k rc)(g:Gx cl G k X nm N E)(h:shE rc nm N e=some f):PE X e (tE cl E f)/\(zbq e=true->PT X e (tTr cl E f))/\okE e=true:=by
 unfold shE at h
 cases hr:rc nm N e with
 | none=>rw [hr] at h;cases h
 | some p =>
  obtain ⟨o,f'⟩:=p;rw [hr] at h;cases h;obtain ⟨_,h2,h3,h4⟩:=hs X nm N E g e o _ hr;exact ⟨h2,h3,h4⟩
def zbH(hs:za8 cl G k rc)(g:Gx cl G k X nm N E)(h:opE rc nm N e=some f):PE X e (tH cl E f)/\okE e=true:=by
 unfold opE at h;split at h
 ·rename_i x pos;split at h
  ·rename_i i hi;cases h;obtain ⟨h1,h2,h3,h4⟩:=g.slot hi;exact ⟨zpS h1 h2 h3 h4,rfl⟩
  ·obtain ⟨h1,_,h3⟩:=za1 hs g h;exact ⟨ziZ h1,h3⟩
 ·obtain ⟨h1,_,h3⟩:=za1 hs g h;exact ⟨ziZ h1,h3⟩
theorem zfx(hs:za8 cl G k rc)(g:Gx cl G k X nm N E):∀{es:List Expr} {fs:List Fe},shL rc nm N es=some fs->PA X es (tAs cl E fs)/\es.all za4=true/\fs.length=es.length
 | [],fs,h=>by cases h;exact ⟨zfy,rfl,rfl⟩
 | e::es,fs,h=>by
  unfold shL at h
  cases h1:shE rc nm N e with
  | none=>rw [h1] at h;cases h
  | some f =>
   rw [h1] at h
   cases h2:shL rc nm N es with
   | none=>rw [h2] at h;cases h
   | some fs' =>
    rw [h2] at h;cases h;obtain ⟨a1,_,a3⟩:=za1 hs g h1;obtain ⟨b1,b2,b3⟩:=zfx hs g h2;exact ⟨zc7 a1 b1 (za7 (zac a3)),by rw [ya5,zac a3,b2];rfl,by rw [yan,yan,b3]⟩
theorem zmu(hs:za8 cl G k rc)(g:Gx cl G k X nm N E):∀{es:List Expr} {fs:List Fe},opL rc nm N es=some fs->PA X es (tHs cl E fs)/\es.all za4=true/\fs.length=es.length
 | [],fs,h=>by cases h;exact ⟨zmi,rfl,rfl⟩
 | e::es,fs,h=>by
  unfold opL at h
  cases h1:opE rc nm N e with
  | none=>rw [h1] at h;cases h
  | some f =>
   rw [h1] at h
   cases h2:opL rc nm N es with
   | none=>rw [h2] at h;cases h
   | some fs' =>
    rw [h2] at h;cases h;obtain ⟨a1,a3⟩:=zbH hs g h1;obtain ⟨b1,b2,b3⟩:=zmu hs g h2;exact ⟨ziU a1 b1 (za7 (zac a3)),by rw [ya5,zac a3,b2];rfl,by rw [yan,yan,b3]⟩
end
noncomputable def zvh:Const->Option D
 | .int i=>some (.int i)
 | .bool b=>some (.bl b)
 | .none=>some .non
 | .str x=>some (.str x)
 | _=>none
def ztL:Operator->Option (D->D->Option D)
 | .Add=>some zbu | .Sub=>some zsH | .Mult=>some ziz | .Mod=>some zgH | .FloorDiv=>some zkC | .Pow=>some zqc | _=>none
noncomputable def zjM:Expr->Bool | .Constant .none _ _=>true | _=>false
noncomputable def zoq:Expr->Bool | .Constant (.bool _) _ _=>true | _=>false
def ltD:=zoZ fun i j=>decide (i<j)
def leD:=ztg
def gtD:=zoZ fun i j=>decide (j<i)
def geD:=zoZ fun i j=>decide (j<=i)
def zru:CmpOp->Expr->Option (D->D->Option D)
 | .Eq,_=>some eqD | .NotEq,_=>some neD | .Lt,_=>some ltD | .LtE,_=>some leD | .Gt,_=>some gtD | .GtE,_=>some geD | .In,_=>some inD | .NotIn,_=>some zn1
 | .Is,b=>if zjM b then some zfm else none
 | .IsNot,b=>if zjM b then some zn0 else if zoq b then some zid else none
def ziu(rc:Rec)(nm:Names)(N:List Str)(op:BoolOp):List Expr->Option Fe
 | []=>none
 | [a]=>if zbq a then shE rc nm N a else none
 | a::b::r=>if zbq a then (shE rc nm N a).bind fun f=>(ziu rc nm N op (b::r)).bind fun h=>some (match op with | .And=>zf3 f h | .Or=>eOr f h) else none
structure BI where
 g:List D->Option D
 nw:Bool
def zkt(x:Str):Option BI :=
 if x = "len" then some ⟨zem,false⟩
 else if x = "all" then some ⟨zl5,false⟩
 else if x = "tuple" then some ⟨zbJ,false⟩
 else if x = "str" then some ⟨zkA,false⟩
 else if x = "list" then some ⟨zn6,true⟩
 else if x = "max" then some ⟨ztf,false⟩
 else if x = "min" then some ⟨zte,false⟩
 else if x = "int" then some ⟨ztu,false⟩
 else if x = "dict" then some ⟨zoB,true⟩
 else if x = "sorted" then some ⟨zeJ,true⟩
 else none
noncomputable def zo8(x:Str):Option String:=if x = "int" then some "int" else if x = "bool" then some "bool" else if x = "tuple" then some "tuple" else if x = "str" then some "str" else if x = "list" then some "list" else none
noncomputable def ztI(G:Genv)(t:Str):Bool:=if t = "ValueError" then G.blt t else G.exc t
def zoK(G:Genv)(rc:Rec)(nm:Names)(N:List Str)(x:Str)(args:List Expr):Option (Bool×Fe) :=
 if zbR nm x then
  match G.fn x with
  | some fi=>if args.length=fi.ar then (shL rc nm N args).bind fun fs=>some (fi.own,eFn fi.run fs) else none
  | none=>if G.blt x then
    (if x = "isinstance" then (match args with
     | [a,.Name t _]=>if zbR nm t&&G.blt t&&(zo8 t).isSome then (zo8 t).bind fun T=>(opE rc nm N a).bind fun f=>some (false,eUn (zcW T) f)
      else if zbR nm t&&ztI G t then (opE rc nm N a).bind fun f=>some (false,eUn (ze6 G.isx t) f) else none
     | _=>none)
    else match args with
     | []=>none
     | _::_=>(zkt x).bind fun bi=>(opL rc nm N args).bind fun fs=>some (bi.nw,zaq bi.g fs)) else none
 else none
noncomputable def zra:Expr->Bool | .Tuple _ _ _=>true | _=>false
def zih(G:Genv)(rc:Rec)(nm:Names)(N:List Str)(tg e:Expr):Option Fi:=match e with
 | .Call (.Name x p) args [] pos=>if x = "range" then (if zbR nm x&&G.blt x then (match args with
   | [a]=>(shE rc nm N a).bind fun f=>some (zdh f)
   | _=>none) else none)
  else if x = "zip" then (if zbR nm x&&G.blt x&&zra tg then (match args with
   | [a,b]=>(shE rc nm N a).bind fun f=>(shE rc nm N b).bind fun h=>some (ztD f h)
   | _=>none) else none)
  else (shE rc nm N e).map zas
 | _=>(shE rc nm N e).map zas
noncomputable def zlX:Expr->Option (Expr×List Expr×List Keyword×Pos) | .Call f a k p=>some (f,a,k,p) | _=>none
def zfh(h:zlX e=some x):e=.Call x.1 x.2.1 x.2.2.1 x.2.2.2:=by cases e<;>first | (cases h;done) | (cases h;rfl)
noncomputable def nmF:Expr->Option (Str×Pos) | .Name x p=>some (x,p) | _=>none
def zcb(h:nmF e=some x):e=.Name x.1 x.2:=by cases e<;>first | (cases h;done) | (cases h;rfl)
noncomputable def zjk{α:Type}:List α->Option α | [a]=>some a | _=>none
def zcR{α:Type}{l:List α}{a:α}(h:zjk l=some a):l=[a]:=by
 cases l with
 | nil=>cases h
 | cons b t=>cases t with
  | nil=>cases h;rfl
  | cons _ _=>cases h
def zaj{α β:Type}{o:Option α}{f:α->Option β}{b:β}(h:o.bind f=some b):∃a,o=some a/\f a=some b:=Option.bind_eq_some_iff.mp h
def zuw(e:Expr):Option (Str×Expr×Pos×Pos):=(zlX e).bind fun c=>(nmF c.1).bind fun y=>(zjk c.2.1).bind fun a=>if c.2.2.1.isEmpty then some (y.1,a,y.2,c.2.2.2) else none
noncomputable def spA:List Expr->Option (Str×Expr×Pos×Pos) | [e]=>zuw e | _=>none
def zpC(h:spA args=some c):args=[.Call (.Name c.1 c.2.2.1) [c.2.1] [] c.2.2.2]:=by
 match args,h with
 | [e],h =>
  have h':zuw e=some c:=h;obtain ⟨q,h1,h'⟩:=zaj h';obtain ⟨y,h2,h'⟩:=zaj h';obtain ⟨a,h3,h'⟩:=zaj h';split at h'
  ·rename_i hk;cases h';rw [zfh h1,zcb h2,zcR h3,ybs.mp hk]
  ·cases h'
def spG(G:Genv)(rc:Rec)(nm:Names)(N:List Str)(x:Str)(args:List Expr):Option (Bool×Fe):=(spA args).bind fun c =>
 if decide (x = "len")&&decide (c.1 = "set")&&zbR nm "len" && G.blt "len" && zbR nm "set" && G.blt "set" then (shE rc nm N c.2.1).map fun f=>(false,eUn zcE f)
 else none
section
variable{cl:Cf}{G:Genv}{k:Nat}{rc:Rec}{X:Cx}{nm:Names}{N:List Str}{E:St->XK}
theorem Gx.units(g:Gx cl G k X nm N E):X.A.units+64<cLine:=g.room.units
def zmQ(h:ztL op=some gg):OpD X cl (binaryOp op) gg:=by
 cases op<;>simp [ztL] at h<;>subst h
 ·exact zqM
 ·exact zqE
 ·exact zqH
 ·exact zqI
 ·exact zqF
 ·exact zqL
def zev(g:Gx cl G k X nm N E)(h:zru op b=some gg):OpD X cl (compareOp op) gg:=by
 cases op<;>simp only [zru] at h
 ·cases h;exact ztc g.kk g.units
 ·cases h;exact zta g.kk g.units
 ·cases h;exact zeT zs6
 ·cases h;exact zqJ
 ·cases h;exact zeT zs8
 ·cases h;exact zeT zs9
 ·split at h
  ·cases h;exact zqK
  ·cases h
 ·split at h
  ·cases h;exact znY
  ·split at h
   ·cases h;exact znZ
   ·cases h
 ·cases h;exact ztb g.kk g.units
 ·cases h;exact zqG g.kk g.units
theorem zks(hs:za8 cl G k rc)(g:Gx cl G k X nm N E):∀{es:List Expr} {f:Fe},ziu rc nm N op es=some f->PE X (.BoolOp op es pos) (tE cl E f)/\PW X (.BoolOp op es pos) (tTr cl E f)
 | [],f,h=>by cases h
 | [a],f,h=>by
  unfold ziu at h;split at h
  ·rename_i ht;obtain ⟨h1,h2,_⟩:=za1 hs g h;refine ⟨zql h1,?_⟩
   cases op with
   | And=>exact znz (h2 ht)
   | Or=>exact zp4 (h2 ht)
  ·cases h
 | a::b::r,f,h=>by
  unfold ziu at h;split at h
  ·rename_i ht
   cases h1:shE rc nm N a with
   | none=>rw [h1] at h;cases h
   | some fa =>
    rw [h1] at h
    cases h2:ziu rc nm N op (b::r) with
    | none=>rw [h2] at h;cases h
    | some fb =>
     rw [h2] at h;obtain ⟨a1,a2,_⟩:=za1 hs g h1;obtain ⟨b1,b2⟩:=zks hs g (pos:=pos) h2
     cases op with
     | And=>cases h;exact ⟨zpT a1 b1,zpr (a2 ht) b2⟩
     | Or=>cases h;exact ⟨zsO a1 b1,zsG (a2 ht) b2⟩
  ·cases h
theorem zl2:bootBuiltins "all" = some (.builtin "all"):=by decide +kernel
theorem zey:bootBuiltins "tuple" = some (.type "tuple"):=by decide +kernel
theorem zga:bootBuiltins "list" = some (.type "list"):=by decide +kernel
theorem zhU:bootBuiltins "int" = some (.type "int"):=by decide +kernel
theorem zkr:bootBuiltins "bool" = some (.type "bool"):=by decide +kernel
theorem zl1:bootBuiltins "max" = some (.builtin "max"):=by decide +kernel
theorem zl0:bootBuiltins "min" = some (.builtin "min"):=by decide +kernel
theorem zhT:bootBuiltins "str" = some (.type "str"):=by decide +kernel
theorem zrF(g:Gx cl G k X nm N E)(h:zkt x=some bi)(hg:zbR nm x=true)(hb:G.blt x=true)(ha:PA X (e::es) (tHs cl E fs))(hp:(e::es).all za4=true) :
  (bi.nw=true->PE X (.Call (.Name x p) (e::es) [] pos) (tN cl E (zaq bi.g fs)))/\PE X (.Call (.Name x p) (e::es) [] pos) (tE cl E (zaq bi.g fs)):=by
 obtain ⟨g1,g2,g3⟩:=g.glob hg;have m:=g.gok.blt x hb;rw [ya5,yab] at hp;have st:=za7 (es:=es) (env:=X.env) hp.1;have pl:=zci (pos:=pos) (env:=X.env) hp.2
 have D1:∀{id:String} {gg:List D->Option D},zfl X cl (.builtin id) gg->bootBuiltins x=some (.builtin id)->PE X (.Call (.Name x p) (e::es) [] pos) (tE cl E (zaq gg fs)):=fun hc hv =>
  PE.imp (zcQ hc g1 m hv ha g3 g2 st pl) fun _ _ _ q=>zpn (fun _ _ _ z=>z) q
 have D2:∀{T:String} {gg:List D->Option D},zfl X cl (.type T) gg->bootBuiltins x=some (.type T)->PE X (.Call (.Name x p) (e::es) [] pos) (tE cl E (zaq gg fs)):=fun hc hv =>
  PE.imp (zdS hc g1 m hv ha g3 g2 st pl) fun _ _ _ q=>zpn (fun _ _ _ z=>z) q
 have N2:∀{T:String} {gg:List D->Option D},zmd X cl (.type T) gg->bootBuiltins x=some (.type T)->PE X (.Call (.Name x p) (e::es) [] pos) (tN cl E (zaq gg fs)):=fun hc hv =>
  PE.imp (zdS hc g1 m hv ha g3 g2 st pl) fun _ _ _ q=>zpm (fun _ _ _ z=>z) q
 unfold zkt at h;split at h
 ·rename_i e';cases h;exact ⟨(fun z=>absurd z (by decide)),D1 (zrz g.kk) (by rw [e'];exact PySem.boot_len)⟩
 split at h
 ·rename_i e';cases h;exact ⟨(fun z=>absurd z (by decide)),D1 (zrB g.calm) (by rw [e'];exact zl2)⟩
 split at h
 ·rename_i e';cases h;exact ⟨(fun z=>absurd z (by decide)),D2 zlW (by rw [e'];exact zey)⟩
 split at h
 ·rename_i e';cases h;exact ⟨(fun z=>absurd z (by decide)),D2 zrw (by rw [e'];exact zhT)⟩
 split at h
 ·rename_i e';cases h;have n:=N2 zoF (by rw [e'];exact zga);exact ⟨fun _=>n,zbK n⟩
 split at h
 ·rename_i e';cases h;exact ⟨(fun z=>absurd z (by decide)),D1 (zry g.calm) (by rw [e'];exact zl1)⟩
 split at h
 ·rename_i e';cases h;exact ⟨(fun z=>absurd z (by decide)),D1 (zrx g.calm) (by rw [e'];exact zl0)⟩
 split at h
 ·rename_i e';cases h;exact ⟨(fun z=>absurd z (by decide)),D2 zrA (by rw [e'];exact zhU)⟩
 split at h
 ·rename_i e';cases h;have n:=N2 (zoG g.calm) (by rw [e'];decide +kernel);exact ⟨fun _=>n,zbK n⟩
 split at h
 ·rename_i e';cases h;have n:PE X (.Call (.Name x p) (e::es) [] pos) (tN cl E (zaq zeJ fs)):=PE.imp (zcQ (zkl g.calm) g1 m (by rw [e'];decide +kernel) ha g3 g2 st pl) fun _ _ _ q=>zpm (fun _ _ _ z=>z) q
  exact ⟨fun _=>n,zbK n⟩
 ·cases h
def zsq(h:zo8 t=some T):bootBuiltins t=some (.type T):=by
 unfold zo8 at h;split at h
 ·rename_i e;cases h;rw [e];exact zhU
 split at h
 ·rename_i e;cases h;rw [e];exact zkr
 split at h
 ·rename_i e;cases h;rw [e];exact zey
 split at h
 ·rename_i e;cases h;rw [e];exact zhT
 split at h
 ·rename_i e;cases h;rw [e];exact zga
 ·cases h
def zoJ(hs:za8 cl G k rc)(g:Gx cl G k X nm N E)(h:zoK G rc nm N x args=some (o,f)) :
  (o=true->PE X (.Call (.Name x p) args [] pos) (tN cl E f))/\PE X (.Call (.Name x p) args [] pos) (tE cl E f):=by
 unfold zoK at h;split at h
 ·rename_i hg;obtain ⟨g1,g2,g3⟩:=g.glob hg;split at h
  ·rename_i fi hfi;split at h
   ·rename_i hl;obtain ⟨fa,fd,ps,m1,m2,m3,m4⟩:=g.gok.fn x fi hfi
    cases h1:shL rc nm N args with
    | none=>rw [h1] at h;cases h
    | some fs =>
     rw [h1] at h;cases h;obtain ⟨a1,a2,a3⟩:=zfx hs g h1;have hlen:fs.length=fi.ar:=a3.trans hl
     have main:PE X (.Call (.Name x p) args [] pos) (zfq (zkR cl fi.ar fi.own fi.run) [] E (tAs cl E fs)):=by
      cases args with
      | nil =>
       cases h1;refine PE.imp (zjg m4 g.room g1 m1 m2 m3 .nil g.pass g2) ?_;rintro σ H Q ⟨B,w,ρ,S,rfl,R,q⟩;exact q [] w R (Fut.refl _) .nil
      | cons e es =>
       rw [ya5,yab] at a2;exact zll m4 g.room g1 m1 m2 m3 .nil g.pass a1 g2 (za7 a2.1) (zci a2.2)
     cases ho:fi.own with
     | false =>
      rw [ho] at main;exact ⟨(fun z=>by cases z),PE.imp main fun _ _ _ q=>zrE q hlen⟩
     | true =>
      rw [ho] at main;have n:PE X (.Call (.Name x p) args [] pos) (tN cl E (eFn fi.run fs)):=PE.imp main fun _ _ _ q=>zrD q hlen
      exact ⟨fun _=>n,zbK n⟩
   ·cases h
  ·split at h
   ·rename_i hb;split at h
    ·rename_i hx;subst hx;split at h
     ·rename_i a t p2;split at h
      ·rename_i ht;rw [yab,yab] at ht;replace ht:=ht.1
       cases hT:zo8 t with
       | none=>rw [hT] at h;cases h
       | some T =>
        rw [hT] at h
        cases h1:opE rc nm N a with
        | none=>rw [h1] at h;cases h
        | some fa =>
         rw [h1] at h;cases h;obtain ⟨t1,t2,t3⟩:=g.glob ht.1;obtain ⟨a1,a2⟩:=zbH hs g h1;exact ⟨(fun z=>by cases z),znr g1 (g.gok.blt _ hb) t1 (g.gok.blt _ ht.2) (zsq hT) t3 t2 (zac a2) a1⟩
      ·split at h
       ·rename_i ht;rw [yab] at ht
        cases h1:opE rc nm N a with
        | none=>rw [h1] at h;cases h
        | some fa =>
         rw [h1] at h;cases h;obtain ⟨t1,t2,t3⟩:=g.glob ht.1;obtain ⟨a1,a2⟩:=zbH hs g h1;refine ⟨(fun z=>by cases z),?_⟩
         by_cases hv:t = "ValueError"
         ·subst hv
          have ht2:G.blt "ValueError" = true:=by simpa [ztI] using ht.2
          exact zml (vC:=.ty "ValueError") g1 (g.gok.blt _ hb) (zjh t1 (g.gok.blt _ ht2) zit rfl t3 t2) (fun u r=>by rw [show u=Value.type "ValueError" from r];rfl) (fun c b hc=>g.gok.isx c _ b hc) (zac a2) a1
         ·have ht2:G.exc t=true:=by simpa [ztI,hv] using ht.2
          exact zml (vC:=.ref (cl t)) g1 (g.gok.blt _ hb) (zgE t1 (g.gok.exc t ht2).1 rfl t2) (fun u r=>by rw [show u=Value.ref (cl t) from r];unfold zrv;rw [if_neg hv]) (fun c b hc=>g.gok.isx c _ b hc) (zac a2) a1
       ·cases h
     ·cases h
    ·split at h
     ·cases h
     ·rename_i e es
      cases h2:zkt x with
      | none=>rw [h2] at h;cases h
      | some bi =>
       rw [h2] at h
       cases h1:opL rc nm N (e::es) with
       | none=>rw [h1] at h;cases h
       | some fs =>
        rw [h1] at h;cases h;obtain ⟨a1,a2,_⟩:=zmu hs g h1;exact zrF g h2 hg hb a1 a2
   ·cases h
 ·cases h
def zjK(hs:za8 cl G k rc)(g:Gx cl G k X nm N E)(h:zih G rc nm N tg e=some fi):PI X tg e (tI cl E fi)/\okE e=true:=by
 have gen:∀{e:Expr},(shE rc nm N e).map zas=some fi->PI X tg e (tI cl E fi)/\okE e=true:=fun {e} h=>by
  cases h1:shE rc nm N e with
  | none=>rw [h1] at h;cases h
  | some f =>
   rw [h1] at h;cases h;obtain ⟨a1,_,a3⟩:=za1 hs g h1;exact ⟨zpI g.kk a1,a3⟩
 unfold zih at h;split at h
 ·rename_i x p args pos;split at h
  ·rename_i hx;subst hx;split at h
   ·rename_i hb;rw [yab] at hb;obtain ⟨g1,_,_⟩:=g.glob hb.1;have m:=g.gok.blt _ hb.2;split at h
    ·rename_i a
     cases h1:shE rc nm N a with
     | none=>rw [h1] at h;cases h
     | some f =>
      rw [h1] at h;cases h;obtain ⟨a1,_,a3⟩:=za1 hs g h1;exact ⟨znn g1 m (zc7 a1 zfy (za7 (zac a3))) (za7 (zac a3)),rfl⟩
    ·cases h
   ·cases h
  split at h
  ·rename_i hx;subst hx;split at h
   ·rename_i hb;rw [yab,yab] at hb;obtain ⟨g1,_,_⟩:=g.glob hb.1.1;have m:=g.gok.blt _ hb.1.2;split at h
    ·rename_i a b
     cases h1:shE rc nm N a with
     | none=>rw [h1] at h;cases h
     | some f =>
      rw [h1] at h
      cases h2:shE rc nm N b with
      | none=>rw [h2] at h;cases h
      | some f2 =>
       rw [h2] at h;cases h;obtain ⟨a1,_,a3⟩:=za1 hs g h1;obtain ⟨b1,_,b3⟩:=za1 hs g h2;have s1:=za7 (es:=[b]) (env:=X.env) (zac a3);have s2:=za7 (es:=[]) (env:=X.env) (zac b3)
       cases tg with
       | Tuple es kk tp=>exact ⟨zpE g1 m (zc7 a1 (zc7 b1 zfy s2) s1) s1 (zci (by simp [zac b3])),rfl⟩
       | _=>cases hb.2
    ·cases h
   ·cases h
  ·exact gen h
 ·exact gen h
def zsM(hs:za8 cl G k rc)(g:Gx cl G k X nm N E)(h:spG G rc nm N x args=some (o,f)):(o=true->PE X (.Call (.Name x p) args [] pos) (tN cl E f))/\PE X (.Call (.Name x p) args [] pos) (tE cl E f):=by
 unfold spG at h
 cases hc:spA args with
 | none=>rw [hc] at h;cases h
 | some c =>
 rw [hc] at h;obtain rfl:=zpC hc;obtain ⟨y,a,p2,pos2⟩:=c;dsimp only [Option.bind] at h ⊢;clear hc;split at h
 ·rename_i hb;simp only [yab,yaA] at hb;obtain ⟨⟨⟨⟨⟨rfl,rfl⟩,b1⟩,b2⟩,b3⟩,b4⟩:=hb;obtain ⟨g1,_,_⟩:=g.glob b1;obtain ⟨g2,_,_⟩:=g.glob b3
  cases h1:shE rc nm N a with
  | none=>rw [h1] at h;cases h
  | some fa =>
   rw [h1] at h;cases h;obtain ⟨a1,_,a3⟩:=za1 hs g h1;exact ⟨(fun z=>by cases z),ziY g.calm (yb7 (ycA (by decide) _) g.units) g1 (g.gok.blt _ b2) g2 (g.gok.blt _ b4) a1 (za7 (zac a3))⟩
 ·cases h
noncomputable def zvi:Expr->Option (Expr×Str×Pos) | .Attribute o m p=>some (o,m,p) | _=>none
def zoL(h:zvi e=some x):e=.Attribute x.1 x.2.1 x.2.2:=by cases e<;>first | (cases h;done) | (cases h;rfl)
end
noncomputable abbrev Fq:=Env->Sto->Option D
section
variable{X:Cx}{cl:Cf}{E:St->XK}{own:Bool}{e o:Expr}{g gk ge:Fq}{pos apos ap cp p p2 p3:Pos}{f cn:Str}{i:Nat}{x:Str}{σ:St}{H:Hp}{Q:VK}
variable(hN:X.N[i]?=some x)(hv:Vis X.env.scope x)(hd:(x == ("__debug__":Str))=false)(hcd:(x == ("__classdict__":Str))=false)(sm:Same' cl X)(hk:zvm cl cn f)(hb:attributeBase (.Name x p) f X.env (eval (.Name x p) X.env)=eval (.Name x p) X.env)
include hN hv hd hcd sm hk hb
omit hb
include hb
end
noncomputable def inB:List CmpOp->List Expr->Option (Bool×Expr) | [.In],[b]=>some (true,b) | [.NotIn],[b]=>some (false,b) | _,_=>none
section
variable{cl:Cf}{G:Genv}{k:Nat}{X:Cx}{nm:Names}{N:List Str}{E:St->XK}
def Gx.u1(g:Gx cl G k X nm N E):X.A.units+1<cLine:=yb7 (ycA (by decide) _) g.units
end
end S2
namespace L2
open PySem PySem.Spec PyProof.Rows
end L2
namespace S2
open PySem PySem.Spec PyProof.Rows L2
noncomputable def zqO:Expr->Option Str | .Name x _=>some x | _=>none
noncomputable def ztt(df:Bool):Option NameKind->Bool | some .local=>true | some .cell=>df | _=>false
def tgI(df:Bool)(nm:Names)(N:List Str)(n:Nat)(x:Str):Option Nat:=if ztt df (nm.lookup x) then (idx N x).bind fun i=>if i<n then some i else none else none
def zoV(df:Bool)(nm:Names)(N:List Str)(n:Nat):List Expr->Option (List Nat)
 | []=>some []
 | .Name x _::es=>(tgI df nm N n x).bind fun i=>(zoV df nm N n es).bind fun is=>some (i::is)
 | _::_=>none
def tgG(df:Bool)(nm:Names)(N:List Str)(n:Nat):Expr->Option Tg
 | .Name x _=>(tgI df nm N n x).map .one
 | .Tuple es _ _=>(zoV df nm N n es).map .tup
 | _=>none
structure Sto'(X:Cx)(nm:Names)(df:Bool):Prop where
 fn:df=true->∀x,nm.lookup x=some .cell->X.fn x=true
section
variable{cl:Cf}{G:Genv}{k:Nat}{X:Cx}{nm:Names}{N:List Str}{E:St->XK}{df:Bool}{n:Nat}
def zdG(g:Gx cl G k X nm N E)(sd:Sto' X nm df)(h:tgI df nm N n x=some i):i<n/\X.N.Nodup/\X.N[i]?=some x/\Loc X.env.scope x/\(X.fn x=true\/X.env.scope.names.lookup x=some .local):=by
 unfold tgI at h;split at h
 ·rename_i hl
  cases hi:idx N x with
  | none=>rw [hi] at h;cases h
  | some j =>
   rw [hi] at h;dsimp only [Option.bind] at h;split at h
   ·rename_i hn;cases h;refine ⟨hn,by rw [g.eN];exact g.nd,by rw [g.eN];exact zd2 hi,?_,?_⟩
    ·cases hk:nm.lookup x with
     | none=>rw [hk] at hl;cases hl
     | some kd =>
      obtain ⟨kd',e,z⟩:=g.vis x kd hk;rw [hk] at hl;unfold L2.Loc;rw [e]
      rcases z with rfl | ⟨rfl,_⟩
      ·cases kd'<;>first | exact .inl rfl | exact .inr rfl | cases hl
      ·cases hl
    ·cases hk:nm.lookup x with
     | none=>rw [hk] at hl;cases hl
     | some kd =>
      rw [hk] at hl
      cases kd<;>first | exact .inr (g.fnx x hk) | exact .inl (sd.fn hl x hk) | cases hl
   ·cases h
 ·cases h
theorem ziE(g:Gx cl G k X nm N E)(sd:Sto' X nm df):∀{es:List Expr} {is:List Nat},zoV df nm N n es=some is->PGs X es (tGs cl n is)/\(assignEach es X.env).length=is.length/\(assignEach es X.env).findIdx? (·.1)=none
 | [],is,h=>by cases h;exact ⟨zno,rfl,rfl⟩
 | e::es,is,h=>by
  cases e with
  | Name x pos =>
   unfold zoV at h
   cases h1:tgI df nm N n x with
   | none=>rw [h1] at h;cases h
   | some i =>
    rw [h1] at h
    cases h2:zoV df nm N n es with
    | none=>rw [h2] at h;cases h
    | some is' =>
     rw [h2] at h;cases h;obtain ⟨a1,a2,a3,a4,a5⟩:=zdG g sd h1;obtain ⟨b1,b2,b3⟩:=ziE g sd h2;refine ⟨zkT a1 a2 a3 a4 a5 b1,?_,?_⟩
     ·show (assignEach es X.env).length+1=_;rw [b2];rfl
     ·show ((false,assign (.Name x pos) X.env)::assignEach es X.env).findIdx? (·.1)=none;rw [List.findIdx?_cons];simp [b3]
  | _=>cases h
def zm3(g:Gx cl G k X nm N E)(sd:Sto' X nm df)(h:tgG df nm N n tg=some t):PG X tg (tG cl n t):=by
 unfold tgG at h;split at h
 ·rename_i x pos
  cases h1:tgI df nm N n x with
  | none=>rw [h1] at h;cases h
  | some i =>
   rw [h1] at h;cases h;obtain ⟨a1,a2,a3,a4,a5⟩:=zdG g sd h1;exact zpK a1 a2 a3 a4 a5
 ·rename_i es kk pos
  cases h1:zoV df nm N n es with
  | none=>rw [h1] at h;cases h
  | some is =>
   rw [h1] at h;cases h;obtain ⟨b1,b2,b3⟩:=ziE g sd h1;exact zpJ g.calm b1 b2 b3
 ·cases h
end
def zaS:Expr->List Str
 | .Name x _=>[x]
 | .Tuple es _ _=>es.filterMap zqO
 | _=>[]
def zaR(names:Names)(N:List Str):List (Str×Nat):=names.filterMap fun p=>if p.2=.free then (idx N p.1).map fun i=>(p.1,i) else none
noncomputable def zwF:Option NameKind->Bool | some .cell=>true | some .free=>true | _=>false
def zkh(nm:Names)(scope:Scope)(xs:List Str)(caps:List (Str×Nat)):Bool :=
 decide (scope.kind=.function)&&decide ((scope.names.map (·.1)).Nodup)&&scope.names.all (fun y=>!decide (y.2=.local)||decide (scope.names.lookup y.1=some .local))
 && scope.names.all (fun y=>!decide (y.2=.free)||zwF (nm.lookup y.1))&&caps.all (fun p=>scope.names.all fun z=>!decide (z.1=p.1)||decide (z.2=.free))&&decide ((xs++caps.map (·.1)).Nodup)
def zlT(rc:Rec)(nm:Names)(N:List Str):List Expr->Option Fe
 | []=>some zcz
 | [c]=>if zbq c then shE rc nm N c else none
 | _=>none
def zin(G:Genv)(rc:Rec)(nm:Names)(N:List Str)(elt:Expr)(g:Comprehension)(scope:Scope):Option Fe :=
 if decide (g.is_async=0)&&zkh nm scope (zaS g.target) (zaR scope.names N) then
  (zih G rc nm N g.target g.iter).bind fun it =>
  (tgG true scope.names (zaS g.target++(zaR scope.names N).map (·.1)) (zaS g.target).length g.target).bind fun t =>
  (zlT rc scope.names (zaS g.target++(zaR scope.names N).map (·.1)) g.ifs).bind fun c =>
  (shE rc scope.names (zaS g.target++(zaR scope.names N).map (·.1)) elt).bind fun el =>
  some (zbI (zaS g.target).length t it c el ((zaR scope.names N).map (·.2)))
 else none
theorem zcC{scope:Scope}{env:PySem.Env}:∀{names:Names} {x:Str} {kd:NameKind},names.lookup x=some kd →
  ∃kd',(names.map fun (n,k)=>if (k == NameKind.free&&env.scope.kind == .function&&env.kindOf n == some .cell) then (n,NameKind.cell) else (n,k)).lookup x=some kd'/\(kd'=kd\/(kd=.free/\kd'=.cell))
 | [],_,_,h=>by cases h
 | (n,k0)::r,x,kd,h=>by
  rw [yaF] at h;rw [yas];dsimp only
  by_cases hc:(k0 == NameKind.free&&env.scope.kind == .function&&env.kindOf n == some .cell)=true
  ·rw [if_pos hc,yaF]
   cases hx:x == n with
   | true =>
    rw [hx] at h;cases h;simp only [yab,ycK] at hc;exact ⟨_,rfl,.inr ⟨hc.1.1,rfl⟩⟩
   | false=>rw [hx] at h;exact zcC (scope:=scope) h
  ·rw [if_neg hc,yaF]
   cases hx:x == n with
   | true=>rw [hx] at h;cases h;exact ⟨_,rfl,.inl rfl⟩
   | false=>rw [hx] at h;exact zcC (scope:=scope) h
section
variable{cl:Cf}{G:Genv}{k:Nat}{rc:Rec}{X:Cx}{nm:Names}{N:List Str}{E:St->XK}
def zim(g:Gx cl G k X nm N E)(h:zkh nm scope xs (zaR scope.names N)=true):CompScopeG X.env.scope scope X.N xs (zaR scope.names N)/\(xs++(zaR scope.names N).map (·.1)).Nodup:=by
 unfold zkh at h;simp only [yab,yaS,yaA,ycx,ya8,ycc] at h;obtain ⟨⟨⟨⟨⟨h1,h2⟩,h3⟩,h4⟩,h5⟩,h6⟩:=h
 have fr:∀y∈scope.names,y.2=.free->X.env.scope.names.lookup y.1=some .cell\/X.env.scope.names.lookup y.1=some .free:=fun y hy hf=>by
  rcases h4 y hy with z | z
  ·exact absurd hf z
  ·cases hk:nm.lookup y.1 with
   | none=>rw [hk] at z;cases z
   | some kd =>
    obtain ⟨kd',e,zz⟩:=g.vis y.1 kd hk;rw [hk] at z;rw [e]
    rcases zz with rfl | ⟨_,rfl⟩
    ·cases kd'<;>first | exact .inl rfl | exact .inr rfl | cases z
    ·exact .inl rfl
 refine ⟨⟨h2,h1,fun y hy hl=>(h3 y hy).elim (fun z=>absurd hl z) fun z=>z,fr,fun p hp=>?_,fun p hp z hz e=>(h5 p hp z hz).elim (fun w=>absurd e w) fun w=>w⟩,h6⟩;unfold zaR at hp;obtain ⟨q,hq,e⟩:=ybt.mp hp;split at e
 ·rename_i hf
  cases hi:idx N q.1 with
  | none=>rw [hi] at e;cases e
  | some i =>
   rw [hi] at e;have e':(q.1,i)=p:=Option.some.inj e;subst e';refine ⟨by rw [g.eN];exact zd2 hi,by rw [<-hf];exact hq,?_⟩
   rcases fr q hq hf with z | z<;>rw [z]<;>exact fun w=>by cases w
 ·cases e
def ze9(g:Gx cl G k X nm N E)(hn:(xs++(zaR scope.names N).map (·.1)).Nodup)(cl':List (Str×Addr))(C:Addr)(s:Shared)(H:Hp)(fp:List Addr) :
  Gx cl G k (zaT X xs (zaR scope.names N) scope cl' C s H fp) scope.names (xs++(zaR scope.names N).map (·.1)) noE where
 gok:=g.gok
 room:=g.room
 calm:=g.calm
 pass:=fun pins σ H s e s' I q=>by
  obtain ⟨a,cls,a0,H',B,_,_,_,_,_,_,_,_,_,z⟩:=q;exact z.elim
 eN:=rfl
 kk:=g.kk
 pp:=g.pp
 ww:=g.ww
 nd:=hn
 vis:=fun x kd h=>zcC (scope:=scope) h
 fnx:=fun x h=>lookup_relabel_local h
 cod:=fun c h=>g.cod c h
 fnc:=fun x h=>yaJ h
def zoE(hs:za8 cl G k rc)(g:Gx cl G k X nm N noE)(h:zlT rc nm N ifs=some c):PIf X ifs (tTr cl noE c):=by
 unfold zlT at h;split at h
 ·cases h;intro pins s σ H Q I q;obtain ⟨B,w,ρ,S,rfl,R,q⟩:=q;exact znM pins s σ w.H Q I (q w R (Fut.refl _))
 ·split at h
  ·rename_i c ht;obtain ⟨_,a2,_⟩:=za1 hs g h;exact znL (a2 ht)
  ·cases h
 ·cases h
def zet(hs:za8 cl G k rc)(g:Gx cl G k X nm N E)(h:zin G rc nm N elt gg scope=some f) :
  ∃it t c el,f=zbI (zaS gg.target).length t it c el ((zaR scope.names N).map (·.2))/\gg=⟨gg.target,gg.iter,gg.ifs,0⟩/\CompScopeG X.env.scope scope X.N (zaS gg.target) (zaR scope.names N)/\PI X gg.target gg.iter (tI cl E it)/\okE gg.iter=true ∧
   (∀cl' C s H fp,PG (zaT X (zaS gg.target) (zaR scope.names N) scope cl' C s H fp) gg.target (tG cl (zaS gg.target).length t)) ∧
   (∀cl' C s H fp,PIf (zaT X (zaS gg.target) (zaR scope.names N) scope cl' C s H fp) gg.ifs (tTr cl noE c)) ∧
   ∀cl' C s H fp,PE (zaT X (zaS gg.target) (zaR scope.names N) scope cl' C s H fp) elt (tE cl noE el):=by
 unfold zin at h;split at h
 ·rename_i hc;rw [yab] at hc;obtain ⟨S,hn⟩:=zim g hc.2
  cases h1:zih G rc nm N gg.target gg.iter with
  | none=>rw [h1] at h;cases h
  | some it =>
   rw [h1] at h;dsimp only [Option.bind] at h
   cases h2:tgG true scope.names (zaS gg.target++(zaR scope.names N).map (·.1)) (zaS gg.target).length gg.target with
   | none=>rw [h2] at h;cases h
   | some t =>
    rw [h2] at h;dsimp only at h
    cases h3:zlT rc scope.names (zaS gg.target++(zaR scope.names N).map (·.1)) gg.ifs with
    | none=>rw [h3] at h;cases h
    | some c =>
     rw [h3] at h;dsimp only at h
     cases h4:shE rc scope.names (zaS gg.target++(zaR scope.names N).map (·.1)) elt with
     | none=>rw [h4] at h;cases h
     | some el =>
      rw [h4] at h;cases h;obtain ⟨i1,i2⟩:=zjK hs g (tg:=gg.target) h1;refine ⟨it,t,c,el,rfl,?_,S,i1,i2,fun cl' C s H fp=>zm3 (ze9 g hn cl' C s H fp) ⟨fun _ x hx=>yaJ hx⟩ h2,fun cl' C s H fp=>zoE hs (ze9 g hn cl' C s H fp) h3,fun cl' C s H fp=>(za1 hs (ze9 g hn cl' C s H fp) h4).1⟩;have:=yaE hc.1;cases gg;simp only at this;rw [this]
 ·cases h
def zkf(hs:za8 cl G k rc)(g:Gx cl G k X nm N E)(h:zin G rc nm N elt gg scope=some f):PE X (.ListComp elt [gg] scope pos) (tN cl E f):=by
 obtain ⟨it,t,c,el,rfl,eg,S,i1,i2,i3,i4,i5⟩:=zet hs g h;rw [eg];exact PE.imp (zlj g.calm S i1 i3 i4 i5 (zeS i2)) fun _ _ _ q=>zmN q
end
noncomputable def zve:Expr->Bool | .Slice _ _ _ _=>false | _=>true
def zrZ(rc:Rec)(nm:Names)(N:List Str):Option Expr->Option (Option Fe)
 | none=>some none
 | some e=>(opE rc nm N e).map some
def zuA(m:Str):Option (List D->D->Option D):=if m = "count" then some zdv else if m = "index" then some zds else none
def zke:∀(l:List D) (d r:D),zdv l d=some r->∃n,r=.int n:=by
 intro l d r h;unfold zdv at h;split at h
 ·cases h;exact ⟨_,rfl⟩
 ·cases h
def zjR:∀(l:List D) (d r:D),zds l d=some r->∃n,r=.int n:=by
 intro l d r h;unfold zds at h;split at h
 ·cases h;exact ⟨_,rfl⟩
 ·cases h
def unG(rc:Rec)(nm:Names)(N:List Str)(a:Expr):UnaryOp->Option (Bool×Fe)
 | .Not=>if zbq a then (shE rc nm N a).map fun f=>(false,eUn zcS f) else none
 | .USub=>(opE rc nm N a).map fun f=>(false,eUn zoW f)
 | _=>none
def zrt(rc:Rec)(nm:Names)(N:List Str)(a:Expr):List CmpOp->List Expr->Option (Bool×Fe)
 | [op],[b]=>(zru op b).bind fun g=>(opE rc nm N a).bind fun f=>(opE rc nm N b).bind fun h=>some (false,zag g f h)
 | [op,op'],[b,c]=>(zru op b).bind fun g=>(zru op' c).bind fun g'=>(opE rc nm N a).bind fun f=>(opE rc nm N b).bind fun h=>(opE rc nm N c).bind fun k=>some (false,zc0 g g' f h k)
 | _,_=>none
def zuu(rc:Rec)(nm:Names)(N:List Str)(a:Expr):Expr->Option (Bool×Fe)
 | .Slice lo hi none _=>(opE rc nm N a).bind fun f=>(zrZ rc nm N lo).bind fun l=>(zrZ rc nm N hi).bind fun u=>some (false,eSl f l u)
 | i=>if zve i then (opE rc nm N a).bind fun f=>(opE rc nm N i).bind fun h=>some (false,zag ixD f h) else none
def zux(m:Str):Option (Str×String×(Str->D->Option D)):=if m = "endswith" then some ("endswith","str.endswith",zlO) else if m = "join" then some ("join","str.join",ze4) else if m = "split" then some ("split","str.split",zdI) else if m = "index" then some ("index","str.index",zhF) else none
noncomputable def zvL:Expr->Bool | .Name _ _=>true | .Constant _ _ _=>true | .Subscript _ _ _=>true | _=>false
def zsr(rc:Rec)(nm:Names)(N:List Str)(o:Expr)(m:Str)(ap cp:Pos)(args:List Expr)(kws:List Keyword):Option (Bool×Fe) :=
 if kws.isEmpty&&zvL o&&(ap.endLine == cp.line) then match args with
  | [a]=>(match (nmF o).bind fun x=>(zcA nm N x.1).bind fun i=>(zuA m).bind fun g=>(opE rc nm N a).map fun f=>(false,eMt g i f) with
   | some r=>some r
   | none=>(zux m).bind fun g=>(shE rc nm N o).bind fun fo=>(shE rc nm N a).map fun f=>(false,eSm g.2.2 fo f))
  | [a,b]=>if m = "get" then (shE rc nm N o).bind fun fo=>(shE rc nm N a).bind fun f=>(shE rc nm N b).map fun f2=>(false,zdt fo f f2) else none
  | _=>none
 else none
def zmP(G:Genv)(rc:Rec)(nm:Names)(N:List Str)(args:List Expr)(kws:List Keyword)(cp:Pos):Expr->Option (Bool×Fe)
 | .Attribute o m ap=>zsr rc nm N o m ap cp args kws
 | .Name x _=>if kws.isEmpty then (match spG G rc nm N x args with | some p=>some p | none=>zoK G rc nm N x args) else none
 | _=>none
def lcG(G:Genv)(rc:Rec)(nm:Names)(N:List Str)(elt:Expr)(scope:Scope):List Comprehension->Option (Bool×Fe)
 | [g]=>(zin G rc nm N elt g scope).map fun f=>(true,f)
 | _=>none
def zaE(G:Genv)(rc:Rec):Rec:=fun nm N e=>match e with
 | .Constant c _ _=>(zvh c).map fun d=>(false,zab d)
 | .Name x _=>(match zcA nm N x with
  | some i=>some (false,zaf i)
  | none=>if zbR nm x then (G.con x).map fun d=>(false,zab d) else none)
 | .Tuple es _ _=>(shL rc nm N es).map fun fs=>(false,zfe fs)
 | .List es _=>(shL rc nm N es).map fun fs=>(true,zes fs)
 | .BinOp a op b _=>if zop a&&zrb op then (opE rc nm N a).bind fun f=>(opE rc nm N b).bind fun h=>some (true,zag zjq f h) else (ztL op).bind fun g=>(opE rc nm N a).bind fun f=>(opE rc nm N b).bind fun h=>some (false,zag g f h)
 | .UnaryOp op a _=>unG rc nm N a op
 | .BoolOp op es _=>(ziu rc nm N op es).map fun f=>(false,f)
 | .Compare a ops bs _=>zrt rc nm N a ops bs
 | .IfExp c a b _=>if zbq c then (shE rc nm N c).bind fun g=>(shE rc nm N a).bind fun f=>(shE rc nm N b).bind fun h=>some (false,eIf g f h) else none
 | .Subscript a i _=>zuu rc nm N a i
 | .Call f args kws cp=>zmP G rc nm N args kws cp f
 | .ListComp elt gs scope _=>lcG G rc nm N elt scope gs
 | .Dict [] [] _=>some (true,zrl)
 | _=>none
noncomputable def zvg:Expr->Option (List (Option Expr)×List Expr×Pos) | .Dict ks vs p=>some (ks,vs,p) | _=>none
def zoC{e:Expr}{x:List (Option Expr)×List Expr×Pos}(h:zvg e=some x):e=.Dict x.1 x.2.1 x.2.2:=by cases e<;>first | (cases h;done) | (cases h;rfl)
noncomputable def zsI:D->Option Str | .str x=>some x | _=>none
def zwP(G:Genv)(rc:Rec)(nm:Names)(N:List Str)(e:Expr):Option Fe:=(zvg e).bind fun d=>(zjk d.1).bind fun ko=>ko.bind fun ke=>(nmF ke).bind fun c=>if zbR nm c.1 then (G.con c.1).bind fun k=>(zsI k).bind fun x=>(zjk d.2.1).bind fun v=>(shE rc nm N v).map fun f=>zil x f else none
def zgY(G:Genv)(rc:Rec):Rec:=fun nm N e=>match zwP G rc nm N e with | some f=>some (true,f) | none=>zaE G rc nm N e
noncomputable def ztG(G:Genv):Nat->Rec
 | 0=>fun _ _ _=>none
 | n+1=>zgY G (ztG G n)
section
variable{cl:Cf}{G:Genv}{k:Nat}{rc:Rec}
def zlG(h:zve i=true):zg4 i:=by
 intro o j
 cases i<;>first | rfl | cases h
def zaa{α β:Type}{o:Option α}{f:α->Option β}{b:β}(h:o.bind f=some b):∃a,o=some a/\f a=some b:=by
 cases o with
 | none=>cases h
 | some a=>exact ⟨a,rfl,h⟩
def map_some{α β:Type}{o:Option α}{f:α->β}{b:β}(h:o.map f=some b):∃a,o=some a/\f a=b:=by
 cases o with
 | none=>cases h
 | some a=>exact ⟨a,rfl,Option.some.inj h⟩
def zhp(hs:za8 cl G k rc)(g:Gx cl G k X nm N E)(h:zrZ rc nm N o=some f):PO X o (zrV cl E f):=by
 unfold zrZ at h;split at h
 ·cases h;exact znI
 ·obtain ⟨a,h1,rfl⟩:=map_some h;exact znH (zbH hs g h1).1
def zo9(hs:za8 cl G k rc){X:Cx}{nm:Names}{N:List Str}{E:St->XK}(g:Gx cl G k X nm N E){o:Expr}{m:Str}{ap cp:Pos}{args:List Expr}{kws:List Keyword}{w:Bool}{fe:Fe}(h:zsr rc nm N o m ap cp args kws=some (w,fe)):w=false/\PE X (.Call (.Attribute o m ap) args kws cp) (tE cl E fe):=by
 unfold zsr at h;split at h
 ·rename_i hc;simp only [yab] at hc;obtain ⟨⟨z1,z2⟩,z3⟩:=hc;obtain rfl:=ybs.mp z1
  have hb:∀n,attributeBase o n X.env (eval o X.env)=eval o X.env:=fun n=>by cases o<;>first | rfl | cases z2
  split at h
  ·rename_i a;split at h
   ·rename_i r hr;cases h;obtain ⟨x,b1,hr⟩:=zaj hr;obtain ⟨i,b2,hr⟩:=zaj hr;obtain ⟨gg,b3,hr⟩:=zaj hr;obtain ⟨fa,b4,hr⟩:=map_some hr;cases hr;obtain rfl:=zcb b1;obtain ⟨s1,s2,s3,s4⟩:=g.slot b2;obtain ⟨a1,a2⟩:=zbH hs g b4;refine ⟨rfl,?_⟩;unfold zuA at b3;split at b3
    ·rename_i e';cases b3;subst e';exact zpP PySem.F.slot_list_count PySem.F.type_list_count (zlx g.kk g.units) zke s1 s2 s3 s4 a1 (zac a2) z3
    ·split at b3
     ·rename_i e';cases b3;subst e';exact zpP PySem.F.slot_list_index PySem.F.type_list_index (zlw g.kk g.units) zjR s1 s2 s3 s4 a1 (zac a2) z3
     ·cases b3
   ·obtain ⟨gg,b1,h⟩:=zaj h;obtain ⟨fo,b2,h⟩:=zaj h;obtain ⟨f,b3,h⟩:=map_some h;cases h;refine ⟨rfl,?_⟩;obtain ⟨a1,_,a3⟩:=za1 hs g b3;have o1:=(za1 hs g b2).1;unfold zux at b1;split at b1
    ·rename_i e';cases b1;subst e';exact zkW PySem.F.slot_str_endswith PySem.F.type_str_endswith zn4 o1 a1 (zac a3) (hb _) z3
    split at b1
    ·rename_i e';cases b1;subst e';exact zkW PySem.F.slot_str_join PySem.F.type_str_join zn3 o1 a1 (zac a3) (hb _) z3
    split at b1
    ·rename_i e';cases b1;subst e';exact zkW ybF PySem.F.type_str_split zls o1 a1 (zac a3) (hb _) z3
    split at b1
    ·rename_i e';cases b1;subst e';exact zkW PySem.F.slot_str_index PySem.F.type_str_index zlt o1 a1 (zac a3) (hb _) z3
    ·cases b1
  ·rename_i a b;split at h
   ·rename_i e';subst e';obtain ⟨fo,b1,h⟩:=zaj h;obtain ⟨f,b2,h⟩:=zaj h;obtain ⟨f2,b3,h⟩:=map_some h;cases h;obtain ⟨a1,_,a3⟩:=za1 hs g b2;obtain ⟨c1,_,c3⟩:=za1 hs g b3;exact ⟨rfl,zkX (yb7 (ycA (by decide) _) g.units) (za1 hs g b1).1 a1 c1 (zac a3) (zac c3) (hb _) z3⟩
   ·cases h
  ·cases h
 ·cases h
def zj9(hs:za8 cl G k rc):za8 cl G k (zaE G rc):=by
 intro X nm N E g e o f h;cases e
 case Constant =>
  unfold zaE at h;dsimp only at h;obtain ⟨d,h1,h2⟩:=map_some h;cases h2;rename_i c kk pos
  have p:PE X (.Constant c kk pos) (tE cl E (zab d)):=by
   cases c<;>simp [zvh] at h1<;>subst h1
   ·exact ziX zqn fun w=>.non
   ·exact ziX zs3 fun w=>.bl _
   ·exact ziX zqp fun w=>.int _
   ·exact ziX zqj fun w=>.str _
  exact ⟨(fun z=>by cases z),p,fun _=>zbp p (fun _=>rfl),rfl⟩
 case Name =>
  unfold zaE at h;dsimp only at h;rename_i x pos;split at h
  ·rename_i i hi;cases h;obtain ⟨h1,h2,h3,h4⟩:=g.slot hi;have p:PE X (.Name x pos) (tE cl E (zaf i)):=zpL h1 h2 h3 h4;exact ⟨(fun z=>by cases z),p,fun _=>zbp p (fun _=>rfl),rfl⟩
  ·split at h
   ·rename_i hg;obtain ⟨d,h1,h2⟩:=map_some h;cases h2;obtain ⟨g1,g2,g3⟩:=g.glob hg;obtain ⟨v,u,m,r,sh⟩:=g.gok.con x d h1;have p:PE X (.Name x pos) (tE cl E (zab d)):=ziX (zgE g1 m r g2) sh;exact ⟨(fun z=>by cases z),p,fun _=>zbp p (fun _=>rfl),rfl⟩
   ·cases h
 case Tuple =>
  unfold zaE at h;dsimp only at h;obtain ⟨fs,h1,h2⟩:=map_some h;cases h2;rename_i es kk pos;have p:PE X (.Tuple es kk pos) (tE cl E (zfe fs)):=zpM (zfx hs g h1).1;exact ⟨(fun z=>by cases z),p,fun _=>zbp p (fun _=>rfl),rfl⟩
 case List =>
  unfold zaE at h;dsimp only at h;obtain ⟨fs,h1,h2⟩:=map_some h;cases h2;rename_i es pos;have p:PE X (.List es pos) (tN cl E (zes fs)):=zpQ (zfx hs g h1).1;exact ⟨fun _=>p,zbK p,fun _=>zbp (zbK p) (fun _=>rfl),rfl⟩
 case BinOp =>
  unfold zaE at h;dsimp only at h;split at h
  ·rename_i a op b pos hm;obtain ⟨fa,h2,h⟩:=zaa h;obtain ⟨fb,h3,h⟩:=zaa h;cases h;rw [yab] at hm
   have ho:op=.Mult:=by cases op<;>first | rfl | cases hm.2
   subst ho;have p:PE X (.BinOp a .Mult b pos) (tN cl E (zag zjq fa fb)):=znq (zbH hs g h2).1 (zbH hs g h3).1;exact ⟨fun _=>p,zbK p,fun _=>zbp (zbK p) (fun _=>rfl),rfl⟩
  obtain ⟨gg,h1,h⟩:=zaa h;obtain ⟨fa,h2,h⟩:=zaa h;obtain ⟨fb,h3,h⟩:=zaa h;cases h;exact ⟨(fun z=>by cases z),zmm (zmQ h1) (zbH hs g h2).1 (zbH hs g h3).1,fun _=>zbp (zmm (zmQ h1) (zbH hs g h2).1 (zbH hs g h3).1) (fun _=>rfl),rfl⟩
 case UnaryOp =>
  unfold zaE at h;dsimp only at h;rename_i op a pos;unfold unG at h;split at h
  ·split at h
   ·rename_i ht;obtain ⟨fa,h1,h2⟩:=map_some h;cases h2;obtain ⟨a1,a2,_⟩:=za1 hs g h1;exact ⟨(fun z=>by cases z),zpO a1,fun _=>zpu (a2 ht),rfl⟩
   ·cases h
  ·obtain ⟨fa,h1,h2⟩:=map_some h;cases h2;have p:PE X (.UnaryOp .USub a pos) (tE cl E (eUn zoW fa)):=zsN zo6 (zbH hs g h1).1;exact ⟨(fun z=>by cases z),p,fun _=>zbp p (fun _=>rfl),rfl⟩
  ·cases h
 case BoolOp =>
  unfold zaE at h;dsimp only at h;obtain ⟨fa,h1,h2⟩:=map_some h;cases h2;rename_i op es pos;obtain ⟨b1,b2⟩:=zks hs g (pos:=pos) h1;exact ⟨(fun z=>by cases z),b1,fun _=>b2.pt,rfl⟩
 case Compare =>
  unfold zaE at h;dsimp only at h;rename_i a ops bs pos;unfold zrt at h;split at h
  ·obtain ⟨gg,h1,h⟩:=zaa h;obtain ⟨fa,h2,h⟩:=zaa h;obtain ⟨fb,h3,h⟩:=zaa h;cases h;obtain ⟨a1,_⟩:=zbH hs g h2;obtain ⟨b1,b2⟩:=zbH hs g h3;exact ⟨(fun z=>by cases z),zpR (zev g h1) a1 b1 (zdU b2),fun _=>zpv (zev g h1) a1 b1 (zdU b2),rfl⟩
  ·obtain ⟨gg,h1,h⟩:=zaa h;obtain ⟨gg',h1',h⟩:=zaa h;obtain ⟨fa,h2,h⟩:=zaa h;obtain ⟨fb,h3,h⟩:=zaa h;obtain ⟨fc,h4,h⟩:=zaa h;cases h;obtain ⟨a1,_⟩:=zbH hs g h2;obtain ⟨b1,_⟩:=zbH hs g h3;obtain ⟨c1,c2⟩:=zbH hs g h4;have hm:∀{op op':CmpOp} {b c:Expr},okE c=true->lastMarks [op,op'] [b,c]=false:=fun h=>zdU h
   exact ⟨(fun z=>by cases z),zkY (zev g h1) (zev g h1') a1 b1 c1 (hm c2),fun _=>zkO (zev g h1) (zev g h1') a1 b1 c1 (hm c2),rfl⟩
  ·cases h
 case IfExp =>
  unfold zaE at h;dsimp only at h;split at h
  ·rename_i c a b pos ht;obtain ⟨fc,h1,h⟩:=zaa h;obtain ⟨fa,h2,h⟩:=zaa h;obtain ⟨fb,h3,h⟩:=zaa h;cases h;obtain ⟨_,c2,_⟩:=za1 hs g h1;exact ⟨(fun z=>by cases z),zsQ (c2 ht) (za1 hs g h2).1 (za1 hs g h3).1,(fun z=>by cases z),rfl⟩
  ·cases h
 case Subscript =>
  unfold zaE at h;dsimp only at h;rename_i a i pos;unfold zuu at h;split at h
  ·obtain ⟨fa,h1,h⟩:=zaa h;obtain ⟨fl,h2,h⟩:=zaa h;obtain ⟨fu,h3,h⟩:=zaa h;cases h;exact ⟨(fun z=>by cases z),zpN (zbH hs g h1).1 (zhp hs g h2) (zhp hs g h3),fun _=>zbp (zpN (zbH hs g h1).1 (zhp hs g h2) (zhp hs g h3)) (fun _=>rfl),rfl⟩
  ·split at h
   ·rename_i hix;obtain ⟨fa,h1,h⟩:=zaa h;obtain ⟨fb,h2,h⟩:=zaa h;cases h;have p:PE X (.Subscript a _ pos) (tE cl E (zag ixD fa fb)):=zsP (ztv g.kk g.units) (zbH hs g h1).1 (zbH hs g h2).1 (zlG hix);exact ⟨(fun z=>by cases z),p,fun _=>zbp p (fun _=>rfl),rfl⟩
   ·cases h
 case Call =>
  unfold zaE at h;dsimp only at h;rename_i fn args kws cp;unfold zmP at h;split at h
  ·rename_i o m ap;obtain ⟨z,p⟩:=zo9 hs g (ap:=ap) (cp:=cp) h;exact ⟨(fun w=>by rw [z] at w;cases w),p,fun _=>zbp p (fun _=>rfl),rfl⟩
  ·rename_i x p;split at h
   ·rename_i hk
    have hk':kws=[]:=by simpa using hk
    subst hk';split at h
    ·rename_i hsp;cases h;obtain ⟨a1,a2⟩:=zsM hs g (p:=p) (pos:=cp) hsp;exact ⟨a1,a2,fun _=>zbp a2 (fun _=>rfl),rfl⟩
    ·obtain ⟨a1,a2⟩:=zoJ hs g (p:=p) (pos:=cp) h;exact ⟨a1,a2,fun _=>zbp a2 (fun _=>rfl),rfl⟩
   ·cases h
  ·cases h
 case ListComp =>
  unfold zaE at h;dsimp only at h;rename_i elt gs scope pos;unfold lcG at h;split at h
  ·obtain ⟨fa,h1,h2⟩:=map_some h;cases h2;rename_i gg;have p:PE X (.ListComp elt [gg] scope pos) (tN cl E f):=zkf hs g h1;exact ⟨fun _=>p,zbK p,fun _=>zbp (zbK p) (fun _=>rfl),rfl⟩
  ·cases h
 case Dict ks vs _ =>
  cases ks with
  | cons _ _=>cases h
  | nil =>
   cases vs with
   | cons _ _=>cases h
   | nil =>
    unfold zaE at h;dsimp only at h;rename_i pos;cases h;exact ⟨fun _=>zgv,zbK (zgv),fun _=>zbp (zbK (zgv)) (fun _=>rfl),rfl⟩
 all_goals cases h
def zlQ(hs:za8 cl G k rc):za8 cl G k (zgY G rc):=by
 intro X nm N E g e o f h;unfold zgY at h;split at h
 ·rename_i f' ho;cases h;obtain ⟨d,a1,ho⟩:=zaj ho;obtain ⟨ko,a2,ho⟩:=zaj ho;obtain ⟨ke,a3,ho⟩:=zaj ho;obtain ⟨c,a4,ho⟩:=zaj ho;split at ho
  ·rename_i hg;obtain ⟨k,a5,ho⟩:=zaj ho;obtain ⟨x,a6,ho⟩:=zaj ho;obtain ⟨v,a7,ho⟩:=zaj ho;obtain ⟨fv,h1,ho⟩:=map_some ho;subst ho;obtain ⟨g1,g2,g3⟩:=g.glob hg;obtain ⟨vv,u,m,r,sh⟩:=g.gok.con c.1 k a5
   obtain rfl:k=.str x:=by cases k<;>first | (cases a6;done) | (cases a6;rfl)
   cases sh ⟨fun _=>none,fun _=>none,[]⟩;have p:=zns (pos:=d.2.2) (zgE (pos:=c.2) g1 m r g2) (za1 hs g h1).1
   obtain rfl:e=.Dict [some (.Name c.1 c.2)] [v] d.2.2:=by rw [zoC a1,zcR a2,a3,zcb a4,zcR a7]
   exact ⟨fun _=>p,zbK p,fun _=>zbp (zbK p) (fun _=>rfl),rfl⟩
  ·cases ho
 ·exact zj9 hs X nm N E g e o f h
theorem zmI:∀n,za8 cl G k (ztG G n)
 | 0=>fun _ _ _ _ _ _ _ _ h=>by cases h
 | n+1=>zlQ (zmI n)
end
noncomputable def zky(X:Cx)(E:St->XK):Prop:=∀(C:Addr) (pins:Z3) (σ:St) (H:Hp) (s:Shared) (e:Addr) (h':Heap) (vs:List Value),Inv X pins σ H s->Heap.MadeExcOf s.heap h' e (.ref C) vs->E σ (.ref C) none H->X.xe (.ref e) { s with heap:=h' }
noncomputable def zm8(C:Addr)(E:St->XK)(t:TA):TS:=fun _ σ H=>t σ H fun vs H1=>vs.length<=sizeLine/\E σ (.ref C) none H1
theorem zjb(hr:zky X E)(hc:X.calm=true)(hg:Gl X x)(hm:X.mg x=some (.ref C))
  (z:PySem.W.excIn X.K C bmV "ValueError.__new__" = true) (ha:PA X (e::es) t)
  (he:starEach (e::es) X.env=(false,eval e X.env)::starEach es X.env) (hpl:(backTo cpos (starEach es X.env)).any (·.1)=false) (hdb:(x == ("__debug__":Str))=false) :
  PS X (.Raise (some (.Call (.Name x np) (e::es) [] cpos)) none pos) (zm8 C E t):=by
 intro pins s σ H D I h;obtain ⟨bm,N,nm,qn,bs,hd,sn,sub,ab,col,dd,c0,c1,c2,c3,c5,mN,o1,o2,o3,o4⟩:=zgQ I.mod.kin z
 refine wpAny_Raise_call_subU (C:=C) (nm:=nm) (q:=qn) (N:=N) (bs:=bs) (bm:=bm) (hdct:=hd) (sn:=sn) (sub:=sub) (ab:=ab) (col:=col) (dd:=dd) (k0:=c0) (k1:=c1) (k2:=c2) (k3:=c3) (k5:=c5)
  ybT (by decide +kernel) ybT (mN:=mN) (o4.hasType ybT.hasBase) (I.ok.hd hc) (by rw [he];show (false||(backTo cpos (starEach es X.env)).any (·.1))=false;rw [hpl];rfl) o3 (zdW I hg hm ⟨rfl,?_⟩ hdb)
 have go:=ha cpos pins s σ H _ I h;rw [he] at go ⊢;exact ycr (thn go fun us s2 ⟨vs,H2,I2,r2,q1,q2⟩=>⟨rfl,by rw [<-r2.length];exact q1,I2.bk _ _ o1,o2.keeps I2.bk,o4.keeps I2.bk,fun h' a mk=>hr C pins σ H2 s2 a h' us I2 mk q2⟩)
def sRz(c:Str)(fs:List Fe):Fs:=fun ρ S=>match zao fs ρ S with | .ok ds S'=>if small ds.length then .ex c ρ S' else .bad | .exc x S'=>.ex x ρ S' | .bad=>.bad
noncomputable def zmf(X:Cx)(pins:Z3)(E:St->XK):Cx:={ X with pn:=X.pn++pins,xe:=fun e s'=>∃σ H1 s1,Inv X pins σ H1 s1/\CXE X.prog X.w X.stack H1 s1 (E σ) e s' }
section
variable{X:Cx}{pins:Z3}{σ:St}{H:Hp}{s:Shared}{E:St->XK}
def zqC(ok:X.Ok):(zmf X pins E).Ok :=
 ⟨ok.mod,ok.kind,ok.glob,ok.blt,ok.above,ok.inj,ok.has,ok.cab,ok.hd,ok.frames,ok.stk,ok.exf,ok.bs,ok.bsz,ok.noex,ok.exfs,ok.funs,ok.frf⟩
def zlq(ok:(zmf X pins E).Ok):X.Ok :=
 ⟨ok.mod,ok.kind,ok.glob,ok.blt,ok.above,ok.inj,ok.has,ok.cab,ok.hd,ok.frames,ok.stk,ok.exf,ok.bs,ok.bsz,ok.noex,ok.exfs,ok.funs,ok.frf⟩
def zor(I:Inv X pins σ H s):Inv (zmf X pins E) [] σ H s :=
 ⟨zqC I.ok,I.os,I.bare,I.base,I.loc,I.cell,I.free,I.freeC,fun p hp=>I.pin p (by simpa [zmf] using hp),I.hok,I.len⟩
def zcj{pins':Z3}(I:Inv (zmf X pins E) pins' σ H s):Inv X pins σ H s :=
 ⟨zlq I.ok,I.os,I.bare,I.base,I.loc,I.cell,I.free,I.freeC,fun p hp=>I.pin p (ycq _ hp),I.hok,I.len⟩
def zkQ{De:Ends}{f:Flow}(h:SP (zmf X pins E) [] De f s):SP X pins De f s:=by
 cases f with
 | next=>obtain ⟨σ',H',I,q⟩:=h;exact ⟨σ',H',zcj I,q⟩
 | brk=>obtain ⟨σ',H',I,q⟩:=h;exact ⟨σ',H',zcj I,q⟩
 | cont=>obtain ⟨σ',H',I,q⟩:=h;exact ⟨σ',H',zcj I,q⟩
 | ret u=>obtain ⟨v,σ',H',I,r,q⟩:=h;exact ⟨v,σ',H',zcj I,r,q⟩
end
noncomputable def zsu(K:PySem.W.Frag)(C:Addr)(i:Nat)(th:TS)(De:Ends):St->XK:=fun σ cls _ H'=>∃C',cls=.ref C'/\zl7 K C' C/\∀a ob,H' a=none->ob.cls=.ref C'->th (De.goes i) (σ.set i (some (.ref a))) (upd H' a (.frz ob (.own a)))
def znD{X:Cx}{body:List Stmt}{b0:Stmt}{suite:List Stmt}{c n:Str}{C:Addr}{i:Nat}{bD:List Value}{iD:String}{tb:(St->XK)->TS}{th:TS}{np hpos pos:Pos}(hs:X.stack=X.env::X.outer)(hf:X.env.frame=some X.env.locals)(hN:X.N.Nodup)(hi:X.N[i]?=some n)
  (hk:X.env.scope.names.lookup n=some .local) (hg:Gl X c) (hm:X.mg c=some (.ref C)) (z:PySem.W.excIn X.K C bD iD=true) (hb:bD.contains (.type "BaseException")=true) (h1:∀pins E,PSs (zmf X pins E) body (tb E)) (h2:∀a,PSs (X.inH a) (b0::suite) th) (hdb:(c == ("__debug__":Str))=false) :
  PS X (.Try body [.ExceptHandler (some (.Name c np)) (some n) (b0::suite) hpos] [] [] pos) (fun De σ H=>tb (zsu X.K C i th De) De σ H):=by
 intro pins s σ H D I h
 have hfr:X.A.frames=some (X.env::X.outer):=by rw [<-hs];exact I.ok.frames
 refine wpAny_Try_except (ybk (h1 pins (zsu X.K C i th D) [] s σ H D (zor I) h) (fun f s1 q=>?_) fun e s1 q=>?_)
 ·have q':=zkQ q
  cases f with
  | next=>exact ycv q'
  | ret v=>exact q'
  | brk=>exact q'
  | cont=>exact q'
 ·obtain ⟨σ1,H1,s2,I1,a,cls,a0,H',B,rfl,fl,c1,c2,c3,os,bare,un,hok,C',rfl,⟨⟨bC,iC,zC⟩,up⟩,q⟩:=q;have fl':=fl;rw [hs] at fl';refine wpAny_looks_onW hfr hf fl' fun h4 hd4 u4=>?_
  refine wpAny_landsW hd4 fun h5 fl5 u5=>?_
  rw [<-hs] at fl5;obtain ⟨I5,ob5,oc5,og5,_,_⟩:=zew (s':=s1) I1 fl5 (u4.trans u5) c1 c2 c3 os bare un hok;refine wpAny_handleBy_cons (codeAny_handlers_test ?_) (by intro q;cases q);refine zdW (I5.inH a) hg hm ?_ hdb;refine zeW I5.kIn zC z og5 oc5 hb up ?_;refine codeAny_handlers_suite_as ?_;refine lands_againW fl5 fun h6 fl6 u6=>?_
  obtain ⟨_,ob,oc,og,na,I6⟩:=zew (s':=s1) I1 fl6 ((u4.trans u5).trans u6) c1 c2 c3 os bare un hok;refine zcr (v:=.ref a) I6 hN hi (.inl hk) rfl (fun s7 I7=>?_) (.inr hk);exact ybk (h2 a pins s7 _ _ (D.goes i) (I7.inH a) (q a ob na oc)) (fun f s8 q8=>znk I.ok hN hi hk q8) fun _ _ z=>z.elim
noncomputable def zpU(und:Str->Str->Bool)(C:Str)(i j:Nat)(fb:Fs):Fs:=fun ρ S=>match fb ρ S with
 | .ex c ρ' S'=>if und c C&&decide (i<ρ'.length) then .nx ((ρ'.set j (some (false,.exc c))).set i none) S' else .bad
 | o=>o
def Rel.clear{cl:Cf}{B:Base}{σ:St}{w:Wd}{ρ:Env}{S:Sto}(R:Rel cl B σ w ρ S)(i:Nat):Rel cl B (σ.set i none) w (ρ.set i none) S where
 wd:=R.wd
 len:=by rw [yaI,yaI];exact R.len
 slots:=fun j o e hj=>by
  by_cases hij:i=j
  ·subst hij
   have hlt:i<ρ.length:=by
    have:=(yam.mp hj).1;rwa [yaI] at this
   rw [yay hlt] at hj;cases hj
  ·rw [yaN hij] at hj ⊢;exact R.slots j o e hj
section
variable{X:Cx}{cl:Cf}{E:St->XK}{own:Bool}
def zkK{K:PySem.W.Frag}{und:Str->Str->Bool}{C:Str}{i j:Nat}{fb:Fs}(hij:i≠j)(hu:∀c,und c C=true->zl7 K (cl c) (cl C)){De:Ends}{σ:St}{H:Hp}(q:tS cl E own (zpU und C i j fb) De σ H) :
  tS cl (zsu K (cl C) i (zna (zuq i) (zii j)) De) own fb De σ H:=by
 obtain ⟨B,w,ρ,S,rfl,R,q⟩:=q;refine ⟨B,w,ρ,S,rfl,R,?_⟩;unfold zpU at q;have hl:ρ.length=σ.length:=R.len.symm
 cases hf:fb ρ S with
 | nx ρ' S'=>rwa [hf] at q
 | bk ρ' S'=>rwa [hf] at q
 | ct ρ' S'=>rwa [hf] at q
 | rt d S'=>rwa [hf] at q
 | bad=>rwa [hf] at q
 | ex c ρ' S' =>
  rw [hf] at q;dsimp only at q
  cases hc:und c C&&decide (i<ρ'.length) with
  | false=>rw [hc,if_neg (by decide)] at q;exact q.elim
  | true =>
   rw [hc,if_pos rfl] at q;rw [yab] at hc;intro σ' w' R' F';refine ⟨cl c,rfl,hu c hc.1,fun a ob ha hob=>?_⟩;have g:=zav (w:=w') ha (.frz ob (.own a));have sh:Shd cl (w'.add a (.frz ob (.own a))) (.ref a) (.exc c):=.exc zl6 zhW hob
   have hi':i<σ'.length:=by rw [R'.len];exact yaE hc.2
   refine ⟨.ref a,yay hi',?_⟩;have R2:=((R'.grow g).put (i:=j) sh).clear i;refine q _ (w'.add a (.frz ob (.own a))) ?_ (F'.trans g.fut)
   have e:((σ'.set i (some (V.ref a))).set j (some (.ref a))).set i none=(σ'.set j (some (V.ref a))).set i none:=by
    rw [List.set_comm _ _ hij,List.set_set]
   show Rel cl B (((σ'.set i (some (V.ref a))).set j (some (.ref a))).set i none) _ _ _;rw [e];exact R2
end
noncomputable def Wd.claim(w:Wd)(p:Addr)(r:Root):Wd:=⟨w.H,fun a=>if a=p then some r else if w.ow a=some r then some .far else w.ow a,w.mu⟩
section
variable{cl:Cf}{B:Base}{σ:St}{w:Wd}{ρ:Env}{S:Sto}
def zd3(h:w.ow p≠none):Fut w (w.claim p r) where
 keep:=fun a u ha hk=>by
  have n:a≠p:=fun z=>h (by rw [<-z];exact hk)
  refine ⟨ha,?_⟩;show (if a=p then some r else if w.ow a=some r then some Root.far else w.ow a)=none;rw [if_neg n,if_neg (by rw [hk];exact fun z=>by cases z)];exact hk
 mu:=fun _ _ h=>h
theorem Rel.claim(R:Rel cl (B.hold p o) σ w ρ S)(hB:B.Fr p=none)(t:Top cl w o d):Rel cl B (σ.set i (some (.ref p))) (w.claim p (.slot i)) (ρ.set i (some (true,d))) S:=by
 have hp:=R.wd.fr p o (show (if p=p then some o else B.Fr p)=some o from if_pos rfl);have hfar:w.ow p=some .far:=hp.2.trans (show (if p=p then some Root.far else B.fw p)=_ from if_pos rfl);have ff:=zd3 (w:=w) (p:=p) (r:=.slot i) (by rw [hfar];exact yaG _)
 have kp:∀a u,w.H a=some u->w.ow a≠some .far->w.ow a≠some (.slot i)->(w.claim p (.slot i)).H a=some u/\(w.claim p (.slot i)).ow a=w.ow a:=fun a u ha hk hk2=>by
  have n:a≠p:=fun z=>hk (by rw [z];exact hfar)
  refine ⟨ha,?_⟩;show (if a=p then _ else if w.ow a=some (Root.slot i) then some Root.far else w.ow a)=_;rw [if_neg n,if_neg hk2]
 refine ⟨⟨fun a u h=>?_,fun a r h=>?_,R.wd.len,fun n ob h=>?_,R.wd.tab.keep ff fun P ps h1 h2=>⟨(kp P _ h1 (by rw [h2];simp) (by rw [h2];simp)).1,(kp P _ h1 (by rw [h2];simp) (by rw [h2];simp)).2.trans h2⟩⟩,by rw [yaI,yaI];exact R.len,fun j b e hj=>?_⟩
 ·have na:a≠p:=fun z=>by rw [z,hB] at h;cases h
  have h2:=R.wd.fr a u (show (if a=p then some o else B.Fr a)=some u by rw [if_neg na];exact h);have h3:w.ow a=B.fw a:=h2.2.trans (show (if a=p then some Root.far else B.fw a)=_ from if_neg na)
  have hne:w.ow a≠some (.slot i):=fun z=>by
   rcases R.wd.own a _ z with y | y
   ·cases y
   ·have y':(if a=p then some o else B.Fr a)=none:=y;rw [if_neg na,h] at y';cases y'
  refine ⟨h2.1,?_⟩;show (if a=p then some (Root.slot i) else if w.ow a=some (Root.slot i) then some Root.far else w.ow a)=_;rw [if_neg na,if_neg hne];exact h3
 ·have h':(if a=p then some (Root.slot i) else if w.ow a=some (Root.slot i) then some Root.far else w.ow a)=some r:=h;split at h'
  ·rename_i e;rw [e];exact .inr hB
  ·rename_i na;split at h'
   ·cases h';exact .inl rfl
   ·rcases R.wd.own a r h' with z | z
    ·exact .inl z
    ·have z':(if a=p then some o else B.Fr a)=none:=z;rw [if_neg na] at z';exact .inr z'
 ·obtain ⟨a,e,x⟩:=R.wd.obj n ob h;exact ⟨a,e,x.keep ff fun b u hb hn=>kp b u hb (fun z=>by rwa [z] at hn) (fun z=>by rwa [z] at hn)⟩
 ·by_cases hij:i=j
  ·subst hij
   have hlt:i<ρ.length:=by
    have:=(yam.mp hj).1;rwa [yaI] at this
   rw [yay hlt] at hj;cases hj;exact ⟨.ref p,by rw [yay (by rw [R.len];exact hlt)],p,o,rfl,if_pos rfl,hp.1,t.up ff⟩
  ·rw [yaN hij] at hj ⊢;obtain ⟨v,e1,x⟩:=R.slots j b e hj;refine ⟨v,e1,x.keep ff fun a u ha hr=>?_⟩;have:=kp a u ha (by rw [hr];exact fun z=>by cases z) (by rw [hr];exact fun z=>hij (by cases z;rfl));exact ⟨this.1,this.2.trans hr⟩
end
noncomputable def tO(cl:Cf)(E:St->XK):Bool->Fe->TE | true,f=>tN cl E f | false,f=>tE cl E f
noncomputable def zsS(i j:Nat)(o1:Bool)(f1:Fe)(o2:Bool)(f2:Fe):Fs:=fun ρ S=>match f1 ρ S with
 | .ok d1 S1=>(match f2 ρ S1 with
  | .ok d2 S2=>.nx ((ρ.set i (some (o1,d1))).set j (some (o2,d2))) S2
  | .exc c S'=>.ex c ρ S'
  | .bad=>.bad)
 | .exc c S'=>.ex c ρ S'
 | .bad=>.bad
section
variable{X:Cx}{cl:Cf}{E:St->XK}{own:Bool}
def zln(q:tS cl E own (zsS i j o1 f1 o2 f2) De σ H):zur i j (zm9 (tO cl E o1 f1) (zm9 (tO cl E o2 f2) zsA)) De σ H:=by
 obtain ⟨B,w,ρ,S,rfl,R,q⟩:=q;unfold zsS at q
 cases o1 with
 | false =>
  refine ⟨B,w,ρ,S,rfl,R,?_⟩
  cases h1:f1 ρ S with
  | bad=>rwa [h1] at q
  | exc c S1=>rw [h1] at q;exact fun w' R' F'=>q σ w' R' F'
  | ok d1 S1 =>
   rw [h1] at q;dsimp only at q;intro v w1 R1 F1 sh1
   cases o2 with
   | false =>
    refine ⟨B,w1,ρ,S1,rfl,R1,?_⟩
    cases h2:f2 ρ S1 with
    | bad=>rwa [h2] at q
    | exc c S2=>rw [h2] at q;exact fun w' R' F'=>q σ w' R' (F1.trans F')
    | ok d2 S2 =>
     rw [h2] at q;intro v2 w2 R2 F2 sh2;exact ⟨v,v2,rfl,q _ w2 ((R2.put (sh1.up F2)).put sh2) (F1.trans F2)⟩
   | true =>
    refine ⟨B,w1,ρ,S1,rfl,R1,?_⟩
    cases h2:f2 ρ S1 with
    | bad=>rwa [h2] at q
    | exc c S2=>rw [h2] at q;exact fun w' R' F'=>q σ w' R' (F1.trans F')
    | ok d2 S2 =>
     rw [h2] at q;intro p2 u2 w2 R2 F2 hp2 t2;exact ⟨v,.ref p2,rfl,q _ (w2.addAs p2 u2 (.slot j)) ((R2.put (sh1.up F2)).own hp2 t2) (F1.trans (F2.trans (zbl hp2)))⟩
 | true =>
  refine ⟨B,w,ρ,S,rfl,R,?_⟩
  cases h1:f1 ρ S with
  | bad=>rwa [h1] at q
  | exc c S1=>rw [h1] at q;exact fun w' R' F'=>q σ w' R' F'
  | ok d1 S1 =>
   rw [h1] at q;dsimp only at q;intro p u w1 R1 F1 hp t1;have Rh:=R1.hold (o:=u) hp;have fa:=zbl (w:=w1) (p:=p) (o:=u) (r:=.far) hp
   have hB:B.Fr p=none:=by
    cases z:B.Fr p with
    | none=>rfl
    | some x=>have:=(R1.wd.fr p x z).1;rw [hp] at this;cases this
   cases o2 with
   | false =>
    refine ⟨B.hold p u,w1.addAs p u .far,ρ,S1,rfl,Rh,?_⟩
    cases h2:f2 ρ S1 with
    | bad=>rwa [h2] at q
    | exc c S2=>rw [h2] at q;exact fun w' R' F'=>q σ w' (R'.unhold hB) (F1.trans (fa.trans F'))
    | ok d2 S2 =>
     rw [h2] at q;intro v2 w2 R2 F2 sh2;have hpp:=R2.wd.fr p u (show (if p=p then some u else B.Fr p)=some u from if_pos rfl)
     have hfar:w2.ow p≠none:=by rw [hpp.2,show (B.hold p u).fw p=some Root.far from if_pos rfl];exact yaG _
     have fc:=zd3 (w:=w2) (p:=p) (r:=.slot i) hfar;exact ⟨.ref p,v2,rfl,q _ (w2.claim p (.slot i)) ((R2.claim hB (t1.up (fa.trans F2))).put (sh2.up fc)) (F1.trans (fa.trans (F2.trans fc)))⟩
   | true =>
    refine ⟨B.hold p u,w1.addAs p u .far,ρ,S1,rfl,Rh,?_⟩
    cases h2:f2 ρ S1 with
    | bad=>rwa [h2] at q
    | exc c S2=>rw [h2] at q;exact fun w' R' F'=>q σ w' (R'.unhold hB) (F1.trans (fa.trans F'))
    | ok d2 S2 =>
     rw [h2] at q;intro p2 u2 w2 R2 F2 hp2 t2;have hpp:=R2.wd.fr p u (show (if p=p then some u else B.Fr p)=some u from if_pos rfl)
     have hfar:w2.ow p≠none:=by rw [hpp.2,show (B.hold p u).fw p=some Root.far from if_pos rfl];exact yaG _
     have fc:=zd3 (w:=w2) (p:=p) (r:=.slot i) hfar;exact ⟨.ref p,.ref p2,rfl,q _ ((w2.claim p (.slot i)).addAs p2 u2 (.slot j)) ((R2.claim hB (t1.up (fa.trans F2))).own (w:=w2.claim p (.slot i)) hp2 (t2.up fc)) (F1.trans (fa.trans (F2.trans (fc.trans (zbl (w:=w2.claim p (.slot i)) hp2)))))⟩
end
noncomputable def zfX:Expr->Bool | .ListComp _ _ _ _=>true | .SetComp _ _ _ _=>true | .DictComp _ _ _ _ _=>true | _=>false
def zeG(h:zfX e=false):swapsWith e t l env=pure false:=by
 cases e<;>first | rfl | cases h
structure Gd(cl:Cf)(G:Genv)(k:Nat)(X:Cx)(nm:Names)(N:List Str)(E:St->XK)(zcd:Bool):Prop where
 gx:Gx cl G k X nm N E
 fn:∀x,X.fn x=true
 kind:X.env.scope.kind=.function
 sc:X.env.scope.names=nm
 own:zcd=true->PassesOwn (model X.prog X.w) X.A X.env X.xe
 raises:zcd=true->zky X E
 stk:X.stack=X.env::X.outer
 frm:X.env.frame=some X.env.locals
def zb4:Nat->Names->List Str->Expr->List Nat
 | 0,_,_,_=>[]
 | n+1,nm,N,e =>
  let rc:=zb4 n nm N
  let op:=fun (e:Expr)=>match e with | .Name _ _=>[] | e=>rc e
  match e with
  | .Name x _=>(zcA nm N x).toList
  | .Tuple es _ _=>es.flatMap rc
  | .List es _=>es.flatMap rc
  | .BinOp a _ b _=>op a++op b
  | .UnaryOp _ a _=>rc a
  | .BoolOp _ es _=>es.flatMap rc
  | .Compare a _ bs _=>op a++bs.flatMap op
  | .IfExp c a b _=>rc c++rc a++rc b
  | .Subscript a (.Slice lo hi _ _) _=>op a++lo.toList.flatMap op++hi.toList.flatMap op
  | .Subscript a i _=>op a++op i
  | .Call (.Name f _) args [] _=>if (zkt f).isSome||decide (f = "isinstance") then args.flatMap op else args.flatMap rc
  | .Call (.Attribute o _ _) args [] _=>op o++args.flatMap rc
  | .Dict _ _ _=>[]
  | .Attribute o _ _=>op o
  | .ListComp _ [g] scope _=>rc g.iter++(zaR scope.names N).map (·.2)
  | .Lambda _ _ scope _=>(zaR scope.names N).map (·.2)
  | _=>[]
def zeM(t:Tg)(f:Fe):Fs:=fun ρ S=>match f ρ S with
 | .ok d S'=>(match t.put ρ d with | some ρ'=>.nx ρ' S' | none=>.bad)
 | .exc c S'=>.ex c ρ S'
 | .bad=>.bad
noncomputable def zlo(nm:Names)(x y:Str)(px py:Pos)(a b:Expr):Bool :=
 decide (nm.lookup x=some .local)&&decide (nm.lookup y=some .local)&&decide (px.line=py.line)&&!decide (x=y)&&za4 a&&za4 b&&!([a,b].all (foldedForSure 8))&&!([a,b].all (constantsAlone 8))
noncomputable def zmC:Expr->Bool | .Constant _ _ _=>true | _=>false
noncomputable def zwE:Expr->Bool | .Name _ _=>true | .Constant _ _ _=>true | .Subscript _ _ _=>true | .BinOp _ _ _ _=>true | .Call _ _ _ _=>true | _=>false
noncomputable def zvj:Stmt->Option (List Expr×Expr×Pos) | .Assign t e p=>some (t,e,p) | _=>none
def zoO(h:zvj e=some x):e=.Assign x.1 x.2.1 x.2.2:=by cases e<;>first | (cases h;done) | (cases h;rfl)
noncomputable def zoU:Expr->Option (List Expr×Nat×Pos) | .Tuple es k p=>some (es,k,p) | _=>none
def zgn(h:zoU e=some x):e=.Tuple x.1 x.2.1 x.2.2:=by cases e<;>first | (cases h;done) | (cases h;rfl)
noncomputable def zuv:Expr->Option (Expr×Expr×Pos) | .Subscript a i p=>some (a,i,p) | _=>none
def znb(h:zuv e=some x):e=.Subscript x.1 x.2.1 x.2.2:=by cases e<;>first | (cases h;done) | (cases h;rfl)
noncomputable def lcE:Expr->Option (Expr×List Comprehension×Scope×Pos) | .ListComp elt gs scope p=>some (elt,gs,scope,p) | _=>none
def zqQ(h:lcE e=some x):e=.ListComp x.1 x.2.1 x.2.2.1 x.2.2.2:=by cases e<;>first | (cases h;done) | (cases h;rfl)
noncomputable def zss{α:Type}:List α->Option (α×α) | [a,b]=>some (a,b) | _=>none
def zme{α:Type}{l:List α}{a:α×α}(h:zss l=some a):l=[a.1,a.2]:=by
 cases l with
 | nil=>cases h
 | cons b t=>cases t with
  | nil=>cases h
  | cons c t=>cases t with
   | nil=>cases h;rfl
   | cons _ _=>cases h
def ztQ(G:Genv)(rc:Rec)(nm:Names)(N:List Str)(x:Str)(e:Expr):Option Fs :=
 (tgI true nm N N.length x).bind fun i=>match lcE e with
  | some c=>(zjk c.2.1).bind fun g=>(zin G rc nm N c.1 g c.2.2.1).bind fun f=>some (zbj i true f)
  | none=>if zfX e then none else (rc nm N e).bind fun p=>some (zbj i p.1 p.2)
def zwS(rc:Rec)(nm:Names)(N:List Str)(t:List Expr×Nat×Pos)(vs:List Expr)(e:Expr):Option Fs:=(tgG true nm N N.length (.Tuple t.1 t.2.1 t.2.2)).bind fun t=>(shE rc nm N e).bind fun f=>some (zeM t f)
def ztP(rc:Rec)(nm:Names)(N:List Str)(t:List Expr×Nat×Pos)(e:Expr):Option Fs:=match zoU e with
 | some v=>if ztJ nm t.1 then zwS rc nm N t v.1 e else (zss t.1).bind fun xy=>(nmF xy.1).bind fun x=>(nmF xy.2).bind fun y=>(zss v.1).bind fun ab =>
  if zlo nm x.1 y.1 x.2 y.2 ab.1 ab.2 then (tgI true nm N N.length x.1).bind fun i=>(tgI true nm N N.length y.1).bind fun j=>if i=j then none else (rc nm N ab.1).bind fun p=>(rc nm N ab.2).bind fun q=>some (zsS i j p.1 p.2 q.1 q.2)
  else if zmC ab.1&&zmC ab.2 then (tgG true nm N N.length (.Tuple t.1 t.2.1 t.2.2)).bind fun t=>(shE rc nm N e).bind fun f=>some (zeM t f) else none
 | none=>(tgG true nm N N.length (.Tuple t.1 t.2.1 t.2.2)).bind fun t=>(shE rc nm N e).bind fun f=>some (zeM t f)
def ztS(rc:Rec)(nm:Names)(N:List Str)(x:Str)(ix e:Expr):Option Fs :=
 if zwE ix&&!zfX e then (zcA nm N x).bind fun i=>(shE rc nm N ix).bind fun k=>(shE rc nm N e).bind fun f=>some (zh6 i k f) else none
def zrJ(G:Genv)(rc:Rec)(nm:Names)(N:List Str)(q:Expr×Expr×Pos)(e:Expr):Option Fs:=(nmF q.1).bind fun x=>ztS rc nm N x.1 q.2.1 e
def zoQ(G:Genv)(rc:Rec)(nm:Names)(N:List Str)(tg e:Expr):Option Fs:=match nmF tg with
 | some x=>ztQ G rc nm N x.1 e
 | none=>match zoU tg with
  | some t=>ztP rc nm N t e
  | none=>(zuv tg).bind fun q=>zrJ G rc nm N q e
def ztR(G:Genv)(rc:Rec)(nm:Names)(N:List Str)(tg e:Expr):Option Fs:=zoQ G rc nm N tg e
structure Mc where
 x:Str
 px:Pos
 m:Str
 ap:Pos
 a:Expr
 cp:Pos
def zlv(e:Expr):Option Mc:=(zlX e).bind fun c=>if c.2.2.1.isEmpty then (zvi c.1).bind fun t=>(nmF t.1).bind fun x=>(zjk c.2.1).bind fun a=>some ⟨x.1,x.2,t.2.1,t.2.2,a,c.2.2.2⟩ else none
def zj3(G:Genv)(rc:Rec)(nm:Names)(N:List Str)(e:Expr):Option Fs:=match zlv e with
 | some c=>if decide (c.m = "append")&&(c.ap.endLine == c.cp.line) then (zcA nm N c.x).bind fun i=>(shE rc nm N c.a).bind fun f=>some (zmo i f)
  else if decide (c.m = "extend")&&(c.ap.endLine == c.cp.line) then (zcA nm N c.x).bind fun i=>(opE rc nm N c.a).bind fun f=>some (zpW i f) else if zfX e then none else (shE rc nm N e).map zrW
 | none=>if zfX e then none else (shE rc nm N e).map zrW
def zrk(G:Genv)(rc:Rec)(nm:Names)(N:List Str)(e:Expr):Option Fs:=zj3 G rc nm N e
def zsV(rc:Rec)(nm:Names)(N:List Str)(own:Bool)(e:Expr):Option Fs:=match own with
 | true=>(match e with
  | .Name x _=>(zcA nm N x).map zi1
  | e=>(rc nm N e).bind fun p=>if p.1 then some (za9 p.2) else none)
 | false=>(shE rc nm N e).map za9
def rzG(G:Genv)(rc:Rec)(nm:Names)(N:List Str)(zcd:Bool)(a b:Option Expr):Option Fs:=if b.isNone then a.bind fun e=>(zlX e).bind fun c=>(nmF c.1).bind fun x=>if c.2.2.1.isEmpty&&!c.2.1.isEmpty&&zcd&&zbR nm x.1&&G.exc x.1 then (shL rc nm N c.2.1).bind fun fs=>some (sRz x.1 fs) else none else none
def zup(G:Genv)(rs:Bool->List Stmt->Option Fs)(nm:Names)(N:List Str)(body:List Stmt):ExceptHandler->Option Fs
 | .ExceptHandler t n b _=>t.bind fun te=>(nmF te).bind fun C=>n.bind fun nn=>(zjk b).bind fun st=>(zvj st).bind fun as=>(zjk as.1).bind fun tg=>(nmF tg).bind fun m=>(nmF as.2.1).bind fun n' =>
  if zbR nm C.1&&G.exc C.1&&decide (nn=n'.1)&&decide (nm.lookup nn=some .local)&&zfK nn then (idx N nn).bind fun i=>(tgI true nm N N.length m.1).bind fun j=>if i=j then none else (rs false body).bind fun b=>some (zpU G.und C.1 i j b) else none
def zst(G:Genv)(rs:Bool->List Stmt->Option Fs)(nm:Names)(N:List Str)(body:List Stmt)(hs:List ExceptHandler)(es fs:List Stmt):Option Fs:=if es.isEmpty&&fs.isEmpty then (zjk hs).bind fun h=>zup G rs nm N body h else none
def stG(G:Genv)(rc:Rec)(rs:Bool->List Stmt->Option Fs)(nm:Names)(N:List Str)(own zcd:Bool)(st:Stmt):Option Fs:=match st with
 | .Pass _=>some sNx
 | .Assign ts e _=>(zjk ts).bind fun tg=>ztR G rc nm N tg e
 | .Expr e _=>zrk G rc nm N e
 | .Return o _=>(match o with | some e=>zsV rc nm N own e | none=>if own then none else some znt)
 | .If c a b _=>if zbq c then (shE rc nm N c).bind fun f=>(rs zcd a).bind fun g=>(rs zcd b).bind fun h=>some (sIf f g h) else none
 | .For tg it body el _=>if zcd&&el.isEmpty then (zih G rc nm N tg it).bind fun i=>(tgG true nm N N.length tg).bind fun t=>(rs zcd body).bind fun b=>some (zhi t i b) else none
 | .Raise a b _=>rzG G rc nm N zcd a b
 | .Try body hs es fs _=>zst G rs nm N body hs es fs
 | _=>none
def znJ(n:Nat)(own:Bool)(nm:Names)(N:List Str):Stmt->List Nat
 | .Assign [_] e _=>zb4 n nm N e
 | .Expr (.Call (.Attribute _ _ _) args [] _) _=>args.flatMap (zb4 n nm N)
 | .Expr e _=>zb4 n nm N e
 | .Return (some (.Name x p)) _=>if own then [] else zb4 n nm N (.Name x p)
 | .Return (some e) _=>zb4 n nm N e
 | .If c _ _ _=>zb4 n nm N c
 | .For _ it _ _ _=>zb4 n nm N it
 | .While c _ _ _=>zb4 n nm N c
 | _=>[]
def blk(ds:Stmt->Option Fs):List Stmt->Option Fs
 | []=>some sNx
 | s::r=>(ds s).bind fun f=>(blk ds r).bind fun g=>some (zae f g)
def zlR(G:Genv)(own:Bool):Nat->Bool->Names->List Str->Stmt->Option Fs
 | 0,_,_,_,_=>none
 | n+1,zcd,nm,N,st=>(stG G (ztG G n) (fun fl b=>blk (zlR G own n fl nm N) b) nm N own zcd st).map (sFz (znJ n own nm N st))
section
variable{cl:Cf}{G:Genv}{k:Nat}{rc:Rec}{X:Cx}{nm:Names}{N:List Str}{E:St->XK}{own zcd:Bool}
def Gd.sto(g:Gd cl G k X nm N E zcd):Sto' X nm true:=⟨fun _ x _=>g.fn x⟩
def zh2:∃b,swapsWith (.ListComp elt gs scope p) (some (.Name x px)) l env=pure b:=⟨_,rfl⟩
def zkw(q:tS cl E own (zeM t f) De σ H):zna (tE cl E f) (tG cl n t) De σ H:=by
 obtain ⟨B,w,ρ,S,rfl,R,q⟩:=q;refine ⟨B,w,ρ,S,rfl,R,?_⟩;unfold zeM at q
 cases hf:f ρ S with
 | bad=>rwa [hf] at q
 | exc c S1=>rw [hf] at q;exact fun w' R' F'=>q σ w' R' F'
 | ok d S1 =>
  rw [hf] at q;intro v w' R' F' h';dsimp only at q
  cases hp:t.put ρ d with
  | none=>rw [hp] at q;exact q.elim
  | some ρ'=>rw [hp] at q;exact ⟨B,w',ρ,S1,d,ρ',rfl,R',h',hp,fun σ' _ _ R2=>q σ' w' R2 F'⟩
def zqs(hk:X.env.scope.kind=.function)(hs:X.env.scope.names=nm)(h:zlo nm x y px py a b=true) :
  swappedStores [.Tuple [.Name x px,.Name y py] kt pt] (.Tuple [a,b] k2 pt2) X.env=pure (some [x,y]):=by
 unfold zlo at h;simp only [yab,yaA,ya8,ycc] at h;obtain ⟨⟨⟨⟨⟨⟨⟨h1,h2⟩,h3⟩,h4⟩,h5⟩,h6⟩,h7⟩,h8⟩:=h
 have hb:X.env.blockKind=.function:=by unfold Env.blockKind;rw [hk];rfl
 have k1:X.env.kindOf x=some .local:=by unfold Env.kindOf;rw [hs];exact h1
 have k2':X.env.kindOf y=some .local:=by unfold Env.kindOf;rw [hs];exact h2
 have st:([a,b].any fun | .Starred ..=>true | _=>false)=false:=by
  rw [List.any_eq_false];intro e he
  have hp:za4 e=true:=by
   rcases yao.mp he with z | z
   ·rw [z];exact h5
   ·rw [yaD.mp z];exact h6
  cases e<;>first | (cases hp;done) | (intro z;cases z)
 have ed:[x,y].eraseDups.length=2:=by
  have:(y == x)=false:=by rw [ycu];exact fun z=>h4 z.symm
  simp [List.eraseDups_cons,this]
 unfold swappedStores;simp only [hb,st];simp [k1,k2',h3,h7,h8,ed,show (Expr.Name x px).pos=px from rfl,show (Expr.Name y py).pos=py from rfl];intro z;exfalso
 rcases z with z | z
 ·cases a<;>first | (cases h5;done) | cases z
 ·cases b<;>first | (cases h6;done) | cases z
def zlU(hs:za8 cl G k rc)(g:Gd cl G k X nm N E zcd)(hi:tgI true nm N N.length x=some i)(h:zin G rc nm N elt gg scope=some f) :
  PS X (.Assign [.Name x px] (.ListComp elt [gg] scope p) pos) (tS cl E own (zbj i true f)):=by
 obtain ⟨a1,a2,a3,a4,a5⟩:=zdG g.gx g.sto hi;obtain ⟨b,hb⟩:=zh2 (elt:=elt) (gs:=[gg]) (scope:=scope) (p:=p) (px:=px) (x:=x) (l:=pos.line) (env:=X.env)
 cases b with
 | false=>exact ziP a2 a3 a4 (zkf hs g.gx h) hb a5
 | true =>
  obtain ⟨it,t,c,el,rfl,eg,S,i1,i2,i3,i4,i5⟩:=zet hs g.gx h;rw [eg] at hb ⊢;refine PS.imp (zk8 g.gx.calm S a2 a3 a4 i1 i3 i4 i5 hb a5 (zeS i2)) ?_;intro De σ H q;exact zmN (zrI q)
def zrr{x y:Str}{px py pt pt2 p1 p2:Pos}{kt k2:Nat}{a b:Const}{ka kb:Nat}{env:PySem.Env}:swappedStores [.Tuple [.Name x px,.Name y py] kt pt] (.Tuple [.Constant a ka p1,.Constant b kb p2] k2 pt2) env=pure none:=by
 have hf:∀(c:Const) (k:Nat) (p:Pos),foldedForSure 8 (.Constant c k p)=true:=fun _ _ _=>rfl
 unfold swappedStores;simp only [ya5,List.all_nil,hf,ycU,ybK]
 split<;>first | rfl | (split<;>first | rfl | (split<;>rfl))
def zpq:swapsWithSole [.Subscript a i p] e l env=pure false:=by cases e<;>rfl
def zpt:swappedStores [.Subscript a i p] e env=pure none:=by cases e<;>rfl
def zpp:swapsWithSole [.Tuple es kk p] e l env=pure false:=by cases e<;>rfl
def zps(h:zoU e=none):swappedStores [.Tuple es kk p] e env=pure none:=by cases e<;>first | rfl | cases h
def zoP(hs:za8 cl G k rc)(g:Gd cl G k X nm N E zcd)(h:ztQ G rc nm N x e=some f):PS X (.Assign [.Name x px] e pos) (tS cl E own f):=by
 unfold ztQ at h;obtain ⟨i,h1,h⟩:=zaa h
 cases hl:lcE e with
 | some c =>
  rw [hl] at h;obtain ⟨gg,h2,h⟩:=zaa h;obtain ⟨fe,h3,h⟩:=zaa h;cases h;rw [zqQ hl,zcR h2];exact zlU hs g h1 h3
 | none =>
  rw [hl] at h;dsimp only at h;split at h
  ·cases h
  ·rename_i hc;obtain ⟨⟨o,fe⟩,h2,h⟩:=zaa h;cases h;obtain ⟨a1,a2,a3,a4,a5⟩:=zdG g.gx g.sto h1;obtain ⟨b1,b2,_,_⟩:=hs X nm N E g.gx _ o fe h2;have sw:=zeG (t:=some (.Name x px)) (l:=pos.line) (env:=X.env) (by simpa using hc)
   cases o with
   | false=>exact zpA a2 a3 a4 b2 sw a5
   | true=>exact ziP a2 a3 a4 (b1 rfl) sw a5
def zoN(hs:za8 cl G k rc)(g:Gd cl G k X nm N E zcd)(h:ztP rc nm N t e=some f):PS X (.Assign [.Tuple t.1 t.2.1 t.2.2] e pos) (tS cl E own f):=by
 have tupCase:swappedStores [.Tuple t.1 t.2.1 t.2.2] e X.env=pure none->((tgG true nm N N.length (.Tuple t.1 t.2.1 t.2.2)).bind fun t=>(shE rc nm N e).bind fun f=>some (zeM t f))=some f->PS X (.Assign [.Tuple t.1 t.2.1 t.2.2] e pos) (tS cl E own f):=by
  intro sw2 h;obtain ⟨t',h1,h⟩:=zaa h;obtain ⟨fe,h2,h⟩:=zaa h;cases h;exact PS.imp (zmt (za1 hs g.gx h2).1 (zm3 g.gx g.sto h1) zpp sw2 rfl) fun _ _ _ q=>zkw q
 unfold ztP at h
 cases hv:zoU e with
 | none =>
  rw [hv] at h;exact tupCase (zps hv) h
 | some v =>
  rw [hv] at h;dsimp only at h;split at h
  ·rename_i hce;have ev:=zgn hv;refine tupCase ?_ h;rw [ev];exact zoH g.sc hce
  obtain ⟨xy,h1,h⟩:=zaa h;obtain ⟨x,h2,h⟩:=zaa h;obtain ⟨y,h3,h⟩:=zaa h;obtain ⟨ab,h4,h⟩:=zaa h;have ev:=zgn hv
  have et:t.1=[.Name x.1 x.2,.Name y.1 y.2]:=by rw [zme h1,zcb h2,zcb h3]
  rw [zme h4] at ev;obtain ⟨a,b⟩:=ab;dsimp only at h ev;split at h
  ·rename_i hp;obtain ⟨i,h1,h⟩:=zaa h;obtain ⟨j,h2,h⟩:=zaa h;split at h
   ·cases h
   ·rename_i hij;obtain ⟨⟨o1,f1⟩,h3,h⟩:=zaa h;obtain ⟨⟨o2,f2⟩,h4,h⟩:=zaa h;cases h;obtain ⟨_,a2,a3,_,_⟩:=zdG g.gx g.sto h1;obtain ⟨_,_,b3,_,_⟩:=zdG g.gx g.sto h2;obtain ⟨p1,p2,_,p4⟩:=hs X nm N E g.gx a o1 f1 h3;obtain ⟨q1,q2,_,q4⟩:=hs X nm N E g.gx b o2 f2 h4
    have hx:X.env.scope.names.lookup x.1=some .local/\X.env.scope.names.lookup y.1=some .local:=by
     unfold zlo at hp;simp only [yab,yaA] at hp;rw [g.sc];exact ⟨hp.1.1.1.1.1.1.1,hp.1.1.1.1.1.1.2⟩
    have P1:PE X a (tO cl E o1 f1):=by cases o1 with | false=>exact p2 | true=>exact p1 rfl
    have P2:PE X b (tO cl E o2 f2):=by cases o2 with | false=>exact q2 | true=>exact q1 rfl
    rw [et,ev];exact PS.imp (zp9 g.gx.calm a2 a3 b3 hij hx.1 hx.2 (zbB P1 (zbB P2 zdp (za7 (zac q4))) (za7 (zac p4))) (zqs g.kind g.sc hp) rfl) fun _ _ _ q=>zln q
  ·split at h
   ·rename_i hc;rw [yab] at hc;refine tupCase ?_ h;rw [et,ev]
    cases a<;>first | (cases hc.1;done) | (cases b<;>first | (cases hc.2;done) | exact zrr)
   ·cases h
def zoR(hs:za8 cl G k rc)(g:Gd cl G k X nm N E zcd)(h:ztS rc nm N x ix e=some f):PS X (.Assign [.Subscript (.Name x px) ix p3] e pos) (tS cl E own f):=by
 unfold ztS at h;split at h
 ·rename_i hx;rw [yab] at hx;obtain ⟨i,h1,h⟩:=zaa h;obtain ⟨fi,h2,h⟩:=zaa h;obtain ⟨fe,h3,h⟩:=zaa h;cases h;obtain ⟨s1,s2,s3,s4⟩:=g.gx.slot h1;refine zng g.gx.u1 s1 s2 s3 s4 (za1 hs g.gx h2).1 (za1 hs g.gx h3).1 zpq zpt ?_
  cases ix<;>first | (intro _;rfl) | cases hx.1
 ·cases h
def zoM(hs:za8 cl G k rc)(g:Gd cl G k X nm N E zcd){tg e:Expr}{f:Fs}{pos:Pos}(h:zoQ G rc nm N tg e=some f):PS X (.Assign [tg] e pos) (tS cl E own f):=by
 unfold zoQ at h
 cases h1:nmF tg with
 | some x=>rw [h1] at h;rw [zcb h1];exact zoP hs g h
 | none =>
  rw [h1] at h
  cases h2:zoU tg with
  | some t=>rw [h2] at h;rw [zgn h2];exact zoN hs g h
  | none =>
   rw [h2] at h;obtain ⟨q,h4,h⟩:=zaa h;rw [znb h4];unfold zrJ at h;obtain ⟨x,h6,h⟩:=zaa h;rw [zcb h6];exact zoR hs g h
def zrH(hs:za8 cl G k rc)(g:Gd cl G k X nm N E zcd)(h:ztR G rc nm N tg e=some f):PS X (.Assign [tg] e pos) (tS cl E own f):=by
 exact zoM hs g h
def zlu(h:zlv e=some c):e=.Call (.Attribute (.Name c.x c.px) c.m c.ap) [c.a] [] c.cp:=by
 unfold zlv at h;obtain ⟨c1,h1,h⟩:=zaa h;split at h
 ·rename_i hk;obtain ⟨t,h2,h⟩:=zaa h;obtain ⟨x,h3,h⟩:=zaa h;obtain ⟨a,h4,h⟩:=zaa h;cases h;rw [zfh h1,zoL h2,zcb h3,zcR h4,ybs.mp hk]
 ·cases h
def zlN(hs:za8 cl G k rc)(g:Gd cl G k X nm N E zcd){e:Expr}{f:Fs}{pos:Pos}(h:zj3 G rc nm N e=some f):PS X (.Expr e pos) (tS cl E own f):=by
 unfold zj3 at h
 cases hc:zlv e with
 | some c =>
  obtain ⟨x,px,m,ap,a,cp⟩:=c;obtain rfl:=zlu hc;rw [hc] at h;dsimp only at h;split at h
  ·rename_i hm;rw [yab] at hm;have em:=yaE hm.1;subst em;obtain ⟨i,h1,h⟩:=zaa h;obtain ⟨fe,h2,h⟩:=zaa h;cases h;obtain ⟨s1,s2,s3,s4⟩:=g.gx.slot h1;obtain ⟨a1,_,a3⟩:=za1 hs g.gx h2;exact zpB s1 s2 s3 s4 a1 (zac a3) hm.2
  split at h
  ·rename_i hm;rw [yab] at hm;have em:=yaE hm.1;subst em;obtain ⟨i,h1,h⟩:=zaa h;obtain ⟨fe,h2,h⟩:=zaa h;cases h;obtain ⟨s1,s2,s3,s4⟩:=g.gx.slot h1;obtain ⟨a1,a3⟩:=zbH hs g.gx h2;exact zpz s1 s2 s3 s4 a1 (zac a3) hm.2
  split at h
  ·cases h
  ·rename_i hc;obtain ⟨fe,h2,h⟩:=map_some h;subst h;exact zmh (za1 hs g.gx h2).1 (zeG (by simpa using hc))
 | none =>
  rw [hc] at h;dsimp only at h;split at h
  ·cases h
  ·rename_i hc;obtain ⟨fe,h2,h⟩:=map_some h;subst h;exact zmh (za1 hs g.gx h2).1 (zeG (by simpa using hc))
def zoz(hs:za8 cl G k rc)(g:Gd cl G k X nm N E zcd)(h:zrk G rc nm N e=some f):PS X (.Expr e pos) (tS cl E own f):=by
 exact zlN hs g h
def zp0(hs:za8 cl G k rc)(g:Gd cl G k X nm N E zcd)(h:zsV rc nm N own e=some f):PS X (.Return (some e) pos) (tS cl E own f):=by
 unfold zsV at h;split at h
 ·split at h
  ·obtain ⟨i,h1,h⟩:=map_some h;subst h;obtain ⟨s1,s2,s3,s4⟩:=g.gx.slot h1;exact znd s1 s2 s3 s4
  ·obtain ⟨⟨o,fe⟩,h1,h⟩:=zaa h;dsimp only at h;split at h
   ·rename_i ho;cases h;exact zne ((hs X nm N E g.gx _ o fe h1).1 ho)
   ·cases h
 ·obtain ⟨fe,h2,h⟩:=map_some h;subst h;exact zpw (za1 hs g.gx h2).1
def zpa(g:Gd cl G k X nm N E zcd)(pins:Z3)(E':St->XK):Gd cl G k (zmf X pins E') nm N E' false where
 gx:=⟨g.gx.gok,g.gx.room,g.gx.calm,fun pins' σ H s e s' I q=>⟨σ,H,s,zcj I,q⟩,g.gx.eN,g.gx.kk,g.gx.pp,g.gx.ww,g.gx.nd,g.gx.vis,g.gx.fnx,fun c h=>g.gx.cod c h,fun x h=>g.gx.fnc x h⟩
 fn:=g.fn
 kind:=g.kind
 sc:=g.sc
 own:=fun z=>by cases z
 raises:=fun z=>by cases z
 stk:=g.stk
 frm:=g.frm
def zsJ(hs:za8 cl G k rc){rs:Bool->List Stmt->Option Fs}(hr:∀(fl:Bool) (X:Cx) (E:St->XK),Gd cl G k X nm N E fl->∀b f,rs fl b=some f->PSs X b (tS cl E own f))(g:Gd cl G k X nm N E zcd){st:Stmt}{f:Fs}(h:stG G rc rs nm N own zcd st=some f):PS X st (tS cl E own f):=by
 cases st with
 | Pass p=>cases h;exact znh
 | Assign ts e p =>
  obtain ⟨tg,h1,h⟩:=zaa (show ((zjk ts).bind fun tg=>ztR G rc nm N tg e)=some f from h);obtain rfl:=zcR h1;exact zrH hs g h
 | Expr e p=>exact zoz hs g h
 | Return o p =>
  cases o with
  | some e=>exact zp0 hs g h
  | none =>
   have h':(if own then none else some znt)=some f:=h;split at h'
   ·cases h'
   ·rename_i ho;cases h'
    have:own=false:=by simpa using ho
    subst this;exact znf
 | If c a b p =>
  have h':(if zbq c then (shE rc nm N c).bind fun f=>(rs zcd a).bind fun g=>(rs zcd b).bind fun h=>some (sIf f g h) else none)=some f:=h;split at h'
  ·rename_i ht;obtain ⟨fc,h1,h⟩:=zaa h';obtain ⟨fa,h2,h⟩:=zaa h;obtain ⟨fb,h3,h⟩:=zaa h;cases h;exact zsK ((za1 hs g.gx h1).2.1 ht) (hr zcd X E g a fa h2) (hr zcd X E g b fb h3)
  ·cases h'
 | For tg it body el p =>
  have h':(if zcd&&el.isEmpty then (zih G rc nm N tg it).bind fun i=>(tgG true nm N N.length tg).bind fun t=>(rs zcd body).bind fun b=>some (zhi t i b) else none)=some f:=h;split at h'
  ·rename_i hf;rw [yab] at hf;obtain rfl:=ybs.mp hf.2;obtain ⟨it,h1,h⟩:=zaa h';obtain ⟨t,h2,h⟩:=zaa h;obtain ⟨fb,h3,h⟩:=zaa h;cases h;obtain ⟨i1,i2⟩:=zjK hs g.gx (tg:=_) h1;exact zpy (g.own hf.1) g.gx.calm i1 (zm3 g.gx g.sto h2) (hr zcd X E g _ fb h3) (zeS i2)
  ·cases h'
 | Raise ea eb p =>
  have h':rzG G rc nm N zcd ea eb=some f:=h;unfold rzG at h';split at h'
  ·rename_i hb;obtain rfl:=Option.isNone_iff_eq_none.mp hb;obtain ⟨e0,e1,hz⟩:=zaa h';obtain ⟨c0,h1,hy⟩:=zaa hz;obtain ⟨⟨c,p⟩,h2,hx⟩:=zaa hy;have e2:=zfh h1;obtain ⟨fn,args,kws,cp⟩:=c0;have e3:fn=.Name c p:=zcb h2;clear h h' hz hy h1 h2;subst e1;subst e2;subst e3;dsimp only at hx ⊢;split at hx
   ·rename_i hf;simp only [yab] at hf;obtain ⟨⟨⟨⟨k0,a0⟩,f0⟩,g0⟩,x0⟩:=hf;obtain rfl:=ybs.mp k0
    cases args with
    | nil=>cases a0
    | cons e es =>
    obtain ⟨fs,h1,h⟩:=zaa hx;cases h;obtain ⟨g1,g2,_⟩:=g.gx.glob g0;obtain ⟨m,z⟩:=g.gx.gok.exc c x0;obtain ⟨a1,a2,_⟩:=zfx hs g.gx h1;rw [ya5,yab] at a2;refine PS.imp (zjb (g.raises f0) g.gx.calm g1 m z a1 (za7 a2.1) (zci a2.2) g2) ?_;rintro De σ H ⟨B,w,ρ,S,rfl,R,q⟩;refine ⟨B,w,ρ,S,rfl,R,?_⟩;unfold sRz at q
    cases hv:zao fs ρ S with
    | bad=>rwa [hv] at q
    | exc c S1=>rw [hv] at q;exact fun w' R' F'=>q σ w' R' F'
    | ok ds S1 =>
     rw [hv] at q;dsimp only at q
     cases hz:small ds.length with
     | false=>rw [hz,if_neg (by decide)] at q;exact q.elim
     | true =>
      rw [hz,if_pos rfl] at q;exact fun vs w' R' F' sh=>⟨by rw [sh.length];exact zaA hz,q σ w' R' F'⟩
   ·cases hx
  ·cases h'
 | Try body hs' es' fs' p =>
  have h':zst G rs nm N body hs' es' fs'=some f:=h;unfold zst at h';split at h'
  ·rename_i he;rw [yab] at he;obtain rfl:=ybs.mp he.1;obtain rfl:=ybs.mp he.2;obtain ⟨hd,h1,hz⟩:=zaa h';have e1:=zcR h1;clear h h' h1;subst e1;obtain ⟨ty,nn,bb,hp⟩:=hd;unfold zup at hz;obtain ⟨te,e2,hz⟩:=zaa hz;obtain ⟨⟨C,np⟩,h2,hz⟩:=zaa hz;obtain ⟨n,e3,hz⟩:=zaa hz;obtain ⟨st,h3,hz⟩:=zaa hz;obtain ⟨⟨ts,v,ap⟩,h4,hz⟩:=zaa hz;obtain ⟨tg,h5,hz⟩:=zaa hz;obtain ⟨⟨m,mp⟩,h6,hz⟩:=zaa hz;obtain ⟨⟨n',n'p⟩,h7,h⟩:=zaa hz;rw [e2,e3,zcb h2,zcR h3,zoO h4];dsimp only at h5 h7 h ⊢;rw [zcR h5,zcb h6,zcb h7];dsimp only;split at h
   ·rename_i hc;simp only [yab,yaA] at hc;obtain ⟨⟨⟨⟨c1,c2⟩,c3⟩,c4⟩,c5⟩:=hc;subst c3;obtain ⟨i,h1,h⟩:=zaa h;obtain ⟨j,h2,h⟩:=zaa h;split at h
    ·cases h
    ·rename_i hij;obtain ⟨fb,h3,h⟩:=zaa h;cases h;obtain ⟨g1,g2,_⟩:=g.gx.glob c1;obtain ⟨mC,zC⟩:=g.gx.gok.exc C c2;obtain ⟨o1,o2,_⟩:=zdT c5
     have hnl:X.env.scope.names.lookup n=some .local:=by rw [g.sc];exact c4
     have hNi:X.N[i]?=some n:=by rw [g.gx.eN];exact zd2 h1
     obtain ⟨_,a2,a3,a4,a5⟩:=zdG g.gx g.sto h2;refine PS.imp (znD (tb:=fun E'=>tS cl E' own fb) g.stk g.frm (by rw [g.gx.eN];exact g.gx.nd) hNi hnl g1 mC zC (by decide +kernel) (fun pins E'=>hr false _ E' (zpa g pins E') _ fb h3) (fun a=>znB (zi9 (X:=X.inH a) a2 a3 a4 (zdo (X:=X.inH a) hNi (.inl hnl) o1 o2) rfl a5)) g2) ?_;intro De σ H q;exact zkK hij (fun c hc'=>g.gx.gok.und c C hc') q
   ·cases h
  ·cases h'
 | _=>cases h
theorem zku(hd:∀st f,ds st=some f->PS X st (tS cl E own f)):∀{b:List Stmt} {f:Fs},blk ds b=some f->PSs X b (tS cl E own f)
 | [],f,h=>by cases h;exact zpx
 | s::r,f,h=>by
  unfold blk at h;obtain ⟨f1,h1,h⟩:=zaa h;obtain ⟨f2,h2,h⟩:=zaa h;cases h;exact zni (hd s f1 h1) (zku hd h2)
theorem zhP:∀(n:Nat) (fl:Bool) (X:Cx) (E:St->XK),Gd cl G k X nm N E fl->∀st f,zlR G own n fl nm N st=some f->PS X st (tS cl E own f)
 | 0,_,_,_,_,_,_,h=>by cases h
 | n+1,fl,X,E,g,st,f,h=>by
  unfold zlR at h;obtain ⟨f1,h1,h⟩:=map_some h;subst h;exact zsL _ (zsJ (zmI n) (fun fl X E g b f hb=>zku (fun st f hst=>zhP n fl X E g st f hst) hb) g h1)
end
noncomputable def zcg(nN:Nat)(own:Bool)(fs:Fs)(ds:List D)(S:Sto):Out D:=match fs (ds.map (fun d=>some (false,d))++List.replicate (nN-ds.length) none) S with
 | .rt d S'=>.ok d S'
 | .nx _ S'=>if own then .bad else .ok .non S'
 | .ex c _ S'=>.exc c S'
 | _=>.bad
def zmJ(G:Genv)(own:Bool)(N:List Str)(st:Stmt):Option Fs:=blk (zlR G own 40 true (zaF st).names N) (zbG st)
theorem zrf{P:Program}{wo:PySem.World}{K:PySem.W.Frag}{mg:Z6}{base:Heap}{cl:Cf}{G:Genv}{k:Nat}{x qual:Str}{st:Stmt}{f:Addr}{fd:FuncData}{N ps:List Str}{own:Bool}{fs:Fs}(F:Fun K x qual st f fd)(S:FnScope N ps (zaF st))(hG:GOk cl G P wo K mg base k)
  (hk:K=cl.K) (hP:P=cl.P) (hW:wo=cl.wo) (hd:zmJ G own N st=some fs) (hc:G.cod=none:=by rfl):FnOk P wo K mg base (CXE P wo) (k+1) f fd ps (zkR cl ps.length own (zcg N.length own fs)):=by
 obtain ⟨oc,od,kV,doc,pm,an,cdv,ct,osl,rfl,lk,hcd⟩:=F.ex;refine ztB lk hcd S (fun vs H Q E h=>h.1) fun A outer s H vs Q E hr hsp=>?_
 refine ⟨tS cl (fun _=>E) own fs,?_,?_⟩
 ·have g:Gd cl G k (zkD (CXE P wo) P wo K mg base N qual (zaF st) f cdv A outer s H E) (zaF st).names N (fun _=>E) true :=
   ⟨⟨hG,hr,rfl,fun pins σ H1 s1 e s' I q=>zs5 pins σ H1 s1 e s' I q,rfl,hk,hP,hW,S.nd,fun x kd h=>⟨kd,h,.inl rfl⟩,(fun x h=>h),(fun c h=>by rw [hc] at h;cases h),(fun x h=>rfl)⟩,fun _=>rfl,S.kind,rfl,fun _=>PassesOwn.leaving,fun _ C pins σ H1 s1 e h' vs I mk q=>znv C pins σ H1 s1 e h' vs I mk q,rfl,rfl⟩
  exact zku (fun st f hst=>zhP 40 true _ _ g st f hst) hd
 ·obtain ⟨hl,B,w,ds,S0,rfl,W,sh,q⟩:=hsp;have hdl:ds.length=vs.length:=sh.length.symm;refine ⟨B,w,ds.map (fun d=>some (false,d))++List.replicate (N.length-ds.length) none,S0,rfl,⟨W,?_,fun i o d hi=>?_⟩,?_⟩
  ·unfold L2.zeI;rw [yar,yar,yac,yac,yaL,yaL,hdl]
  ·by_cases hlt:i<ds.length
   ·rw [ya4 (by rw [yac];exact hlt),yav] at hi
    cases hdi:ds[i]? with
    | none=>rw [hdi] at hi;cases hi
    | some d' =>
     rw [hdi] at hi;cases hi;obtain ⟨v,e1,e2⟩:=sh.at hdi;refine ⟨v,?_,e2⟩;unfold L2.zeI;rw [ya4 (by rw [yac];omega),yav,e1];rfl
   ·rw [ybe (by rw [yac];omega),ybB] at hi
    split at hi<;>cases hi
  ·unfold zcg at q
   cases hf:fs (ds.map (fun d=>some (false,d))++List.replicate (N.length-ds.length) none) S0 with
   | bad=>rwa [hf] at q
   | bk _ _=>rw [hf] at q;exact q.elim
   | ct _ _=>rw [hf] at q;exact q.elim
   | rt d S'=>rwa [hf] at q
   | ex c ρ' S'=>rw [hf] at q;exact fun σ' w' R' F'=>q w' R'.wd F'
   | nx ρ' S' =>
    rw [hf] at q;dsimp only at q
    cases own with
    | true=>exact q.elim
    | false=>exact fun σ' w' R' F'=>q .non w' R'.wd F' .non
end S2
namespace L2
open PySem PySem.Spec PyProof.Rows
noncomputable def zmb(tabs:List (Addr×Addr))(H:Hp):Prop:=∀b,H b=none\/(∃o xs,H b=some (.frz o (.lst xs)))\/(H b=some (.tbl #[])/\b∈tabs.map (·.2))
def zjy{P:Program}{w:World}{K:PySem.W.Frag}{mg mb:Z6}{CX:CXT}{k:Nat}{fa a:Addr}{fd:FuncData}{x:Str}{sp:Sp}{s₁:Shared}{vs:List Value}{ns:List Int}{tabs:List (Addr×Addr)}
  (KX:K.In s₁.heap) (hns:s₁.heap.Ns mainGlobals mg) (hb:s₁.heap.Ns builtinsNs mb) (hbb:∀x:Str,x ≠ "__name__" -> mb x=bootBuiltins x) (hlim:s₁.heap.NoLimit) (hg:s₁.gens=#[])
  (ha:s₁.heap.get? a=some { cls:=.type "list",data:=.seq vs.toArray }) (hi:IntsAre vs ns) (hl:ns.length<=sizeLine) (hr:Room k callerA)
  (hT:PySem.W.TabsAt tabs s₁.heap) (hnt:PySem.W.noTabs K=true) (hbm:zo0 mg s₁.heap)
  (F:∀base:Heap,K.In base->base.Ns mainGlobals mg->zo0 mg base->(∀q∈tabs,PySem.W.CodeHd base q.1 q.2)->FnOk P w K mg base CX k fa fd [x] sp) (hbind:∀(s:Shared) (u:Value),BindsTo s fd ⟨[u],[]⟩ [(x,u)])
  (hsp:∀H:Hp,zmb tabs H->(∀q∈tabs,H q.2=some (.tbl #[]))->(∀q∈tabs,q.2≠a)->SqL K H a (ns.map V.int)->sp [.ref a] H (fun v _=>v=.bl true) fun _ _ _=>False)
  (hCX:∀H e s',CX [] H s₁ (fun _ _ _=>False) e s'->False) :
  codeAny (model P w) callerA (.call (.ref fa) ⟨[.ref a],[]⟩) (fun r s'=>r=.ok (.ret (.bool true))/\OldK s₁.heap s'.heap/\s'.os=s₁.os/\AllBare s'.gens) s₁:=by
 have rv:=zfo hi;have lenV:=hi.length
 have tP:∀b∈tabs.map (·.2),s₁.heap.get? b=some (PySem.W.tabObj #[]):=fun b hb=>by
  obtain ⟨q,hq,rfl⟩:=yad.mp hb;exact (hT q hq).2
 have na:a ∉ tabs.map (·.2):=fun z=>by have e:=tP a z;rw [ha] at e;cases e
 have tK:∀b∈tabs.map (·.2),K.lookup b=none:=fun b hb=>by
  cases e:K.lookup b with
  | none=>rfl
  | some o =>
   have e1:=KX b o e;rw [tP b hb] at e1;cases e1;have h2:=yaS.mp hnt _ (PySem.W.mem_of_lookupK e);exact absurd (show false=true from h2) yaU
 have core:∀H:Hp,zmb tabs H->(∀q∈tabs,H q.2=some (.tbl #[]))->SqL K H a (ns.map V.int)->HOk P w H s₁.heap->(∀b,H b≠none->b=a\/b∈tabs.map (·.2))->(H a≠none->K.lookup a=none) →
   codeAny (model P w) callerA (.call (.ref fa) ⟨[.ref a],[]⟩) (fun r s'=>r=.ok (.ret (.bool true))/\OldK s₁.heap s'.heap/\s'.os=s₁.os/\AllBare s'.gens) s₁:=by
  intro H hO hTb hS hok hA hK;have zcq:∀{b:Addr} {o:Obj},s₁.heap.get? b=some o->H b=none->(zjU s₁.heap H).get? b=some o:=fun e n=>zlI e n
  have noX:∀{b:Addr} {o:Obj},s₁.heap.get? b=some o->(∀its n,o.data≠.seq its n)->o≠PySem.W.tabObj #[]->H b=none:=fun {b o} e d d2=>by
   cases q:H b with
   | none=>rfl
   | some u =>
    rcases hA b (by rw [q];simp) with e' | e'
    ·subst e';rw [ha] at e;cases e;exact absurd rfl (d _ _)
    ·rw [tP b e'] at e;cases e;exact absurd rfl d2
  have noA:∀{b:Addr} {o:Obj} {es:Array DictEntry} {ep:Nat},s₁.heap.get? b=some o->o.data=.dict es ep->H b=none:=fun {b o es ep} e d=>noX e (fun _ _ z=>by rw [d] at z;cases z) (fun z=>by rw [z] at d;cases d)
  have nsK:∀{b:Addr} {m:Z6},s₁.heap.Ns b m->(zjU s₁.heap H).Ns b m:=fun {b m} ⟨o,es,ep,e,d,r⟩=>⟨o,es,ep,zcq e (noA e d),d,r⟩
  have hKb:K.In (zjU s₁.heap H):=fun b o e=>zcq (KX b o e) (by
   cases q:H b with
   | none=>rfl
   | some u =>
    rcases hA b (by rw [q];simp) with e' | e'
    ·subst e';rw [hK (by rw [q];simp)] at e;cases e
    ·rw [tK b e'] at e;cases e)
  have hBm:zo0 mg (zjU s₁.heap H):=by
   obtain ⟨bm,ob,b1,b2,b3,b4,b5,b6⟩:=hbm;exact ⟨bm,ob,b1,b2,zcq b3 (noX b3 (fun _ _ z=>by rw [b6] at z;cases z) (fun z=>by rw [z] at b6;cases b6)),b4,b5,b6⟩
  have hCd:∀q∈tabs,PySem.W.CodeHd (zjU s₁.heap H) q.1 q.2:=fun q hq=>by
   obtain ⟨o,us,file,tf,flags,tg,inF,text,tt,e,r1,r2,r⟩:=(hT q hq).1;exact ⟨o,us,file,tf,flags,tg,inF,text,tt,zcq e (noX e (fun _ _ z=>by rw [r2] at z;cases z) (fun z=>by rw [z] at r1;cases r1)),r1,r2,r⟩
  have hM:Mod K mg (zjU s₁.heap H):=⟨hKb,nsK hns,⟨mb,nsK hb,hbb⟩,let ⟨mc,h1,h2⟩:=hlim;⟨mc,nsK h1,h2⟩⟩;have e0:Env0 P w K mg (zjU s₁.heap H) callerA [] s₁ H:=⟨rfl,hM,fun b o e=>znW e,Nat.le_of_eq (zjT _ _),trivial,fun b hb=>absurd (show b∈([]:List Addr) from hb) (by simp),hok,.of_eq hg⟩;refine ycF ((F _ hKb (nsK hns) hBm hCd).run callerA [] s₁ H ⟨[.ref a],[]⟩ [.ref a] [.ref a] _ _ hr e0 (hbind s₁ (.ref a)) (.cons rfl .nil) (hsp H hO hTb (fun q hq z=>na (z ▸ ybh hq)) hS)) fun r s' h=>?_
  cases r with
  | error e=>exact (hCX H e s' h).elim
  | ok fl =>
   cases fl with
   | next=>exact False.elim h
   | brk=>exact False.elim h
   | cont=>exact False.elim h
   | ret u =>
    obtain ⟨v,H',os,bare,un,hok',r',q⟩:=h;have q':v=.bl true:=q;subst q';obtain rfl:u=Value.bool true:=r';refine ⟨rfl,⟨fun b o e=>?_,fun b o e=>un.there b o e (by simp)⟩,os,bare⟩
    cases q:H b with
    | none=>exact .inl (un.keep b o e q (by intro z;exact absurd (show b∈([]:List Addr) from z) (by simp)) (by simp))
    | some u =>
     rcases hO b with z | ⟨ob,xs,z⟩ | ⟨z,hb⟩
     ·rw [q] at z;cases z
     ·have z2:=un.frzs b ob _ z;obtain ⟨e1,_⟩:=hok b _ z;obtain ⟨e2,_⟩:=hok' b _ z2;rw [e] at e1;cases e1;exact .inl e2
     ·obtain ⟨more,z2⟩:=un.tbls b _ z;have e2:s'.heap.get? b=some (PySem.W.tabObj (#[]++more)):=hok' b _ z2;have e1:=tP b hb;rw [e] at e1;cases e1;obtain ⟨p,hp,rfl⟩:=yad.mp hb;exact .inr (.inl ⟨((hT p hp).1.tab (hT p hp).2).isCodeTable,rfl,#[],more,rfl,e2⟩)
 have hTO:∀(H0:Hp),HOk P w H0 s₁.heap->(∀b,H0 b≠none->b=a)->HOk P w (fun b=>if b∈tabs.map (·.2) then some (.tbl #[]) else H0 b) s₁.heap:=fun H0 h0 hA b u q=>by
  have q':(if b∈tabs.map (·.2) then some (HO.tbl #[]) else H0 b)=some u:=q;split at q'
  ·rename_i hb;cases q';exact tP b hb
  ·refine (h0 b u q').stay (fun c v _ r=>r) (fun c r=>?_) fun c xs r=>?_
   ·show (if c∈tabs.map (·.2) then _ else H0 c)=_;rw [if_neg (fun z=>na (hA c (by rw [r];simp) ▸ z))];exact r
   ·show (if c∈tabs.map (·.2) then _ else H0 c)=_;rw [if_neg (fun z=>na (hA c (by rw [r];simp) ▸ z))];exact r
 cases hk:K.lookup a with
 | some o =>
  have e:=KX a o hk;rw [ha] at e;cases e;refine core (fun b=>if b∈tabs.map (·.2) then some (.tbl #[]) else none) (fun b=>?_) (fun q hq=>if_pos (ybh hq)) (.inr ⟨_,vs.toArray,_,hk,rfl,rfl,rfl,by rw [yai,lenV];exact hl,by simpa using rv⟩) (hTO (fun _=>none) (fun b u z=>by have z':(none:Option HO)=some u:=z;cases z') fun b z=>absurd rfl z) (fun b z=>?_) fun z=>absurd (if_neg na) z
  ·by_cases hb:b∈tabs.map (·.2)
   ·exact .inr (.inr ⟨if_pos hb,hb⟩)
   ·exact .inl (if_neg hb)
  ·by_cases hb:b∈tabs.map (·.2)
   ·exact .inr hb
   ·exact absurd (if_neg hb) z
 | none =>
  have h0:HOk P w (fun b=>if b=a then some (.frz { cls:=.type "list",data:=.seq vs.toArray } (.lst (ns.map V.int))) else none) s₁.heap:=fun b u z=>by
   by_cases hb:b=a
   ·have z':=(if_pos hb).symm.trans z;cases z';subst hb;exact ⟨ha,by rw [yac];exact hl,vs,_,rv,ha⟩
   ·have z':=(if_neg hb).symm.trans z;cases z'
  refine core (fun b=>if b∈tabs.map (·.2) then some (.tbl #[]) else if b=a then some (.frz { cls:=.type "list",data:=.seq vs.toArray } (.lst (ns.map V.int))) else none) (fun b=>?_) (fun q hq=>if_pos (ybh hq)) (.inl (.inr ⟨{ cls:=.type "list",data:=.seq vs.toArray },(if_neg na).trans (if_pos rfl)⟩)) (hTO _ h0 fun b z=>?_) (fun b z=>?_) fun _=>hk
  ·by_cases hb:b∈tabs.map (·.2)
   ·exact .inr (.inr ⟨if_pos hb,hb⟩)
   ·by_cases hb2:b=a
    ·exact .inr (.inl ⟨_,_,(if_neg hb).trans (if_pos hb2)⟩)
    ·exact .inl ((if_neg hb).trans (if_neg hb2))
  ·by_cases hb:b=a
   ·exact hb
   ·exact absurd (if_neg hb) z
  ·by_cases hb:b∈tabs.map (·.2)
   ·exact .inr hb
   ·by_cases hb2:b=a
    ·exact .inl hb2
    ·exact absurd ((if_neg hb).trans (if_neg hb2)) z
def zkF{l:PySem.W.OpenLaw}{n k:Nat}{q:Program}{loose:List Str}{XP:(Str->Option Value)->Heap->Prop}{YP:World->Heap->Prop}{d:DefRec}{K:Params->PySem.W.Frag}{CX:World->CXT}{sp:World->Sp}{x:Str}{tabs:List (Addr×Addr)}
  (hn:l.most=some n) (hn2:n<=sizeLine) (hdf:d.params.defaults=[]) (hr:Room k callerA)
  (hY:∀(w:World) (h:Heap),YP w h->(K w.params).In h) (hnt:∀w:World,PySem.W.noTabs (K w.params)=true)
  (hT:∀(w:World) (mg mb:Z6) (mean:ExcName->Option Value) (h:Heap),(K w.params).In h->Top q (PySem.W.looseW q loose) mean mg mb h->PySem.W.TabsAt tabs h)
  (F:∀(w:World) (mg:Z6) (fa:Addr) (h:Heap),(K w.params).In h->h.Ns mainGlobals mg->mg d.name=some (.ref fa) →
   ∃fd:FuncData,(∀(s:Shared) (u:Value),BindsTo s fd ⟨[u],[]⟩ [(x,u)]) ∧
    ∀base:Heap,(K w.params).In base->base.Ns mainGlobals mg->zo0 mg base->(∀q∈tabs,PySem.W.CodeHd base q.1 q.2)->FnOk l.prog w (K w.params) mg base (CX w) k fa fd [x] (sp w))
  (hsp:∀(w:World) (H:Hp) (a:Addr) (ns:List Int),ns.length<=n->zmb tabs H->(∀q∈tabs,H q.2=some (.tbl #[]))->(∀q∈tabs,q.2≠a)->SqL (K w.params) H a (ns.map V.int)->sp w [.ref a] H (fun v _=>v=.bl true) fun _ _ _=>False)
  (hCX:∀(w:World) (H:Hp) (s:Shared) (e:Value) (s':Shared),CX w [] H s (fun _ _ _=>False) e s'->False) :
  PySem.W.WalkO q loose XP YP l.row.toRowW d [] (fun f vs=>PySem.call f vs):=by
 refine Att.zg2 hn hdf fun w s₀ s₁ mg mb fa o pm cd doc a vs ns G Y ho hd hcd hmg hobj hints hlen hg=>?_
 have KX:=hY w _ Y;obtain ⟨fd,hb,hF⟩:=F w mg fa _ KX G.T.g hmg;exact zjy KX G.T.g G.T.b G.T.builtins G.T.nolimit hg hobj hints (yaw hlen hn2) hr (hT w mg mb _ _ KX G.T) (hnt w) G.T.bmain hF hb (fun H hO hTb hne hS=>hsp w H a ns hlen hO hTb hne hS) fun H e s'=>hCX w H s₁ e s'
end L2
namespace S2
open PySem PySem.Spec PyProof.Rows L2
structure Tab where
 con:List (Str×D)
 blt:List Str
 exc:List Str
 und:List (Str×Str)
 rz:List Str
 fk:List (Str×Str)
 df:List Str
 ds:List Str
noncomputable def zr8(rz exc:List Str)(c C:Str):Option Bool:=if rz.contains c then (if C = "ValueError" then some true else if exc.contains C then some (decide (C=c)||decide (C = "FloorError")) else none) else none
noncomputable def zo4(l:List (Str×Str))(c C:Str):Bool:=l.contains (c,C)
structure Fn3 where
 cur:Str
 fs:List (Str×FnI)
 ms:List (Str×Str×FnI)
 ks:List (Str×List D×FnI)
def Gn(T:Tab)(F:Fn3):Genv:=⟨fun x=>T.con.lookup x,fun x=>F.fs.lookup x,fun x=>T.blt.contains x,fun x=>T.exc.contains x,zo4 T.und,zr8 T.rz T.exc,⟨F.cur,zo4 T.fk,fun f=>T.df.contains f,fun m=>F.ms.lookup m,fun c=>F.ks.lookup c⟩,fun x=>T.ds.contains x,fun _=>none,none⟩
noncomputable def Fn3.fn(F:Fn3)(x:Str)(fi:FnI):Fn3:=⟨F.cur,(x,fi)::F.fs,F.ms,F.ks⟩
section
variable{cl:Cf}{T:Tab}{P:Program}{wo:PySem.World}{K:PySem.W.Frag}{mg:Z6}{base:Heap}{k:Nat}{fs:Fn3}
def zdq{α:Type}{a:α}{l:List (Str×α)}{b:α}(h:((x,a)::l).lookup y=some b):(y=x/\b=a)\/l.lookup y=some b:=by
 rw [yaF] at h
 cases e:y == x with
 | true=>rw [e] at h;cases h;exact .inl ⟨eq_of_beq e,rfl⟩
 | false=>rw [e] at h;exact .inr h
def zd4{α:Type}{p:α->Prop}:∀x∈([]:List α),p x:=fun _ h=>nomatch h
def zar{α:Type}{p:α->Prop}{a:α}{l:List α}(h:p a)(t:∀x∈l,p x):∀x∈a::l,p x:=fun x hx=>(yao.mp hx).elim (fun e=>e ▸ h) (t x)
theorem zfO{α:Type}{a:α}:∀{l:List (Str×α)},l.lookup x=some a->(x,a)∈l
 | [],h=>by cases h
 | (y,b)::l,h=>by
  rcases zdq h with ⟨rfl,rfl⟩ | h
  ·exact yah
  ·exact yag _ (zfO h)
noncomputable def zrN(K:PySem.W.Frag)(cl:Cf)(exc:List Str)(c:Str):Prop:=PySem.W.ExcCls K (cl c)/\PySem.W.kitOne K (.ref (cl c)) (.type "ValueError")=some true/\∀C∈exc,PySem.W.kitOne K (.ref (cl c)) (.ref (cl C))=some (decide (C=c)||decide (C = "FloorError"))
def zwJ(hc:∀p∈T.con,∃v u,mg p.1=some u/\zaI v u/\∀w,Shd cl w v p.2)(hb:∀x∈T.blt,mg x=none)(he:∀c∈T.exc,mg c=some (.ref (cl c))/\PySem.W.excIn K (cl c) bmV "ValueError.__new__" = true)(hu:∀p∈T.und,L2.zl7 K (cl p.1) (cl p.2))(hx:∀c∈T.rz,zrN K cl T.exc c)(hfk:∀p∈T.fk,Cls cl.K (cl p.1)/\zmT cl.K (cl p.1) p.2):GOk cl (Gn T ⟨"",[],[],[]⟩) P wo K mg base 0 where
 fk:=fun c f h=>hfk (c,f) (by simpa using (show T.fk.contains (c,f)=true from h))
 mt:=fun m c fi h=>by cases h
 mks:=fun c dds fi h=>by cases h
 tl:=fun _ _ _ h=>by cases h
 con:=fun x d h=>hc (x,d) (zfO h)
 fn:=fun x fi h=>by cases h
 blt:=fun x h=>hb x (by simpa using (show T.blt.contains x=true from h))
 exc:=fun c h=>he c (by simpa using (show T.exc.contains c=true from h))
 und:=fun c C h=>hu (c,C) (by simpa using (show T.und.contains (c,C)=true from h))
 isx:=fun c C b h=>by
  have h':zr8 T.rz T.exc c C=some b:=h;unfold zr8 at h';split at h'
  ·rename_i hc;obtain ⟨x1,x2,x3⟩:=hx c (by simpa using hc);refine ⟨x1,?_⟩;unfold zrv;split at h'
   ·rename_i hC;cases h';rw [if_pos hC];exact x2
   ·rename_i hC;rw [if_neg hC];split at h'
    ·rename_i hm;cases h';exact x3 C (by simpa using hm)
    ·cases h'
  ·cases h'
def GOk.add(g:GOk cl (Gn T fs) P wo K mg base k)(m:mg x=some (.ref f))(kp:PySem.W.keepIn K (.ref f)=true)(b:zdz K fd ps [])(F:FnOk P wo K mg base (CXE P wo) (k+1) f fd ps (zkR cl fi.ar fi.own fi.run)) :
  GOk cl (Gn T (fs.fn x fi)) P wo K mg base (k+1) where
 con:=g.con
 fn:=fun y fj h=>by
  rcases zdq h with ⟨rfl,rfl⟩ | h
  ·exact ⟨f,fd,ps,m,kp,b,F⟩
  ·obtain ⟨f',fd',ps',h1,h2,h3,h4⟩:=g.fn y fj h;exact ⟨f',fd',ps',h1,h2,h3,h4.mono (ycf _)⟩
 blt:=g.blt
 exc:=g.exc
 und:=g.und
 isx:=g.isx
 fk:=g.fk
 tl:=fun _ _ _ h=>by cases h
 mt:=fun m c fi h=>by
  obtain ⟨f',fd',ps',h1,h2,h3,h4⟩:=g.mt m c fi h;exact ⟨f',fd',ps',h1,h2,h3,h4.mono (ycf _)⟩
 mks:=fun c dds fi h=>by
  obtain ⟨f',fd',ps',dvs,ds,k',hk,z⟩:=g.mks c dds fi h;exact ⟨f',fd',ps',dvs,ds,k',Nat.le_succ_of_le hk,z⟩
def zkm{C:Addr}{b:List Value}{i:String}(x:PySem.W.excIn K C b i=true):(PySem.W.clsIn K C).isSome=true/\PySem.W.typeIn K (.ref C)=some (.type "type"):=by
 unfold PySem.W.excIn at x;split at x
 ·rename_i d cd sl e;refine ⟨?_,?_⟩
  ·unfold PySem.W.clsIn;rw [e];rfl
  ·show (K.lookup C).map (·.cls)=_;rw [e];rfl
 ·cases x
def zeH{C:Addr}{el:Value}{ed:Option Addr}{ec:ClassData}{es:Array (Option Value)}{m:List Value}{v:Value}(lk:K.lookup C=some ⟨el,ed,.cls ec,es⟩)(mr:ec.mro=.ref C::m):PySem.W.subIn K (.ref C) v=some ((Value.ref C::m).contains v):=by
 show PySem.W.mroIn K C v=_;unfold PySem.W.mroIn PySem.W.clsIn;rw [lk];show (if ec.mro.isEmpty then none else some (ec.mro.contains v))=_;rw [mr];rfl
def zi8{a b:Addr}(h:a≠b):(Value.ref a == Value.ref b)=false:=Bool.eq_false_iff.mpr fun z=>h (Value.ref.inj (ycK.mp z))
theorem zoe{C F:Addr}{el:Value}{ed:Option Addr}{ec:ClassData}{es:Array (Option Value)}(lk:K.lookup C=some ⟨el,ed,.cls ec,es⟩)(mr:ec.mro=.ref C::.ref F::bmV):PySem.W.kitOne K (.ref C) (.type "ValueError")=some true:=by
 have h1:PySem.W.kitMeta "ValueError" = true:=by decide +kernel
 have h0:(Value.ref C == Value.type "ValueError")=false:=by with_unfolding_all rfl
 unfold PySem.W.kitOne PySem.W.kitCls;simp only [h0,h1,zeH lk mr];simp
def zof{C D F:Addr}{el:Value}{ed:Option Addr}{ec:ClassData}{es:Array (Option Value)}{b:List Value}{i:String}(lk:K.lookup C=some ⟨el,ed,.cls ec,es⟩)(mr:ec.mro=.ref C::.ref F::bmV)(x:PySem.W.excIn K D b i=true):PySem.W.kitOne K (.ref C) (.ref D)=some (decide (D=C)||decide (D=F)):=by
 by_cases h:D=C
 ·subst h;unfold PySem.W.kitOne;rw [if_pos (ybD _)];simp
 ·obtain ⟨h1,h2⟩:=zkm x;have h0:=zi8 (fun z=>h z.symm:C≠D);unfold PySem.W.kitOne PySem.W.kitCls;simp only [h0,h1,h2,zeH lk mr];have e1:(Value.ref D == Value.ref C)=false:=zi8 h;simp only [yb9,e1,Bool.false_or,yaK,ybC,ybD,ycU,ybK,h,decide_false]
  by_cases h4:D=F
  ·subst h4;simp
  ·have e2:(Value.ref D == Value.ref F)=false:=zi8 h4;simp only [e2,Bool.false_or,h4,decide_false,Option.some.injEq]
   with_unfolding_all rfl
def zn5{c:ClassData}{C F:Addr}{m:List Value}(h:c.mro=.ref C::.ref F::m):c.mro.contains (.ref F)=true:=by
 rw [h,yb9,yb9,ybD,Bool.true_or,Bool.or_true]
def zmS{L:List (Str×Addr)}:∀{C:Str},C∈L.map (·.1)->∃a,L.lookup C=some a/\(C,a)∈L:=by
 induction L with
 | nil=>intro C h;simp at h
 | cons p L ih =>
  intro C h;rw [yaF]
  cases e:C == p.1 with
  | true=>exact ⟨p.2,rfl,by rw [eq_of_beq e];exact yah⟩
  | false =>
   have:C∈L.map (·.1):=by
    rw [yas,yao] at h
    rcases h with h | h
    ·rw [h] at e;simp at e
    ·exact h
   obtain ⟨a,h1,h2⟩:=ih this;exact ⟨a,h1,yag _ h2⟩
theorem ziR:∀{L:List (Str×Addr)},(L.map (·.2)).Nodup->∀{C c:Str} {a:Addr},(C,a)∈L->(c,a)∈L->C=c
 | [],_,_,_,_,h,_=>by simp at h
 | p::L,nd,C,c,a,h,h'=>by
  rw [yas,ybo] at nd;rw [yao] at h h'
  rcases h with h | h<;>rcases h' with h' | h'
  ·rw [<-h'] at h;exact (Prod.mk.inj h).1
  ·exact absurd (yad.mpr ⟨_,h',by rw [<-h]⟩) nd.1
  ·exact absurd (yad.mpr ⟨_,h,by rw [<-h']⟩) nd.1
  ·exact ziR nd.2 h h'
def zrK{L:List (Str×Addr)}(nd:(L.map (·.2)).Nodup){C c:Str}(hC:C∈L.map (·.1))(hc:c∈L.map (·.1)):(L.lookup C).getD 0=(L.lookup c).getD 0↔C=c:=by
 obtain ⟨a,h1,h2⟩:=zmS hC;obtain ⟨b,h3,h4⟩:=zmS hc;rw [h1,h3];constructor
 ·intro e;have:a=b:=e;subst this;exact ziR nd h2 h4
 ·rintro rfl;rw [h1] at h3;cases h3;rfl
def zq9{c:Str}{cl:Cf}{exc:List Str}{F:Addr}{el:Value}{ed:Option Addr}{ec:ClassData}{es:Array (Option Value)}
  (lk:K.lookup (cl c)=some ⟨el,ed,.cls ec,es⟩) (mr:ec.mro=.ref (cl c)::.ref F::bmV) (hF:cl "FloorError" = F)
  (ga:PySem.W.findIn K (.ref (cl c)) "__getattribute__" = some (some (.builtin "BaseException.__getattribute__"))) (gt:PySem.W.findIn K (.ref (cl c)) "__getattr__" = some none) (cc:PySem.W.findIn K (.ref (cl c)) "__class__" = some (some (.builtin "object.__class__")))
  (hx:∀C∈exc,PySem.W.excIn K (cl C) bmV "ValueError.__new__" = true) (hi:∀C∈exc,(cl C=cl c↔C=c)/\(cl C=cl "FloorError" ↔ C = "FloorError")):zrN K cl exc c:=by
 refine ⟨⟨ga,gt,cc,?_,?_,_,_,_,_,lk⟩,zoe lk mr,fun C hC=>?_⟩
 ·rw [zeH lk mr];simp
 ·rw [zeH lk mr];simp
 ·rw [zof lk mr (hx C hC)];obtain ⟨i1,i2⟩:=hi C hC;rw [hF] at i2;simp only [i1,i2]
end
noncomputable def zhe(K:PySem.W.Frag)(tabs:List (Addr×Addr)):Sp:=fun vs H Q _=>∃(a:Addr) (ns:List Int),vs=[.ref a]/\ns.length<=63/\zmb tabs H/\(∀q∈tabs,H q.2=some (.tbl #[]))/\(∀q∈tabs,q.2≠a)/\SqL K H a (ns.map V.int)/\∀H',Q (.bl true) H'
def zoa{cl:Cf}{tabs:List (Addr×Addr)}(hc:∀P q,cl.tabs P=some q->P∈tabs.map (·.2)){run:List D->Sto->Out D}(hr:∀l:List Int,l.length<=63->∃S,run [.scr l] []=.ok (.bl true) S):∀vs H Q E,zhe cl.K tabs vs H Q E->zkR cl 1 false run vs H Q E:=by
 rintro vs H Q E ⟨a,ns,rfl,hl,hO,hT,hne,hS,q⟩
 have na:a ∉ tabs.map (·.2):=fun z=>by obtain ⟨p,hp,e⟩:=yad.mp z;exact hne p hp e
 refine ⟨rfl,⟨fun _=>none,fun _=>none⟩,⟨H,fun b=>if b∈tabs.map (·.2) then some .tab else none,[]⟩,[.scr ns],[],rfl,⟨(fun a o h=>by cases h),(fun a r h=>.inr rfl),rfl,(fun n ob h=>by simp at h),fun P w h=>?_⟩,.cons ?_ .nil,?_⟩
 ·have hP:=hc P w h;obtain ⟨p,hp,rfl⟩:=yad.mp hP;exact ⟨#[],hT p hp,if_pos hP,trivial,fun pos cv e=>by cases e⟩
 ·rcases hS with (hS | ⟨o,hS⟩) | hS
  ·rcases hO a with z | ⟨o,xs,z⟩ | ⟨z,_⟩
   ·rw [hS] at z;cases z
   ·rw [hS] at z;cases z
   ·rw [hS] at z;cases z
  ·exact .scr hS (if_neg na)
  ·exact .scrK fun H=>.inr hS
 ·obtain ⟨S',e⟩:=hr ns hl;rw [e];intro v w' _ _ r;have r':Shd cl w' v (.bl true):=r;cases r';exact q _
noncomputable abbrev Rn:=List D->Sto->Out D
structure FnT(K:PySem.W.Frag)(x q:Str)(st:Stmt)(f:Addr):Prop where
 ex:∃(oc:Value) (od:Option Addr) (kV dc pm:Value) (an:Option Addr) (cd ct:Value) (sl:Array (Option Value)),K.lookup f=some ⟨oc,od,.func (PySem.W.fnOf x q (zbW st) (zbG st) (zaF st) .none kV dc pm an cd ct),sl⟩/\PySem.W.codeIn K cd q=true/\PySem.W.keepIn K (.ref f)=true/\PySem.W.isFn K (.ref f)=true
structure GFn(K:PySem.W.Frag)(x:Str)(st:Stmt):Prop where
 ex:∃f,PySem.W.nsIn K mainGlobals x=some (some (.ref f))/\FnT K x x st f
structure MFn(K:PySem.W.Frag)(C:Addr)(m q:Str)(st:Stmt):Prop where
 ex:∃f,PySem.W.findIn K (.ref C) m=some (some (.ref f))/\FnT K m q st f
noncomputable def BB(x q:Str)(st:Stmt)(ps:List Str):Prop:=∀(kV doc pm:Value) (an:Option Addr) (cdv ct:Value) (us:List Value),us.length=ps.length->bindArgs (PySem.W.fnOf x q (zbW st) (zbG st) (zaF st) .none kV doc pm an cdv ct) ⟨us,[]⟩=pure (ps.zip us)
def bb0{p:List Value->Prop}(h:p []):∀us:List Value,us.length=0->p us:=fun us e=>by rw [List.eq_nil_of_length_eq_zero e];exact h
def bbS{n:Nat}{p:List Value->Prop}(h:∀a:Value,∀us:List Value,us.length=n->p (a::us)):∀us:List Value,us.length=n+1->p us:=fun us e=>by
 cases us with
 | nil=>cases e
 | cons a us=>exact h a us (Nat.succ.inj e)
def bb1{p:List Value->Prop}(h:∀a0:Value,p [a0]):∀us:List Value,us.length=1->p us:=bbS fun a0=>bb0 (h a0)
def bb2{p:List Value->Prop}(h:∀a0 a1:Value,p [a0,a1]):∀us:List Value,us.length=2->p us:=bbS fun a0=>bbS fun a1=>bb0 (h a0 a1)
def bb3{p:List Value->Prop}(h:∀a0 a1 a2:Value,p [a0,a1,a2]):∀us:List Value,us.length=3->p us:=bbS fun a0=>bbS fun a1=>bbS fun a2=>bb0 (h a0 a1 a2)
def bb6{p:List Value->Prop}(h:∀a0 a1 a2 a3 a4 a5:Value,p [a0,a1,a2,a3,a4,a5]):∀us:List Value,us.length=6->p us:=bbS fun a0=>bbS fun a1=>bbS fun a2=>bbS fun a3=>bbS fun a4=>bbS fun a5=>bb0 (h a0 a1 a2 a3 a4 a5)
section
variable{cl:Cf}{T:Tab}{P:Program}{wo:PySem.World}{K:PySem.W.Frag}{mg:Z6}{base:Heap}{k:Nat}{fs:Fn3}
def FnT.un{x q:Str}{st:Stmt}{f:Addr}{ps:List Str}(p:FnT K x q st f)(b:BB x q st ps):∃fd,Fun K x q st f fd/\zdz K fd ps []/\PySem.W.keepIn K (.ref f)=true/\PySem.W.isFn K (.ref f)=true:=by
 obtain ⟨oc,od,kV,dc,pm,an,cd,ct,sl,l,c,kp,i⟩:=p.ex;have U:=zmE (st:=st) l c kp;exact ⟨_,U,U.binds b,kp,i⟩
end
open PySem
open L2 hiding D
noncomputable def zb1:Fs :=
  (zae (sFz [] (za9 (zf3 (eUn (zcW "int") (zad 0)) (eUn zcS (eUn (zcW "bool") (zad 0))))))
  sNx)
noncomputable def zaN:List S2.D->Sto->Out S2.D:=zcg 1 false zb1
noncomputable def za5:Fs :=
  (zae (sFz [] (za9 (zf3 (eUn (zcW "tuple") (zad 0)) (zc0 leD leD (zad 1) (zaq zem [(zad 0)]) (zad 2)))))
  sNx)
noncomputable def zam:List S2.D->Sto->Out S2.D:=zcg 3 false za5
noncomputable def zbD:Fs :=
  (zae (sFz [0] (za9 (zf3 (eFn zaN [(zaf 0)]) (zc0 leD leD (zab (.int 0)) (zad 0) (zab (.int 8))))))
  sNx)
noncomputable def zaW:List S2.D->Sto->Out S2.D:=zcg 1 false zbD
noncomputable def zcY:Fs :=
  (zae (sFz [0,0] (za9 (zf3 (eFn zam [(zaf 0),(zab (.int 4)),(zab (.int 4))]) (zaq zl5 [(zbI 1 (.one 0) (zas (zaf 0)) zcz (eFn zaW [(zaf 0)]) [])]))))
  sNx)
noncomputable def zbY:List S2.D->Sto->Out S2.D:=zcg 1 false zcY
noncomputable def zcZ:Fs :=
  (zae (sFz [0] (sIf (eUn zcS (eFn zam [(zaf 0),(zab (.int 1)),(zab (.int 16))])) (zae (sFz [] (za9 (zab (.bl false)))) sNx) sNx))
  (zae (sFz [0,0] (za9 (zf3 (zaq zl5 [(zbI 1 (.one 0) (zas (zaf 0)) zcz (eFn zbY [(zaf 0)]) [])]) (zag eqD (eUn zcE (zaf 0)) (zaq zem [(zad 0)])))))
  sNx))
noncomputable def zb2:List S2.D->Sto->Out S2.D:=zcg 1 false zcZ
noncomputable def zbU:Fs :=
  (zae (sFz [1] (za9 (zf3 (eFn zaN [(zaf 1)]) (zc0 leD ltD (zab (.int 0)) (zad 1) (zaq zem [(zad 0)])))))
  sNx)
noncomputable def zbL:List S2.D->Sto->Out S2.D:=zcg 2 false zbU
noncomputable def zck:Fs :=
  (zae (sFz [0,1] (za9 (eOr (zag zfm (zad 1) (zab .non)) (eFn zbL [(zaf 0),(zaf 1)]))))
  sNx)
noncomputable def zbA:List S2.D->Sto->Out S2.D:=zcg 2 false zck
noncomputable def zdE:Fs :=
  (zae (sFz [1,1,0] (za9 (zf3 (eFn zam [(zaf 1),(zab (.int 1)),(zab (.int 6))]) (zaq zl5 [(zbI 1 (.one 0) (zas (zaf 1)) zcz (eFn zbA [(zaf 1),(zaf 0)]) [0])]))))
  sNx)
noncomputable def zcu:List S2.D->Sto->Out S2.D:=zcg 2 false zdE
noncomputable def zbz:Fs :=
  (zae (sFz [1] (sIf (eUn zcS (eFn zam [(zaf 1),(zab (.int 1)),(zab (.int 6))])) (zae (sFz [] (za9 (zab (.bl false)))) sNx) sNx))
  (zae (sFz [1,0] (sIf (eUn zcS (zaq zl5 [(zbI 1 (.one 0) (zas (zaf 1)) zcz (eFn zcu [(zaf 1),(zaf 0)]) [0])])) (zae (sFz [] (za9 (zab (.bl false)))) sNx) sNx))
  (zae (sFz [1,1] (za9 (zaq zl5 [(zbI 1 (.one 0) (zas (zaf 1)) zcz (zag eqD (zaq zem [(zad 0)]) (zaq zem [(zag ixD (zad 1) (zab (.int 0)))])) [1])])))
  sNx)))
noncomputable def zaO:List S2.D->Sto->Out S2.D:=zcg 2 false zbz
noncomputable def zcF:Fs :=
  (zae (sFz [0] (za9 (eSm ze4 (zab (.str "")) (zbI 1 (.one 0) (zas (zaf 0)) zcz (zaq zkA [(zad 0)]) []))))
  sNx)
noncomputable def zbc:List S2.D->Sto->Out S2.D:=zcg 1 false zcF
noncomputable def zde:Fs :=
  (zae (sFz [0] (za9 (eSm ze4 (zab (.str "")) (zbI 1 (.one 0) (zas (zaf 0)) zcz (zag zbu (eFn zbc [(zaf 0)]) (zab (.str "\n"))) []))))
  sNx)
noncomputable def zct:List S2.D->Sto->Out S2.D:=zcg 1 false zde
noncomputable def zbs:Fs :=
  (zae (sFz [] (za9 (eIf (zag zfm (zad 0) (zab .non)) (zab (.str "-")) (zaq zkA [(zad 0)]))))
  sNx)
noncomputable def zaC:List S2.D->Sto->Out S2.D:=zcg 1 false zbs
noncomputable def zdf:Fs :=
  (zae (sFz [0] (za9 (eSm ze4 (zab (.str " ")) (zbI 1 (.one 0) (zas (zaf 0)) zcz (eFn zaC [(zaf 0)]) []))))
  sNx)
noncomputable def zbv:List S2.D->Sto->Out S2.D:=zcg 1 false zdf
noncomputable def zcl:Fs :=
  (zae (sFz [0] (za9 (eSm ze4 (zab (.str "\n")) (zbI 1 (.one 0) (zas (zaf 0)) zcz (eFn zbv [(zaf 0)]) []))))
  sNx)
noncomputable def zbM:List S2.D->Sto->Out S2.D:=zcg 1 false zcl
noncomputable def zb7:Fs :=
  (zae (sFz [0] (za9 (eIf (zag inD (zad 0) (zab (.str "012345678"))) (eSm zhF (zab (.str "012345678")) (zaf 0)) (zab (.str "?")))))
  sNx)
noncomputable def zaX:List S2.D->Sto->Out S2.D:=zcg 1 false zb7
noncomputable def zcG:Fs :=
  (zae (sFz [0] (za9 (zaq zbJ [(zbI 1 (.one 0) (zas (zaf 0)) zcz (eFn zaX [(zaf 0)]) [])])))
  sNx)
noncomputable def zbd:List S2.D->Sto->Out S2.D:=zcg 1 false zcG
noncomputable def zb0:Fs :=
  (zae (sFz [] (sIf (eUn zcS (eSm zlO (zaf 0) (zab (.str "\n")))) (zae (sFz [] (sRz "NoText" [(zab (.str "the last line is not ended"))])) sNx) sNx))
  (zae (sFz [] (zbj 1 false (zaq zbJ [(zbI 1 (.one 0) (zas (eSm zdI (eSl (zad 0) none (some (eUn zoW (zab (.int 1))))) (zab (.str "\n")))) zcz (eFn zbd [(zaf 0)]) [])])))
  (zae (sFz [1] (sIf (eUn zcS (eFn zb2 [(zaf 1)])) (zae (sFz [] (sRz "NoText" [(zab (.str "this is not the writing of a set"))])) sNx) sNx))
  (zae (sFz [1] (za9 (zaf 1)))
  sNx))))
noncomputable def zbw:List S2.D->Sto->Out S2.D:=zcg 2 false zb0
noncomputable def zaY:Fs :=
  (zae (sFz [2] (zh6 1 (eFn zaC [(zaf 2)]) (zaf 2))) sNx)
noncomputable def zbf:Fs :=
  (zae (sFz [] (zbj 1 true (zil "-" (zab .non))))
  (zae (sFz [] (zhi (.one 2) (zdh (zaq zem [(zad 0)])) zaY))
  (zae (sFz [] (zi1 1))
  sNx)))
noncomputable def zaM:List S2.D->Sto->Out S2.D:=zcg 3 true zbf
noncomputable def zdg:Fs :=
  (zae (sFz [0] (za9 (zaq zbJ [(zbI 1 (.one 0) (zas (eSm zdI (zaf 1) (zab (.str " ")))) zcz (zdt (zaf 1) (zaf 0) (zab (.str "?"))) [0])])))
  sNx)
noncomputable def zbx:List S2.D->Sto->Out S2.D:=zcg 2 false zdg
noncomputable def zbT:Fs :=
  (zae (sFz [0] (zbj 2 true (eFn zaM [(zaf 0)])))
  (zae (sFz [2] (zbj 3 false (zaq zbJ [(zbI 1 (.one 0) (zas (eSm zdI (zaf 1) (zab (.str "\n")))) zcz (eFn zbx [(zaf 1),(zaf 0)]) [2])])))
  (zae (sFz [0,3] (sIf (eUn zcS (eFn zaO [(zaf 0),(zaf 3)])) (zae (sFz [] (sRz "NoText" [(zab (.str "this is not the writing of a floor of the set"))])) sNx) sNx))
  (zae (sFz [3] (za9 (zaf 3)))
  sNx))))
noncomputable def zbk:List S2.D->Sto->Out S2.D:=zcg 4 false zbT
noncomputable def zbF:Fs :=
  (zae (sFz [] (sIf (zag ltD (zad 1) (zaq zem [(zad 0)])) (zae (sFz [] (za9 (zag ixD (zad 0) (zad 1)))) sNx) sNx))
  (zae (sFz [] (sIf (zag eqD (zad 0) (zes [])) (zae (sFz [] (za9 (zab (.int 0)))) sNx) sNx))
  (zae (sFz [] (za9 (zag zbu (zag ziz (zag ixD (zad 0) (zag zgH (zad 1) (zaq zem [(zad 0)]))) (zab (.int 31))) (zad 1))))
  sNx)))
noncomputable def zbe:List S2.D->Sto->Out S2.D:=zcg 2 false zbF
noncomputable def zcI:Fs :=
  (zae (sFz [0,1] (zbj 3 false (zag zgH (zag ziz (zag zbu (eFn zbe [(zaf 0),(zaf 1)]) (zag ziz (zab (.int 6151)) (zag zbu (zad 1) (zab (.int 1))))) (zab (.int 40692))) (zab (.int 2147483399)))))
  (zae (sFz [] (za9 (zag zgH (zag zgH (zag zbu (zag ziz (zad 3) (zad 3)) (zag zkC (zad 3) (zab (.int 31)))) (zab (.int 2147483629))) (zad 2))))
  sNx))
noncomputable def zai:List S2.D->Sto->Out S2.D:=zcg 4 false zcI
noncomputable def zaU:Fs :=
  (zae (sFz [1,3,5,0] (zbj 6 false (zaq zbJ [(zbI 1 (.one 0) (zdh (zab (.int 4))) zcz (eFn zai [(zaf 4),(zag zbu (zag zbu (zag zbu (zad 1) (zag ziz (zab (.int 4)) (zad 3))) (zab (.int 2))) (zad 0)),(zaf 2)]) [1,3,5,0])]))) (zae (sFz [0] (sIf (zag eqD (eFn zai [(zaf 0),(zag zbu (zag zbu (zad 1) (zab (.int 60))) (zad 5)),(zab (.int 3))]) (zab (.int 0))) (zae (sFz [] (zbj 6 false (zfe [(zag ixD (zad 6) (zab (.int 0))),(zag ixD (zad 6) (zab (.int 1))),(zag ixD (zad 6) (zab (.int 0))),(zag ixD (zad 6) (zab (.int 1)))]))) sNx) sNx)) (zae (sFz [] (sIf (zag zn1 (zad 6) (zad 4)) (zae (sFz [6] (zmo 4 (zaf 6))) sNx) sNx)) sNx)))
noncomputable def zcm:Fs :=
  (zae (sFz [0,1] (zbj 3 false (zag zbu (zab (.int 2)) (eFn zai [(zaf 0),(zaf 1),(zab (.int 2))]))))
  (zae (sFz [] (zbj 4 true (zes [])))
  (zae (sFz [0,2] (zhi (.one 5) (zdh (zag zbu (zab (.int 1)) (eFn zai [(zaf 0),(zag zbu (zad 1) (zab (.int 1))),(zaf 2)]))) zaU))
  (zae (sFz [] (za9 (zaq zbJ [(zad 4)])))
  sNx))))
noncomputable def zbN:List S2.D->Sto->Out S2.D:=zcg 7 false zcm
noncomputable def zaV:Fs :=
  (zae (sFz [0] (zbj 10 false (eFn zai [(zaf 0),(zag zbu (zag zbu (zad 1) (zag ziz (zab (.int 7)) (zad 7))) (zad 9)),(zag ziz (zaq zem [(zad 2)]) (zad 5))]))) (zae (sFz [10] (zmo 8 (eIf (zag ltD (zad 10) (zaq zem [(zad 2)])) (zaf 10) (zab .non)))) sNx))
noncomputable def zbX:Fs :=
  (zae (sFz [] (zbj 8 true (zes []))) (zae (sFz [4] (zhi (.one 9) (zdh (zaf 4)) zaV)) (zae (sFz [] (zmo 6 (zaq zbJ [(zad 8)]))) sNx)))
noncomputable def zco:Fs :=
  (zae (sFz [] (zbj 6 true (zes [])))
  (zae (sFz [3] (zhi (.one 7) (zdh (zaf 3)) zbX))
  (zae (sFz [] (za9 (zaq zbJ [(zad 6)])))
  sNx)))
noncomputable def zbP:List S2.D->Sto->Out S2.D:=zcg 11 false zco
noncomputable def zcn:Fs :=
  (zae (sFz [0,1] (za9 (zag ixD (zes [(zfe [(zab (.int 1)),(zab (.int 1))]),(zfe [(zab (.int 1)),(zab (.int 2))]),(zfe [(zab (.int 2)),(zab (.int 1))]),(zfe [(zab (.int 2)),(zab (.int 2))]),(zfe [(zab (.int 2)),(zab (.int 2))]),(zfe [(zab (.int 1)),(zab (.int 4))]),(zfe [(zab (.int 2)),(zab (.int 3))]),(zfe [(zab (.int 3)),(zab (.int 2))]),(zfe [(zab (.int 3)),(zab (.int 1))]),(zfe [(zab (.int 2)),(zab (.int 3))])]) (eFn zai [(zaf 0),(zaf 1),(zab (.int 10))]))))
  sNx)
noncomputable def zbO:List S2.D->Sto->Out S2.D:=zcg 2 false zcn
noncomputable def zaw:Fs :=
  (zae (sFz [] (zbj 3 false (zag zgH (zad 1) (zag zbu (zaq zem [(zad 0)]) (zab (.int 1))))))
  (zae (sFz [] (zbj 4 false (zag ixD (zad 2) (zag zgH (zag zkC (zad 1) (zab (.int 1000))) (zaq zem [(zad 2)])))))
  (zae (sFz [] (zbj 5 false (zag zbu (zag zbu (zad 3) (zab (.int 1))) (zag zgH (zag zkC (zad 1) (zab (.int 7))) (zab (.int 9))))))
  (zae (sFz [] (zbj 6 false (zag zgH (zag zkC (zad 1) (zab (.int 100000))) (zab (.int 8)))))
  (zae (sFz [] (sIf (zag ltD (zad 6) (zab (.int 2))) (zae (sFz [] (za9 (zag zbu (zag zbu (eSl (zad 0) none (some (zad 3))) (zad 4)) (eSl (zad 0) (some (zad 3)) none)))) sNx) sNx))
  (zae (sFz [] (sIf (zag eqD (zad 6) (zab (.int 2))) (zae (sFz [] (za9 (zag zbu (eSl (zad 0) none (some (zad 3))) (eSl (zad 0) (some (zag zbu (zad 3) (zab (.int 1)))) none)))) sNx) sNx))
  (zae (sFz [] (sIf (zag ltD (zad 6) (zab (.int 5))) (zae (sFz [] (za9 (zag zbu (zag zbu (eSl (zad 0) none (some (zad 3))) (zad 4)) (eSl (zad 0) (some (zag zbu (zad 3) (zab (.int 1)))) none)))) sNx) sNx))
  (zae (sFz [] (sIf (zag eqD (zad 6) (zab (.int 5))) (zae (sFz [] (za9 (zag zbu (eSl (zad 0) none (some (zad 3))) (eSl (zad 0) (some (zad 5)) none)))) sNx) sNx))
  (zae (sFz [] (sIf (zag eqD (zad 6) (zab (.int 6))) (zae (sFz [] (za9 (zag zbu (eSl (zad 0) none (some (zad 5))) (eSl (zad 0) (some (zad 3)) none)))) sNx) sNx))
  (zae (sFz [] (za9 (zag ixD (zes [(zag zbu (zad 0) (zab (.str " "))),(zag zbu (zab (.str " ")) (zad 0)),(zag zbu (eSl (zad 0) (some (zad 3)) none) (eSl (zad 0) none (some (zad 3)))),(zab (.str "")),(zag zbu (zad 0) (zad 0))]) (zag zgH (zad 1) (zab (.int 5))))))
  sNx))))))))))
noncomputable def zan:List S2.D->Sto->Out S2.D:=zcg 7 false zaw
noncomputable def zaQ:Fs :=
  (zae (sFz [] (zbj 1 false (zag zbu (zad 1) (zaq zkA [(zad 3)])))) sNx)
noncomputable def zbi:Fs :=
  (zae (sFz [2] (zhi (.one 3) (zas (zaf 2)) zaQ)) (zae (sFz [] (zbj 1 false (zag zbu (zad 1) (zab (.str "\n"))))) sNx))
noncomputable def zbE:Fs :=
  (zae (sFz [] (zbj 1 false (zab (.str ""))))
  (zae (sFz [0] (zhi (.one 2) (zas (zaf 0)) zbi))
  (zae (sFz [1] (za9 (zaf 1)))
  sNx)))
noncomputable def zaJ:List S2.D->Sto->Out S2.D:=zcg 4 false zbE
noncomputable def zat:Fs :=
  (zae (sFz [] (zbj 3 false (zag zbu (zag zbu (zad 3) (zab (.str " "))) (eIf (zag zfm (zad 4) (zab .non)) (zab (.str "-")) (zaq zkA [(zad 4)]))))) sNx)
noncomputable def zaZ:Fs :=
  (zae (sFz [] (zbj 3 false (zab (.str "")))) (zae (sFz [2] (zhi (.one 4) (zas (zaf 2)) zat)) (zae (sFz [] (zbj 1 false (zag zbu (zag zbu (zad 1) (zab (.str "\n"))) (eSl (zad 3) (some (zab (.int 1))) none)))) sNx)))
noncomputable def zbh:Fs :=
  (zae (sFz [] (zbj 1 false (zab (.str ""))))
  (zae (sFz [0] (zhi (.one 2) (zas (zaf 0)) zaZ))
  (zae (sFz [] (za9 (eSl (zad 1) (some (zab (.int 1))) none)))
  sNx)))
noncomputable def zaB:List S2.D->Sto->Out S2.D:=zcg 5 false zbh
noncomputable def Fo.seq(b:Fs):Fo->Fo | .nx ρ' S'=>b ρ' S' | o=>o
def zto(a b:Fs)(ρ:Env):Out D->Fo | .ok d S'=>(match isB d with | some true=>a ρ S' | some false=>b ρ S' | none=>.bad) | .exc x S'=>.ex x ρ S' | .bad=>.bad
noncomputable def ztq(i:Nat)(o:Bool)(ρ:Env):Out D->Fo | .ok d S'=>.nx (ρ.set i (some (o,d))) S' | .exc c S'=>.ex c ρ S' | .bad=>.bad
noncomputable def zu5(ρ:Env):Out D->Fo | .ok d S'=>.rt d S' | .exc c S'=>.ex c ρ S' | .bad=>.bad
noncomputable def zq0(S:Sto):Option (Option (Bool×D))->Fo | some (some (true,d))=>.rt d S | _=>.bad
def zol(i:Nat)(ρ:Env)(l:List D):Out D->Fo
 | .ok d S'=>if small l.length then .nx (ρ.set i (some (true,.lst (l++[d])))) S' else .bad
 | .exc c S'=>.ex c ρ S' | .bad=>.bad
noncomputable def zvd(i:Nat)(f:Fe)(ρ:Env)(S:Sto):Option (Option (Bool×D))->Fo | some (some (true,.lst l))=>zol i ρ l (f ρ S) | _=>.bad
def zoi(i:Nat)(ρ:Env)(l:List D):Out D->Fo
 | .ok (.lst k) S'=>if small (l.length+k.length) then .nx (ρ.set i (some (true,.lst (l++k)))) S' else .bad
 | .ok _ _=>.bad
 | .exc c S'=>.ex c ρ S' | .bad=>.bad
noncomputable def zu9(i:Nat)(f:Fe)(ρ:Env)(S:Sto):Option (Option (Bool×D))->Fo | some (some (true,.lst l))=>zoi i ρ l (f ρ S) | _=>.bad
noncomputable def ztn(S:Sto):Option Env->Fo | some ρ'=>.nx ρ' S | none=>.bad
def zok(t:Tg)(ρ:Env):Out D->Fo | .ok d S'=>ztn S' (t.put ρ d) | .exc c S'=>.ex c ρ S' | .bad=>.bad
noncomputable def zu8(t:Tg)(a:Fs)(ρ:Env):Out (List D)->Fo | .ok ds S'=>zhH t a ds ρ S' | .exc c S'=>.ex c ρ S' | .bad=>.bad
noncomputable def zu3(S:Sto):Option (Option (Bool×D))->Out D | some (some (false,d))=>.ok d S | _=>.bad
noncomputable def zvb(S:Sto):Option (Option (Bool×D))->Out D | some (some (_,d))=>.ok d S | _=>.bad
def kUn(u:D->Option D):Out D->Out D | .ok a S=>Out.of (u a) S | .exc c S=>.exc c S | .bad=>.bad
def zlF(u:D->D->Option D)(a:D):Out D->Out D | .ok b S=>Out.of (u a b) S | .exc c S=>.exc c S | .bad=>.bad
noncomputable def zvc(u:D->D->Option D)(g:Fe)(ρ:Env):Out D->Out D | .ok a S=>zlF u a (g ρ S) | .exc c S=>.exc c S | .bad=>.bad
def kIf(f g:Fe)(ρ:Env):Out D->Out D | .ok d S1=>(match isB d with | some true=>f ρ S1 | some false=>g ρ S1 | none=>.bad) | .exc c S=>.exc c S | .bad=>.bad
def ztr(g:Fe)(ρ:Env):Out D->Out D | .ok d S1=>(match isB d with | some true=>g ρ S1 | some false=>.ok (.bl false) S1 | none=>.bad) | .exc c S=>.exc c S | .bad=>.bad
def kOr(g:Fe)(ρ:Env):Out D->Out D | .ok d S1=>(match isB d with | some true=>.ok (.bl true) S1 | some false=>g ρ S1 | none=>.bad) | .exc c S=>.exc c S | .bad=>.bad
noncomputable def zhA(d:D):Out (List D)->Out (List D) | .ok ds S=>.ok (d::ds) S | .exc c S=>.exc c S | .bad=>.bad
def zq3(fs:List Fe)(ρ:Env):Out D->Out (List D) | .ok d S=>zhA d (zao fs ρ S) | .exc c S=>.exc c S | .bad=>.bad
def zu4:Out (List D)->Out D | .ok ds S=>if small ds.length then .ok (.tup ds) S else .bad | .exc c S=>.exc c S | .bad=>.bad
def zu6:Out (List D)->Out D | .ok ds S=>if small ds.length then .ok (.lst ds) S else .bad | .exc c S=>.exc c S | .bad=>.bad
def zq4(u:List D->Option D):Out (List D)->Out D | .ok ds S=>Out.of (u ds) S | .exc c S=>.exc c S | .bad=>.bad
noncomputable def kFn(r:List D->Sto->Out D):Out (List D)->Out D | .ok ds S=>r ds S | .exc c S=>.exc c S | .bad=>.bad
def zdY(v:D->D->Option D)(b:D):Out D->Out D | .ok c S=>Out.of (v b c) S | .exc c S=>.exc c S | .bad=>.bad
def zdX(v:D->D->Option D)(h:Fe)(ρ:Env)(b:D)(S:Sto):Option D->Out D | some d=>(match isB d with | some true=>zdY v b (h ρ S) | some false=>.ok (.bl false) S | none=>.bad) | none=>.bad
noncomputable def ze0(u v:D->D->Option D)(h:Fe)(ρ:Env)(a:D):Out D->Out D | .ok b S=>zdX v h ρ b S (u a b) | .exc c S=>.exc c S | .bad=>.bad
noncomputable def zmy(u v:D->D->Option D)(g h:Fe)(ρ:Env):Out D->Out D | .ok a S=>ze0 u v h ρ a (g ρ S) | .exc c S=>.exc c S | .bad=>.bad
noncomputable def zu7:Out D->Out (Option Int) | .ok (.int i) S=>.ok (some i) S | .ok _ _=>.bad | .exc c S=>.exc c S | .bad=>.bad
def zr3(d:D)(l:Option Int):Out (Option Int)->Out D | .ok u S=>Out.of (slD d l u) S | .exc c S=>.exc c S | .bad=>.bad
def zr4(d:D)(u:Option Fe)(ρ:Env):Out (Option Int)->Out D | .ok l S=>zr3 d l (zcc u ρ S) | .exc c S=>.exc c S | .bad=>.bad
def kSl(l u:Option Fe)(ρ:Env):Out D->Out D | .ok d S=>zr4 d u ρ (zcc l ρ S) | .exc c S=>.exc c S | .bad=>.bad
def zhz:Out D->Out (List D) | .ok (.str x) S=>.ok (ziy x) S | .ok (.lst l) S=>.ok l S | .ok (.tup l) S=>.ok l S | .ok (.dic ds) S=>if zaz ds then .ok ((zeZ ds).map D.str) S else .bad | .ok _ _=>.bad | .exc c S=>.exc c S | .bad=>.bad
def zqZ:Out (List D)->Out (List D) | .ok ds S1=>(match ds with | [.int j]=>if -1000000<=j/\j<=1000000 then .ok (za3 0 j) S1 else .bad | _=>.bad) | .exc c S=>.exc c S | .bad=>.bad
def zjF:Out (List D)->Out D | .ok ys S2=>if small ys.length then .ok (.lst ys) S2 else .bad | _=>.bad
def zoj(tg:Tg)(c elt:Fe)(ρ0:Env):Out (List D)->Out D | .ok ds S1=>zjF (za6 tg c elt ρ0 ds S1) | .exc c S=>.exc c S | .bad=>.bad
noncomputable def zva:Option (Option (Bool×D))->Option (Bool×D) | some (some (false,d))=>some (false,d) | _=>none
noncomputable def ztp(ρ:Env)(i:Nat):Option (Option (Bool×D))->Env | some (some (true,d))=>ρ.set i (some (false,d)) | _=>ρ
noncomputable def ztm(own:Bool):Fo->Out D | .rt d S'=>.ok d S' | .nx _ S'=>if own then .bad else .ok .non S' | .ex c _ S'=>.exc c S' | _=>.bad
def kRz(c:Str)(ρ:Env):Out (List D)->Fo | .ok ds S'=>if small ds.length then .ex c ρ S' else .bad | .exc x S'=>.ex x ρ S' | .bad=>.bad
def zr7(u:List D->D->Option D)(l:List D):Out D->Out D | .ok d S=>Out.of (u l d) S | .exc c S=>.exc c S | .bad=>.bad
noncomputable def kMt(u:List D->D->Option D)(f:Fe)(ρ:Env)(S:Sto):Option (Option (Bool×D))->Out D | some (some (_,.lst l))=>zr7 u l (f ρ S) | _=>.bad
section
variable{ρ:Env}{S:Sto}{f g h k c:Fe}{a b:Fs}
@[simp] def zvG:eMt u i f ρ S=kMt u f ρ S ρ[i]?:=by
 show (match ρ[i]? with | some (some (_,.lst l))=>(f ρ S).bind fun d S1=>Out.of (u l d) S1 | _=>.bad)=_
 cases ρ[i]? with
 | none=>rfl
 | some o=>cases o with
  | none=>rfl
  | some p =>
   obtain ⟨b,d⟩:=p
   cases d with
   | lst l=>show ((f ρ S).bind fun d S1=>Out.of (u l d) S1)=zr7 u l (f ρ S);cases f ρ S<;>rfl
   | _=>rfl
@[simp] def zw2:kMt u f ρ S (some (some (o,.lst l)))=zr7 u l (f ρ S):=(rfl)
@[simp] def zwl:zr7 u l (.ok d S)=Out.of (u l d) S:=(rfl)
@[simp] def ztY:zae a b ρ S=(a ρ S).seq b:=by
 show (match a ρ S with | .nx ρ' S'=>b ρ' S' | o=>o)=_
 cases a ρ S<;>rfl
@[simp] def zuF:(Fo.nx ρ S).seq b=b ρ S:=(rfl)
@[simp] def zuE:(Fo.rt d S).seq b=.rt d S:=(rfl)
@[simp] def zuD:(Fo.ex x ρ S).seq b=.ex x ρ S:=(rfl)
@[simp] def zvr:sFz is a ρ S=a (frz is ρ) S:=(rfl)
@[simp] def zud:frz [] ρ=ρ:=(rfl)
@[simp] def zuc:frz (i::is) ρ=frz is (frz1 ρ i):=(rfl)
@[simp] def zvA(i:Nat):frz1 ρ i=ztp ρ i ρ[i]?:=(rfl)
@[simp] def zuR:ztp ρ i (some (some (true,d)))=ρ.set i (some (false,d)):=(rfl)
@[simp] def zuQ:ztp ρ i (some (some (false,d)))=ρ:=(rfl)
@[simp] def zvp:sNx ρ S=.nx ρ S:=(rfl)
@[simp] def zt2:zbj i o f ρ S=ztq i o ρ (f ρ S):=(rfl)
@[simp] def zuZ:ztq i o ρ (.ok d S)=.nx (ρ.set i (some (o,d))) S:=(rfl)
@[simp] def zuY:ztq i o ρ (.exc x S)=.ex x ρ S:=(rfl)
@[simp] def ztZ:za9 f ρ S=zu5 ρ (f ρ S):=(rfl)
@[simp] def zuK:zu5 ρ (.ok d S)=.rt d S:=(rfl)
@[simp] def zsf:zi1 i ρ S=zq0 S ρ[i]?:=(rfl)
@[simp] def zuJ:zq0 S (some (some (true,d)))=.rt d S:=(rfl)
@[simp] def zvq:sIf c a b ρ S=zto a b ρ (c ρ S):=(rfl)
@[simp] def zuM:zto a b ρ (.ok (.bl true) S)=a ρ S:=(rfl)
@[simp] def zuL:zto a b ρ (.ok (.bl false) S)=b ρ S:=(rfl)
@[simp] def zt3:zmo i f ρ S=zvd i f ρ S ρ[i]?:=(rfl)
@[simp] def zwD:zvd i f ρ S (some (some (true,.lst l)))=zol i ρ l (f ρ S):=(rfl)
@[simp] def zu0:zol i ρ l (.ok d S)=if small l.length then .nx (ρ.set i (some (true,.lst (l++[d])))) S else .bad:=(rfl)
@[simp] def zt1{i:Nat}:zpW i f ρ S=zu9 i f ρ S ρ[i]?:=(rfl)
@[simp] def zwv:zu9 i f ρ S (some (some (true,.lst l)))=zoi i ρ l (f ρ S):=(rfl)
@[simp] def zuS{l k:List D}:zoi i ρ l (.ok (.lst k) S)=if small (l.length+k.length) then .nx (ρ.set i (some (true,.lst (l++k)))) S else .bad:=(rfl)
@[simp] def zsg:zeM t f ρ S=zok t ρ (f ρ S):=by
 unfold zeM zok
 cases f ρ S with
 | ok d S'=>dsimp only;cases t.put ρ d<;>rfl
 | exc c S'=>rfl
 | bad=>rfl
@[simp] def zuX:zok t ρ (.ok d S)=ztn S (t.put ρ d):=(rfl)
@[simp] def zwi:ztn S (some ρ')=.nx ρ' S:=(rfl)
@[simp] def zt0:zhi t it a ρ S=zu8 t a ρ (it ρ S):=(rfl)
@[simp] def zwt:zu8 t a ρ (.ok ds S)=zhH t a ds ρ S:=(rfl)
@[simp] def zvo:sRz x fs ρ S=kRz x ρ (zao fs ρ S):=(rfl)
@[simp] def zw0:kRz x ρ (.ok ds S)=if small ds.length then .ex x ρ S else .bad:=(rfl)
@[simp] def zt5:(Tg.tup is).put ρ (.tup ds)=zdn is ds ρ:=(rfl)
@[simp] def zt7:zdn (i::is) (d::ds) ρ=zdn is ds (ρ.set i (some (false,d))):=(rfl)
@[simp] def zt6:zdn [] [] ρ=some ρ:=(rfl)
@[simp] def zuf:zaf i ρ S=zu3 S ρ[i]?:=(rfl)
@[simp] def zv9:zu3 S (some (some (false,d)))=.ok d S:=(rfl)
@[simp] def zuj:zad i ρ S=zvb S ρ[i]?:=(rfl)
@[simp] def zwC:zvb S (some (some (o,d)))=.ok d S:=(rfl)
@[simp] def zui:zab d ρ S=.ok d S:=(rfl)
@[simp] def zvC:eUn u f ρ S=kUn u (f ρ S):=by
 unfold eUn;cases f ρ S<;>rfl
@[simp] def zwa:kUn u (.ok d S)=Out.of (u d) S:=(rfl)
@[simp] def zuk:zag u f g ρ S=zvc u g ρ (f ρ S):=by
 unfold zag
 cases f ρ S with
 | ok a S1=>show ((g ρ S1).bind fun b S2=>Out.of (u a b) S2)=zlF u a (g ρ S1);cases g ρ S1<;>rfl
 | exc c S=>rfl
 | bad=>rfl
@[simp] def zuW:zvc u g ρ (.ok d S)=zlF u d (g ρ S):=(rfl)
@[simp] def zuV:zlF u d (.ok e S)=Out.of (u d e) S:=(rfl)
@[simp] def zvH:eIf c f g ρ S=kIf f g ρ (c ρ S):=by
 unfold eIf;cases c ρ S<;>rfl
@[simp] def zws:kIf f g ρ (.ok (.bl true) S)=f ρ S:=(rfl)
@[simp] def zwr:kIf f g ρ (.ok (.bl false) S)=g ρ S:=(rfl)
@[simp] def zul:zf3 f g ρ S=ztr g ρ (f ρ S):=by
 unfold zf3;cases f ρ S<;>rfl
@[simp] def zu2:ztr g ρ (.ok (.bl true) S)=g ρ S:=(rfl)
@[simp] def zu1:ztr g ρ (.ok (.bl false) S)=.ok (.bl false) S:=(rfl)
@[simp] def zvF:eOr f g ρ S=kOr g ρ (f ρ S):=by
 unfold eOr;cases f ρ S<;>rfl
@[simp] def zwk:kOr g ρ (.ok (.bl true) S)=.ok (.bl true) S:=(rfl)
@[simp] def zwj:kOr g ρ (.ok (.bl false) S)=g ρ S:=(rfl)
@[simp] def zsk:zao [] ρ S=.ok [] S:=(rfl)
@[simp] def zsl:zao (f::fs) ρ S=zq3 fs ρ (f ρ S):=by
 show ((f ρ S).bind fun d S1=>(zao fs ρ S1).bind fun ds S2=>.ok (d::ds) S2)=_
 cases f ρ S with
 | ok a S1=>show ((zao fs ρ S1).bind fun ds S2=>.ok (a::ds) S2)=zhA a (zao fs ρ S1);cases zao fs ρ S1<;>rfl
 | exc c S=>rfl
 | bad=>rfl
@[simp] def zti:zq3 fs ρ (.ok d S)=zhA d (zao fs ρ S):=(rfl)
@[simp] def zth:zhA d (.ok ds S)=.ok (d::ds) S:=(rfl)
@[simp] def zug:zfe fs ρ S=zu4 (zao fs ρ S):=by
 unfold zfe;cases zao fs ρ S<;>rfl
@[simp] def zwb:zu4 (.ok ds S)=if small ds.length then .ok (.tup ds) S else .bad:=(rfl)
@[simp] def zuh:zes fs ρ S=zu6 (zao fs ρ S):=by
 unfold zes;cases zao fs ρ S<;>rfl
@[simp] def zwm:zu6 (.ok ds S)=if small ds.length then .ok (.lst ds) S else .bad:=(rfl)
@[simp] def zso:zaq u fs ρ S=zq4 u (zao fs ρ S):=by
 unfold zaq;cases zao fs ρ S<;>rfl
@[simp] def ztk:zq4 u (.ok ds S)=Out.of (u ds) S:=(rfl)
@[simp] def zvI:eFn r fs ρ S=kFn r (zao fs ρ S):=by
 unfold eFn;cases zao fs ρ S<;>rfl
@[simp] def zwu:kFn r (.ok ds S)=r ds S:=(rfl)
@[simp] def zrU:zc0 u v f g h ρ S=zmy u v g h ρ (f ρ S):=by
 show ((f ρ S).bind fun a S1=>(g ρ S1).bind fun b S2=>match (u a b).bind isB with
  | some true=>(h ρ S2).bind fun c S3=>Out.of (v b c) S3
  | some false=>.ok (.bl false) S2
  | none=>.bad)=_
 cases f ρ S with
 | ok a S1 =>
  show ((g ρ S1).bind fun b S2=>match (u a b).bind isB with
   | some true=>(h ρ S2).bind fun c S3=>Out.of (v b c) S3
   | some false=>.ok (.bl false) S2
   | none=>.bad)=ze0 u v h ρ a (g ρ S1)
  cases g ρ S1 with
  | ok b S2 =>
   show (match (u a b).bind isB with
    | some true=>(h ρ S2).bind fun c S3=>Out.of (v b c) S3
    | some false=>.ok (.bl false) S2
    | none=>.bad)=zdX v h ρ b S2 (u a b)
   cases hu:u a b with
   | none=>rfl
   | some d =>
    show (match isB d with
     | some true=>(h ρ S2).bind fun c S3=>Out.of (v b c) S3
     | some false=>.ok (.bl false) S2
     | none=>.bad)=(match isB d with | some true=>zdY v b (h ρ S2) | some false=>.ok (.bl false) S2 | none=>.bad)
    cases hb:isB d with
    | none=>rfl
    | some x=>cases x with
     | true=>show ((h ρ S2).bind fun c S3=>Out.of (v b c) S3)=zdY v b (h ρ S2);cases h ρ S2<;>rfl
     | false=>rfl
  | exc c S=>rfl
  | bad=>rfl
 | exc c S=>rfl
 | bad=>rfl
@[simp] def zwA:zmy u v g h ρ (.ok d S)=ze0 u v h ρ d (g ρ S):=(rfl)
@[simp] def zwz:ze0 u v h ρ d (.ok e S)=zdX v h ρ e S (u d e):=(rfl)
@[simp] def zwy:zdX v h ρ e S (some (.bl true))=zdY v e (h ρ S):=(rfl)
@[simp] def zwx:zdX v h ρ e S (some (.bl false))=.ok (.bl false) S:=(rfl)
@[simp] def zww:zdY v e (.ok d S)=Out.of (v e d) S:=(rfl)
@[simp] def zrT:zcc none ρ S=.ok none S:=(rfl)
@[simp] def zrS:zcc (some f) ρ S=zu7 (f ρ S):=by
 show ((f ρ S).bind fun d S1=>match d with | .int i=>.ok (some i) S1 | _=>.bad)=_
 cases f ρ S with
 | ok d S'=>cases d<;>rfl
 | exc c S'=>rfl
 | bad=>rfl
@[simp] def zwq:zu7 (.ok (.int i) S)=.ok (some i) S:=(rfl)
@[simp] def zvE:eSl f l u ρ S=kSl l u ρ (f ρ S):=by
 unfold eSl
 cases f ρ S with
 | ok d S1 =>
  show ((zcc l ρ S1).bind fun l S2=>(zcc u ρ S2).bind fun u S3=>Out.of (slD d l u) S3)=zr4 d u ρ (zcc l ρ S1)
  cases zcc l ρ S1 with
  | ok l S2=>show ((zcc u ρ S2).bind fun u S3=>Out.of (slD d l u) S3)=zr3 d l (zcc u ρ S2);cases zcc u ρ S2<;>rfl
  | exc c S=>rfl
  | bad=>rfl
 | exc c S=>rfl
 | bad=>rfl
@[simp] def zwZ:kSl l u ρ (.ok d S)=zr4 d u ρ (zcc l ρ S):=(rfl)
@[simp] def zwf:zr4 d u ρ (.ok l S)=zr3 d l (zcc u ρ S):=(rfl)
@[simp] def zwe:zr3 d l (.ok u S)=Out.of (slD d l u) S:=(rfl)
@[simp] def zsj:zas f ρ S=zhz (f ρ S):=by
 show ((f ρ S).bind fun d S1=>match d with | .str x=>.ok (ziy x) S1 | .lst l=>.ok l S1 | .tup l=>.ok l S1 | .dic ds=>if zaz ds then .ok ((zeZ ds).map D.str) S1 else .bad | _=>.bad)=_
 cases f ρ S with
 | ok d S'=>cases d<;>rfl
 | exc c S'=>rfl
 | bad=>rfl
@[simp] def zwn{x:Str}:zhz (.ok (.str x) S)=.ok (ziy x) S:=(rfl)
@[simp] def zwp:zhz (.ok (.lst l) S)=.ok l S:=(rfl)
@[simp] def zwo:zhz (.ok (.tup l) S)=.ok l S:=(rfl)
@[simp] def zt4:zdh f ρ S=zqZ (zao [f] ρ S):=by
 unfold zdh;cases zao [f] ρ S<;>rfl
@[simp] def zuI:zqZ (.ok [.int j] S)=if -1000000<=j/\j<=1000000 then .ok (za3 0 j) S else .bad:=(rfl)
@[simp] def zum:zbI n t it c f caps ρ S=zoj t c f (zbo n caps ρ) (it ρ S):=by
 unfold zbI
 cases it ρ S with
 | ok ds S' =>
  simp only [Out.bind,zoj]
  cases za6 t c f (zbo n caps ρ) ds S'<;>rfl
 | exc c S'=>rfl
 | bad=>rfl
@[simp] def zuU:zoj t c f ρ0 (.ok ds S)=zjF (za6 t c f ρ0 ds S):=(rfl)
@[simp] def ztj:zjF (.ok ys S)=if small ys.length then .ok (.lst ys) S else .bad:=(rfl)
@[simp] def zo3:zbo n caps ρ=List.replicate n none++caps.map (zko ρ):=(rfl)
@[simp] def zun:zko ρ i=zva ρ[i]?:=(rfl)
@[simp] def zwB:zva (some (some (false,d)))=some (false,d):=(rfl)
def zak:zcg n own fs ds S=ztm own (fs (ds.map (fun d=>some (false,d))++List.replicate (n-ds.length) none) S):=(rfl)
@[simp] def zuH:ztm own (.rt d S)=.ok d S:=(rfl)
@[simp] def zuG:ztm own (.ex x ρ S)=.exc x S:=(rfl)
@[simp] def zvz{b:Bool}:isB (.bl b)=some b:=(rfl)
@[simp] def zuo:zbu (.int i) (.int j)=some (.int (i+j)):=(rfl)
@[simp] def zvt:ziz (.int i) (.int j)=if zbS i||zbS j then some (.int (i*j)) else none:=(rfl)
@[simp] def zvu:zgH (.int i) (.int j)=if 0<j then some (.int (i % j)) else none:=(rfl)
@[simp] def zvJ:zkC (.int i) (.int j)=if 0<j/\j<1073741824 then some (.int (i / j)) else none:=(rfl)
@[simp] def zwX:ltD (.int i) (.int j)=some (.bl (decide (i<j))):=(rfl)
@[simp] def zwY:leD (.int i) (.int j)=some (.bl (decide (i<=j))):=(rfl)
@[simp] def zvx:ixD (.lst l) (.int i)=atI l i:=(rfl)
@[simp] def zvv:ixD (.tup l) (.int i)=atI l i:=(rfl)
@[simp] def zvw:ixD (.scr l) (.int i)=(atI l i).map D.int:=(rfl)
@[simp] def zt9:zem [.tup l]=some (.int l.length):=(rfl)
@[simp] def zua:zem [.scr l]=some (.int l.length):=(rfl)
@[simp] def ztV:zbJ [.lst l]=some (.tup l):=(rfl)
@[simp] def zt8:zid (.bl x) (.bl y)=some (.bl (!decide (x=y))):=(rfl)
@[simp] def zse:small n=decide (n<=100000):=(rfl)
def zcx{α:Type}(xs:List α)(j:Nat):atI xs (j:Int)=xs[j]?:=by
 unfold atI ixN
 by_cases h:j<xs.length
 ·simp [h]
 ·simp [h]
@[simp] def zsc{α:Type}(xs:List α):atI xs 0=xs[0]?:=zcx xs 0
@[simp] def ztN{α:Type}(xs:List α):atI xs 1=xs[1]?:=zcx xs 1
def zhV{α:Type}{xs:List α}(h:0<=i):atI xs i=xs[i.toNat]?:=by
 obtain ⟨n,rfl⟩:=ybc h;exact zcx xs n
end
theorem zbr(Iv:Nat->Env->Prop)(step:∀k d ρ,ds[k]?=some d->Iv k ρ->∃ρ1 ρ2,tg.put ρ d=some ρ1/\body ρ1 S=.nx ρ2 S/\Iv (k+1) ρ2)(h0:Iv 0 ρ):∃ρ',zhH tg body ds ρ S=.nx ρ' S/\Iv ds.length ρ':=by
 have go:∀(n:Nat) (es:List D) (k:Nat) (ρ:Env),es.length=n->ds.drop k=es->k+n=ds.length->Iv k ρ->∃ρ',zhH tg body es ρ S=.nx ρ' S/\Iv ds.length ρ':=by
  intro n
  induction n with
  | zero =>
   intro es k ρ hl he hk hi;obtain rfl:es=[]:=List.eq_nil_of_length_eq_zero hl;exact ⟨ρ,rfl,by rw [show ds.length=k by omega];exact hi⟩
  | succ n ih =>
   intro es k ρ hl he hk hi
   cases es with
   | nil=>cases hl
   | cons d es =>
    have hd:ds[k]?=some d:=by
     have:=congrArg (fun l=>l[0]?) he;rw [ybH] at this;simpa using this
    obtain ⟨ρ1,ρ2,e1,e2,hi2⟩:=step k d ρ hd hi;obtain ⟨ρ',e3,e4⟩:=ih es (k+1) ρ2 (by simpa using hl) (by rw [<-List.drop_drop,he];rfl) (by omega) hi2;refine ⟨ρ',?_,e4⟩;unfold zhH;rw [e1];dsimp only;rw [e2];exact e3
 exact go ds.length ds 0 ρ rfl (by simp) (by omega) h0
theorem zf6:∀{ds:List D},(∀d∈ds,∃ρ1,tg.put ρ0 d=some ρ1/\c ρ1 S=.ok (.bl (p d)) S/\(p d=true->elt ρ1 S=.ok (g d) S))->za6 tg c elt ρ0 ds S=.ok ((ds.filter p).map g) S
 | [],_=>rfl
 | d::ds,h=>by
  obtain ⟨ρ1,e1,e2,e3⟩:=h d yah;have ih:=zf6 (ds:=ds) fun x hx=>h x (yag _ hx)
  unfold za6;rw [e1];dsimp only;rw [e2]
  cases hp:p d with
  | true=>simp [e3 hp,ih,hp]
  | false=>simp [ih,hp]
def zax(h:∀d∈ds,∃ρ1,tg.put ρ0 d=some ρ1/\elt ρ1 S=.ok (g d) S):za6 tg zcz elt ρ0 ds S=.ok (ds.map g) S:=by
 have:=zf6 (c:=zcz) (p:=fun _=>true) (tg:=tg) (elt:=elt) (ρ0:=ρ0) (S:=S) (g:=g) (ds:=ds) fun d hd=>by
  obtain ⟨ρ1,e1,e2⟩:=h d hd;exact ⟨ρ1,e1,rfl,fun _=>e2⟩
 rw [this,List.filter_eq_self.mpr (fun _ _=>rfl)]
mutual
def D.pl:D->Bool
 | .non=>true
 | .int _=>true
 | .str _=>true
 | .tup l=>D.pls l
 | .lst l=>D.pls l
 | _=>false
def D.pls:List D->Bool
 | []=>true
 | d::l=>d.pl&&D.pls l
end
theorem D.pls_iff:∀{l:List D},D.pls l=true↔∀d∈l,d.pl=true
 | []=>by simp [D.pls]
 | d::l=>by simp [D.pls,D.pls_iff (l:=l)]
mutual
theorem zhK:∀(d e:D),d.pl=true->e.pl=true->(d.py.eqv e.py=true↔d=e)
 | .non,e,_,h=>by cases e<;>simp [D.py,PyData.eqv,D.pl] at h ⊢
 | .int i,e,_,h=>by cases e<;>simp [D.py,PyData.eqv,D.pl] at h ⊢
 | .str x,e,_,h=>by cases e<;>simp [D.py,PyData.eqv,D.pl] at h ⊢
 | .tup l,e,hd,h=>by
  cases e with
  | tup k =>
   simp only [D.py,PyData.eqv,D.pl] at hd h ⊢;rw [zgR l k hd h];simp
  | _=>simp [D.py,PyData.eqv,D.pl] at h ⊢
 | .lst l,e,hd,h=>by
  cases e with
  | lst k =>
   simp only [D.py,PyData.eqv,D.pl] at hd h ⊢;rw [zgR l k hd h];simp
  | _=>simp [D.py,PyData.eqv,D.pl] at h ⊢
 | .bl _,_,hd,_=>by simp [D.pl] at hd
 | .dic _,_,hd,_=>by simp [D.pl] at hd
 | .ref _,_,hd,_=>by simp [D.pl] at hd
 | .exc _,_,hd,_=>by simp [D.pl] at hd
 | .scr _,_,hd,_=>by simp [D.pl] at hd
theorem zgR:∀(l k:List D),D.pls l=true->D.pls k=true->(PyData.eqvAll (D.pys l) (D.pys k)=true↔l=k)
 | [],[],_,_=>by simp [D.pys,PyData.eqvAll]
 | [],_::_,_,_=>by simp [D.pys,PyData.eqvAll]
 | _::_,[],_,_=>by simp [D.pys,PyData.eqvAll]
 | d::l,e::k,h1,h2=>by
  simp only [D.pls,yab] at h1 h2;simp only [D.pys,PyData.eqvAll,yab,List.cons.injEq];rw [zhK d e h1.1 h2.1,zgR l k h1.2 h2.2]
end
@[simp] def zox:D.fit n (.int i)=true:=by cases n<;>rfl
@[simp] def zvB:eqD (.int i) (.int j)=some (.bl (decide (i=j))):=by
 unfold eqD zeR;simp [D.py,PyData.eqv]
 cases h:(i == j)<;>simp_all
@[simp] def zvs:neD (.int i) (.int j)=some (.bl (!decide (i=j))):=by
 unfold neD zeR;simp [D.py,PyData.eqv]
 cases h:(i == j)<;>simp_all
def zer:eqD (.scr l) (.lst [])=some (.bl (decide (l=[]))):=by
 cases l with
 | nil=>rfl
 | cons a l=>simp [eqD,D.fit,D.fits,zeR,D.py,D.pys,PyData.eqv,PyData.eqvAll]
noncomputable def ziq(l:List Int)(k:Int):Int:=if k<l.length then l.getD k.toNat 0 else if l=[] then 0 else l.getD (k % l.length).toNat 0*31+k
def zbn(l:List Int)(k:Int)(many:Int):Int :=
 let d:=(ziq l k+6151*(k+1))*40692 % 2147483399
 (d*d+d / 31) % 2147483629 % many
def zbm(l:List Int)(k:Int)(h:0<many):0<=zbn l k many/\zbn l k many<many:=⟨ybA _ (by omega),ybl _ h⟩
@[simp] def zvf:zbS 31=true:=by decide
@[simp] def zsb:zbS 6151=true:=by decide
@[simp] def zrj:zbS 40692=true:=by decide
theorem zri(h0:-(2 ^ 64)<i)(h:i<2 ^ 64):zbS i=true:=by unfold zbS;simp;omega
theorem zk0(hk:0<=k):zbe [.scr l,.int k] S=.ok (.int (ziq l k)) S:=by
 unfold ziq
 by_cases h:k<l.length
 ·have hx:l[k.toNat]?=some l[k.toNat]:=yaj (by omega);rw [if_pos h,ya2,hx];simp [zbe,zak,zbF,h,zhV hk,hx]
 ·by_cases h0:l=[]
  ·subst h0;simp [zbe,zak,zbF,zer,show ¬ k<0 by omega]
  ·have hl:0<l.length:=by cases l with | nil=>exact absurd rfl h0 | cons _ _=>simp
   have hm0:0<=k % (l.length:Int):=ybA _ (by omega);have hm1:k % (l.length:Int)<l.length:=ybl _ (by omega);have hx:l[(k % (l.length:Int)).toNat]?=some (l[(k % (l.length:Int)).toNat]'(by omega)):=yaj (by omega);rw [if_neg h,if_neg h0,ya2,hx];simp [zbe,zak,zbF,h,h0,zer,zhV hm0,hx,hl]
theorem za2(hk:0<=k)(hm:0<many):zai [.scr l,.int k,.int many] S=.ok (.int (zbn l k many)) S:=by
 unfold zbn;have h0:0<=(ziq l k+6151*(k+1))*40692 % 2147483399:=ybA _ (by omega);have h1:(ziq l k+6151*(k+1))*40692 % 2147483399<2147483399:=ybl _ (by omega);have hf:zbS ((ziq l k+6151*(k+1))*40692 % 2147483399)=true:=zri (by omega) (by omega);simp [zai,zak,zcI,zk0 hk,hf,hm]
noncomputable def zbb(t:List Int):D:=.tup (t.map D.int)
def zhD{t u:List Int}:t.map D.int=u.map D.int↔t=u:=by
 constructor
 ·intro h
  induction t generalizing u with
  | nil=>cases u with | nil=>rfl | cons _ _=>cases h
  | cons a t ih=>cases u with
   | nil=>cases h
   | cons b u =>
    simp only [yas,List.cons.injEq,D.int.injEq] at h;rw [h.1,ih h.2]
 ·rintro rfl;rfl
def zkL:zbb t=zbb u↔t=u:=by unfold zbb;rw [D.tup.injEq];exact zhD
def zlc{t:List Int}:D.pls (t.map D.int)=true:=by rw [D.pls_iff];intro d hd;obtain ⟨i,_,rfl⟩:=yad.mp hd;rfl
def zjd:(zbb t).pl=true:=zlc
def zj1{t:List Int}:D.fits n (t.map D.int)=true:=by rw [D.fits_iff];intro d hd;obtain ⟨i,_,rfl⟩:=yad.mp hd;exact zox
def zhI:(zbb t).fit (n+1)=true:=zj1
theorem zmw:∀{l:List D},d.pl=true->D.pls l=true->(ziA d l=true↔d∈l)
 | [],_,_=>by simp [ziA]
 | e::l,h,hl=>by
  simp only [D.pls,yab] at hl;have ih:=zmw (d:=d) (l:=l) h hl.2;have e1:=zhK e d hl.1 h;unfold ziA;simp only [ycR,ycx,yao];unfold ziA at ih;rw [ih];unfold zeR;rw [e1]
  constructor<;>(intro z;rcases z with z | z<;>simp [z])
def zfN{ts:Z2}:zn1 (zbb t) (.lst (ts.map zbb))=some (.bl (!decide (t∈ts))):=by
 have f1:(zbb t).fit 8=true:=zhI
 have f2:D.fits 8 (ts.map zbb)=true:=by rw [D.fits_iff];intro d hd;obtain ⟨i,_,rfl⟩:=yad.mp hd;exact zhI
 have p2:D.pls (ts.map zbb)=true:=by rw [D.pls_iff];intro d hd;obtain ⟨i,_,rfl⟩:=yad.mp hd;exact zjd
 have m:=zmw (d:=zbb t) zjd p2
 have:(zbb t∈ts.map zbb)↔t∈ts:=by
  rw [yad];constructor
  ·rintro ⟨u,hu,e⟩;rw [<-zkL.mp e];exact hu
  ·intro h;exact ⟨t,h,rfl⟩
 rw [this] at m;unfold zn1;simp only [ziW,f1,f2,ycU,ybK,Option.some.injEq,D.bl.injEq];congr 1
 by_cases h:t∈ts
 ·rw [m.mpr h];simp [h]
 ·cases hm:ziA (zbb t) (ts.map zbb)
  ·simp [h]
  ·exact absurd (m.mp hm) h
structure Tiles(most:Int)(ts:Z2):Prop where
 ne:1<=ts.length
 le:(ts.length:Int)<=most
 four:∀t∈ts,t.length=4
 col:∀t∈ts,∀c∈t,0<=c/\c<3
 nd:ts.Nodup
def zch{k:Nat}(h:(za3 0 hi)[k]?=some d):d=.int k/\(k:Int)<hi:=by
 unfold za3 at h;rw [yav] at h
 cases hr:(List.range (hi-0).toNat)[k]? with
 | none=>rw [hr] at h;cases h
 | some j =>
  rw [hr] at h;obtain ⟨h1,h2⟩:=yam.mp hr;simp at h1 h2;subst h2;simp at h;exact ⟨h.symm,by omega⟩
@[simp] def zfG:(za3 0 hi).length=hi.toNat:=by unfold za3;simp
def zgG(h:d.pl=true)(f:d.fit 9=true):neD d d=some (.bl false):=by
 unfold neD zeR;rw [f,(zhK d d h h).mpr rfl];rfl
def zoA(h:d.pl=true)(f:d.fit 9=true):eqD d d=some (.bl true):=by
 unfold eqD zeR;rw [f,(zhK d d h h).mpr rfl];rfl
def zp3:za3 0 4=[.int 0,.int 1,.int 2,.int 3]:=by rfl
@[simp] def zwO:zbS 4=true:=by decide
@[simp] def zwN:zbS 7=true:=by decide
theorem zm2(ha:0<=at')(hk:0<=k)(hc:0<col)(hc3:col<=3)(hn:ts.length<=1000) :
  ∃t y',t.length=4/\(∀c∈t,0<=c/\c<3)/\zaU [some (false,.scr l),some (false,.int at'),some (false,.int most),some (false,.int col),some (true,.lst (ts.map zbb)),some (false,.int k),y] S
   = .nx [some (false,.scr l),some (false,.int at'),some (false,.int most),some (false,.int col),some (true,.lst ((if t∈ts then ts else ts++[t]).map zbb)),some (false,.int k),y'] S:=by
 have hcomp:∀ρ0:Env,ρ0=[none,some (false,.int at'),some (false,.int col),some (false,.int k),some (false,.scr l)]->za6 (.one 0) zcz (eFn zai [(zaf 4),(zag zbu (zag zbu (zag zbu (zad 1) (zag ziz (zab (.int 4)) (zad 3))) (zab (.int 2))) (zad 0)),(zaf 2)]) ρ0 (za3 0 4) S
   = .ok ([zbn l (at'+4*k+2+0) col,zbn l (at'+4*k+2+1) col,zbn l (at'+4*k+2+2) col,zbn l (at'+4*k+2+3) col].map D.int) S:=by
  rintro _ rfl;rw [zp3,zax (g:=fun d=>match d with | .int i=>.int (zbn l (at'+4*k+2+i) col) | _=>.non)]
  ·rfl
  ·intro d hd;simp only [yao,ybX,or_false] at hd
   rcases hd with rfl | rfl | rfl | rfl<;>exact ⟨_,rfl,by simp;rw [za2 (by omega) hc]⟩
 have b0:=zbm l (at'+4*k+2+0) hc;have b1:=zbm l (at'+4*k+2+1) hc;have b2:=zbm l (at'+4*k+2+2) hc;have b3:=zbm l (at'+4*k+2+3) hc;generalize zbn l (at'+4*k+2+0) col=p0 at *;generalize zbn l (at'+4*k+2+1) col=p1 at *;generalize zbn l (at'+4*k+2+2) col=p2 at *;generalize zbn l (at'+4*k+2+3) col=p3 at *
 have fin:∀t:List Int,(zae (sFz [] (sIf (zag zn1 (zad 6) (zad 4)) (zae (sFz [6] (zmo 4 (zaf 6))) sNx) sNx)) sNx) [some (false,.scr l),some (false,.int at'),some (false,.int most),some (false,.int col),some (true,.lst (ts.map zbb)),some (false,.int k),some (false,zbb t)] S
   = .nx [some (false,.scr l),some (false,.int at'),some (false,.int most),some (false,.int col),some (true,.lst ((if t∈ts then ts else ts++[t]).map zbb)),some (false,.int k),some (false,zbb t)] S:=by
  intro t
  by_cases h:t∈ts
  ·simp [zfN,h]
  ·simp [zfN,h,show ts.length<=100000 by omega]
 by_cases h3:zbn l (at'+60+k) 3=0
 ·refine ⟨[p0,p1,p0,p1],some (false,zbb [p0,p1,p0,p1]),rfl,by simp;omega,?_⟩;rw [<-fin];simp [zaU,hcomp,za2 (show 0<=at'+60+k by omega) (show (0:Int)<3 by omega),h3];rfl
 ·refine ⟨[p0,p1,p2,p3],some (false,zbb [p0,p1,p2,p3]),rfl,by simp;omega,?_⟩;rw [<-fin];simp [zaU,hcomp,za2 (show 0<=at'+60+k by omega) (show (0:Int)<3 by omega),h3];rfl
theorem zi2(ha:0<=at')(hm:0<most)(hm2:most<=100):∃ts,Tiles most ts/\zbN [.scr l,.int at',.int most] S=.ok (.tup (ts.map zbb)) S:=by
 have b:=zbm l at' (many:=2) (by omega);have n:=zbm l (at'+1) hm;have p1:=za2 (l:=l) (S:=S) ha (show (0:Int)<2 by omega);have p2:=za2 (l:=l) (S:=S) (show 0<=at'+1 by omega) hm;generalize zbn l at' 2=c at *;generalize zbn l (at'+1) most=m at *
 obtain ⟨ρ',e,ts,x,y,rfl,h1,h2,h3,h4,h5⟩:=zbr (tg:=.one 5) (body:=zaU) (ds:=za3 0 (1+m)) (S:=S) (fun k ρ=>∃ts x y,ρ=[some (false,.scr l),some (false,.int at'),some (false,.int most),some (false,.int (2+c)),some (true,.lst (ts.map zbb)),x,y]/\ts.length<=k/\(0<k->1<=ts.length)/\(∀t∈ts,t.length=4)/\(∀t∈ts,∀c∈t,0<=c/\c<3)/\ts.Nodup) (by
   rintro k d ρ hd ⟨ts,x,y,rfl,h1,h2,h3,h4,h5⟩;obtain ⟨rfl,hk⟩:=zch hd;obtain ⟨t,y',a1,a2,a3⟩:=zm2 (l:=l) (at':=at') (most:=most) (col:=2+c) (k:=k) (S:=S) (ts:=ts) (y:=y) ha (by omega) (by omega) (by omega) (by omega);refine ⟨_,_,rfl,a3,_,_,_,rfl,?_,?_,?_,?_,?_⟩
   ·split<;>(try simp)<;>omega
   ·intro _;split
    ·rename_i h;exact List.length_pos_of_mem h
    ·simp
   ·intro u hu;split at hu
    ·exact h3 u hu
    ·rw [yaR,yaD] at hu
     rcases hu with hu | rfl
     ·exact h3 u hu
     ·exact a1
   ·intro u hu;split at hu
    ·exact h4 u hu
    ·rw [yaR,yaD] at hu
     rcases hu with hu | rfl
     ·exact h4 u hu
     ·exact a2
   ·split
    ·exact h5
    ·rename_i h;rw [ycN];refine ⟨h5,by simp,?_⟩
     intro a ha b hb;rw [yaD] at hb;subst hb;rintro rfl;exact h ha)
  (ρ:=[some (false,.scr l),some (false,.int at'),some (false,.int most),some (false,.int (2+c)),some (true,.lst []),none,none]) ⟨[],none,none,rfl,by simp,by simp,by simp,by simp,by simp⟩
 rw [zfG] at h1 h2;refine ⟨ts,⟨h2 (by omega),by omega,h3,h4,h5⟩,?_⟩;simp [zbN,zak,zcm,p1,p2,show -1000000<=1+m/\1+m<=1000000 by omega,e]
noncomputable def oD:Option Int->D | none=>.non | some i=>.int i
noncomputable def zgk(c:Nat)(g:Nat->Option Int):List D:=(List.range c).map fun j=>oD (g j)
def zrX(c:Nat)(g:Nat->Option Int):D:=.tup (zgk c g)
noncomputable def zlK(r c:Nat)(g:Z1):List D:=(List.range r).map fun i=>zrX c (g i)
def flr(r c:Nat)(g:Z1):D:=.tup (zlK r c g)
@[simp] def zk2:(zgk c g).length=c:=by simp [zgk]
@[simp] def zsa:(zlK r c g).length=r:=by simp [zlK]
def zi6:zgk (k+1) g=zgk k g++[oD (g k)]:=by simp [zgk,List.range_succ]
def zj0:zlK (k+1) c g=zlK k c g++[zrX c (g k)]:=by simp [zlK,List.range_succ]
def zjm(l:List Int)(at' n m:Int)(i j:Nat):Option Int:=if zbn l (at'+7*i+j) (n*m)<n then some (zbn l (at'+7*i+j) (n*m)) else none
theorem zqN(h:0<n*m):∀x,zjm l at' n m i j=some x->0<=x/\x<n:=by
 intro x e;unfold zjm at e;have:=zbm l (at'+7*i+j) h;split at e
 ·cases e;omega
 ·cases e
theorem zlL{l:List Int}{at' m:Int}{ts:List D}{r c:Nat}{i:Nat}{S:Sto}{A B Mm:Option (Bool×D)}{y:Option (Bool×D)}{z:Option (Bool×D)}(ha:0<=at')(hp:0<(ts.length:Int)*m)(hm:zbS m=true)(hc:c<=1000) :
  ∃y' z',zhH (.one 9) zaV (za3 0 c) [some (false,.scr l),some (false,.int at'),some (false,.tup ts),A,B,some (false,.int m),Mm,some (false,.int i),some (true,.lst []),y,z] S
   = .nx [some (false,.scr l),some (false,.int at'),some (false,.tup ts),A,B,some (false,.int m),Mm,some (false,.int i),some (true,.lst (zgk c (zjm l at' ts.length m i))),y',z'] S:=by
 obtain ⟨ρ',e,y',z',rfl⟩:=zbr (tg:=.one 9) (body:=zaV) (ds:=za3 0 c) (S:=S) (fun k ρ=>∃y z,ρ=[some (false,.scr l),some (false,.int at'),some (false,.tup ts),A,B,some (false,.int m),Mm,some (false,.int i),some (true,.lst (zgk k (zjm l at' ts.length m i))),y,z]) (by
  rintro k d ρ hd ⟨y,z,rfl⟩;obtain ⟨rfl,hk⟩:=zch hd;have p:=za2 (l:=l) (S:=S) (show 0<=at'+7*(i:Int)+(k:Int) by omega) hp;have pn:=zbm l (at'+7*(i:Int)+(k:Int)) hp;refine ⟨_,_,rfl,?_,some (false,.int k),some (false,.int (zbn l (at'+7*i+k) (ts.length*m))),rfl⟩
  ·rw [zi6]
   by_cases h:zbn l (at'+7*(i:Int)+(k:Int)) (ts.length*m)<ts.length
   ·simp [zaV,p,hm,h,zjm,oD,show k<=100000 by omega]
   ·simp [zaV,p,hm,h,zjm,oD,show k<=100000 by omega])
  (ρ:=[some (false,.scr l),some (false,.int at'),some (false,.tup ts),A,B,some (false,.int m),Mm,some (false,.int i),some (true,.lst []),y,z]) ⟨y,z,rfl⟩
 exact ⟨y',z',by simpa using e⟩
theorem zi5(ha:0<=at')(hp:0<(ts.length:Int)*m)(hm:zbS m=true)(hr:0<=r)(hr2:r<=1000)(hc:0<=c)(hc2:c<=1000) :
  zbP [.scr l,.int at',.tup ts,.int r,.int c,.int m] S=.ok (flr r.toNat c.toNat (zjm l at' ts.length m)) S:=by
 obtain ⟨r,rfl⟩:=ybc hr;obtain ⟨c,rfl⟩:=ybc hc
 obtain ⟨ρ',e,x1,x2,x3,x4,rfl⟩:=zbr (tg:=.one 7) (body:=zbX) (ds:=za3 0 r) (S:=S) (fun k ρ=>∃x1 x2 x3 x4,ρ=[some (false,.scr l),some (false,.int at'),some (false,.tup ts),some (false,.int r),some (false,.int c),some (false,.int m),some (true,.lst (zlK k c (zjm l at' ts.length m))),x1,x2,x3,x4]) (by
  rintro k d ρ hd ⟨x1,x2,x3,x4,rfl⟩;obtain ⟨rfl,hk⟩:=zch hd;obtain ⟨y',z',e⟩:=zlL (l:=l) (at':=at') (m:=m) (ts:=ts) (r:=r) (c:=c) (i:=k) (S:=S) (A:=some (false,.int r)) (B:=some (false,.int c)) (Mm:=some (true,.lst (zlK k c (zjm l at' ts.length m)))) (y:=x3) (z:=x4) ha hp hm (by omega);refine ⟨_,_,rfl,?_,some (false,.int k),some (true,.lst (zgk c (zjm l at' ts.length m k))),y',z',rfl⟩
  ·rw [zj0]
   simp [zbX,e,zrX,show -1000000<=(c:Int)/\(c:Int)<=1000000 by omega,show k<=100000 by omega])
  (ρ:=[some (false,.scr l),some (false,.int at'),some (false,.tup ts),some (false,.int r),some (false,.int c),some (false,.int m),some (true,.lst []),none,none,none,none]) ⟨none,none,none,none,rfl⟩
 simp at e;simp [zbP,zak,zco,e,flr,show -1000000<=(r:Int)/\(r:Int)<=1000000 by omega]
end S2
namespace TX
open PySem
noncomputable abbrev L(x:Str):List Nat:=x.cps.toList
noncomputable abbrev T(l:List Nat):Str:=⟨l.toArray⟩
def zdi{a b:Str}(h:L a=L b):a=b:=Str.ext' (Array.toList_inj.mp h)
def L_T(l:List Nat):L (T l)=l:=List.toList_toArray
def TL(x:Str):T (L x)=x:=zdi (L_T _)
def zcK(a b:Str):L (a++b)=L a++L b:=by show (a.cps++b.cps).toList=_;simp
def zdy(a:Str):(L a).length=a.length:=by show a.cps.toList.length=a.cps.size;simp
def zfM:("\n":Str)=⟨#[10]⟩:=by decide +kernel
def znl:(" ":Str)=⟨#[32]⟩:=by decide +kernel
def zj5:("":Str)=⟨#[]⟩:=by decide +kernel
noncomputable def jn(c:Nat):List (List Nat)->List Nat
 | []=>[]
 | [x]=>x
 | x::y::r=>x++c::jn c (y::r)
theorem ze2(c:Nat):∀ps:List Str,L (Str.join ⟨#[c]⟩ ps)=jn c (ps.map L)
 | []=>rfl
 | [x]=>rfl
 | x::y::r=>by
  show L (x++⟨#[c]⟩++Str.join ⟨#[c]⟩ (y::r))=L x++c::jn c ((y::r).map L);rw [zcK,zcK,ze2 c (y::r)];show (L x++[c])++_=_;rw [ybg];rfl
theorem zgM:∀ps:List Str,L (Str.join ⟨#[]⟩ ps)=(ps.map L).flatten
 | []=>rfl
 | [x]=>by simp [Str.join]
 | x::y::r=>by
  show L (x++⟨#[]⟩++Str.join ⟨#[]⟩ (y::r))=L x++((y::r).map L).flatten;rw [zcK,zcK,zgM (y::r)];show (L x++[])++_=_;rw [ybj]
def zom{c:Nat}{x:List Nat}{r:List (List Nat)}(h:r≠[]):jn c (x::r)=x++c::jn c r:=by
 cases r with
 | nil=>exact absurd rfl h
 | cons y r=>rfl
theorem zmL{c:Nat}:∀{a b x y:List Nat},c ∉ a->c ∉ b->a++c::x=b++c::y->a=b/\x=y
 | [],[],x,y,_,_,h=>⟨rfl,(List.cons.inj h).2⟩
 | [],b::bs,x,y,_,hb,h=>absurd (yao.mpr (.inl (List.cons.inj h).1)) hb
 | a::as,[],x,y,ha,_,h=>absurd (yao.mpr (.inl (List.cons.inj h).1.symm)) ha
 | a::as,b::bs,x,y,ha,hb,h=>by
  obtain ⟨h1,h2⟩:=List.cons.inj h;obtain ⟨e1,e2⟩:=zmL (fun z=>ha (yag _ z)) (fun z=>hb (yag _ z)) h2;exact ⟨by rw [h1,e1],e2⟩
theorem zmz{c:Nat}:∀{ps qs:List (List Nat)},ps≠[]->qs≠[]->(∀p∈ps,c ∉ p)->(∀p∈qs,c ∉ p)->jn c ps=jn c qs->ps=qs
 | [],_,h,_,_,_,_=>absurd rfl h
 | _,[],_,h,_,_,_=>absurd rfl h
 | [x],[y],_,_,_,_,h=>by rw [show x=y from h]
 | [x],y::z::r,_,_,h1,_,h=>by
  have h:x=y++c::jn c (z::r):=h;exact absurd (by rw [h];exact yaR.mpr (.inr yah)) (h1 x yah)
 | y::z::r,[x],_,_,_,h1,h=>by
  have h:y++c::jn c (z::r)=x:=h;exact absurd (by rw [<-h];exact yaR.mpr (.inr yah)) (h1 x yah)
 | x::y::r,x'::y'::r',_,_,h1,h2,h=>by
  obtain ⟨e1,e2⟩:=zmL (h1 x yah) (h2 x' yah) (show x++c::jn c (y::r)=x'++c::jn c (y'::r') from h);rw [e1,zmz (ps:=y::r) (qs:=y'::r') (ycp _ _) (ycp _ _) (fun p hp=>h1 p (yag _ hp)) (fun p hp=>h2 p (yag _ hp)) e2]
def zkP(x y:Str):Txt.split x y≠[]:=by
 unfold Txt.split;split
 ·exact fun z=>nomatch z
 ·split
  ·exact fun z=>nomatch z
  ·rw [StrLaws.partsBetween_eq];obtain ⟨p,r,e⟩:=StrLaws.partsFrom_ne x y.length 0 (Builtin.Str.occurrences x y 0 x.length (x.length+1))
   rw [e];exact fun z=>nomatch z
def zcs(x:Str)(c:Nat):jn c ((Txt.split x ⟨#[c]⟩).map L)=L x:=by rw [<-ze2,StrLaws.join_split]
def zju{ps qs:List Str}(h:ps.map L=qs.map L):ps=qs:=by
 have:=congrArg (List.map T) h;rw [yaq,yaq] at this;have e:(T∘L)=id:=funext TL
 rwa [e,ych,ych] at this
def zc5{c:Nat}{ps:List Str}(h:ps≠[])(hc:∀p∈ps,c ∉ L p){x:Str}(hx:L x=jn c (ps.map L)):Txt.split x ⟨#[c]⟩=ps:=by
 refine zju (zmz (c:=c) (fun z=>zkP x _ (ya0.mp z)) (fun z=>h (ya0.mp z)) (fun p hp=>?_) (fun p hp=>?_) (by rw [zcs,hx]))
 ·obtain ⟨q,hq,rfl⟩:=yad.mp hp;exact StrLaws.split_free x c q hq
 ·obtain ⟨q,hq,rfl⟩:=yad.mp hp;exact hc q hq
def zce(x:Str)(c:Nat):(Txt.split x ⟨#[c]⟩).length<=x.length+1/\∀p∈Txt.split x ⟨#[c]⟩,p.length<=x.length:=by
 have key:∀ps:List (List Nat),ps.length<=(jn c ps).length+1/\∀p∈ps,p.length<=(jn c ps).length:=by
  intro ps
  induction ps with
  | nil=>exact ⟨yaP _,fun p hp=>nomatch hp⟩
  | cons a r ih =>
   by_cases hr:r=[]
   ·subst hr;refine ⟨?_,fun p hp=>?_⟩
    ·show 1<=a.length+1;omega
    ·obtain rfl:=yaD.mp hp;exact yak _
   ·rw [zom hr,yar,yan,yan];refine ⟨by have:=ih.1;omega,fun p hp=>?_⟩
    rcases yao.mp hp with rfl | hp
    ·omega
    ·have:=ih.2 p hp;omega
 obtain ⟨k1,k2⟩:=key ((Txt.split x ⟨#[c]⟩).map L);rw [zcs,zdy,yac] at k1;refine ⟨k1,fun p hp=>?_⟩;have:=k2 _ (ybh hp)
 rwa [zcs,zdy,zdy] at this
def zj4(x:Str):Txt.endswith x ⟨#[10]⟩=true↔∃b,L x=b++[10]:=by
 unfold Txt.endswith;rw [yab,StrLaws.subAt_eq,yaA];show (0+1<=x.length/\(((L x).drop (x.length-1)).take 1 == [10])=true)↔_;rw [ycK,<-zdy];constructor
 ·rintro ⟨h1,h2⟩;refine ⟨(L x).take ((L x).length-1),?_⟩;have e:=ycl ((L x).length-1) (L x);rw [yce (by rw [yco];omega)] at h2;rw [h2] at e;exact e.symm
 ·rintro ⟨b,e⟩;rw [e,yar,ybL];refine ⟨by omega,?_⟩;rw [Nat.add_sub_cancel,List.drop_left];rfl
def zeg{x:Str}{b:List Nat}{c:Nat}(h:L x=b++[c]):Txt.slice x none (some (-1))=T b:=by
 have hl:x.length=b.length+1:=by rw [<-zdy,h,yar];rfl
 have e:Txt.slice x none (some (-1))=_:=StrLaws.sliceText_to_neg (x:=x) (j:=-1) (by decide) (by omega);rw [e,show x.cps.toList=b++[c] from h,hl,ycI,show (-1+((b.length+1:Nat):Int)-0).toNat=b.length by omega,List.take_left]
def zfu{x:Str}{b:List Nat}{c:Nat}(h:L x=c::b):Txt.slice x (some 1) none=T b:=by
 have hl:(x.cps.toList.length:Int)=b.length+1:=by rw [show x.cps.toList=c::b from h];rfl
 have e:Txt.slice x (some 1) none=_:=StrLaws.sliceText_from (x:=x) (i:=1) ⟨by decide,by omega⟩;rw [e,hl,show x.cps.toList=c::b from h];show (⟨(b.take (((b.length:Int)+1-1)).toNat).toArray⟩:Str)=_;rw [show ((b.length:Int)+1-1).toNat=b.length by omega,ybr]
noncomputable def dI(i:Int):Str:=toString i
noncomputable abbrev dg(n:Nat):Str:=dI n
def zhO:∀n,n<9->dg n=⟨#[48+n]⟩:=by decide +kernel
def zgX:∀n,n<12->10 ∉ L (dg n)/\32 ∉ L (dg n)/\(L (dg n)).length<=2/\L (dg n)≠[]:=by decide +kernel
def zrd(c:Nat):(!(Builtin.Str.occurrences ("012345678":Str) ⟨#[c]⟩ 0 ("012345678":Str).length 1).isEmpty)=decide (48<=c/\c<=56):=by
 rw [StrLaws.found_one]
 have e:("012345678":Str).cps.toList=[48,49,50,51,52,53,54,55,56]:=by decide +kernel
 rw [e]
 by_cases h:48<=c/\c<=56
 ·rw [yaJ h,yaJ]
  have:∀c,c<=56->48<=c->c∈[48,49,50,51,52,53,54,55,56]:=by decide
  exact this c h.2 h.1
 ·rw [yaW h,yaW];intro z;apply h;simp only [yao,ybX,or_false] at z;omega
def zrG:∀c,c<=56->48<=c->(Builtin.Str.occurrences ("012345678":Str) ⟨#[c]⟩ 0 ("012345678":Str).length 1).head?=some (c-48):=by decide +kernel
end TX
namespace S2
open PySem TX
open L2 hiding D
def zr2(g:Str->D->Option D)(x:Str):Out D->Out D | .ok d S=>Out.of (g x d) S | .exc c S=>.exc c S | .bad=>.bad
noncomputable def kSm(g:Str->D->Option D)(f:Fe)(ρ:Env):Out D->Out D | .ok d S=>(match d with | .str x=>zr2 g x (f ρ S) | _=>.bad) | .exc c S=>.exc c S | .bad=>.bad
def zlD(ds:List (D×D))(k:D):Out D->Out D | .ok z S=>(match k with | .str x=>.ok ((zaK x ds).getD z) S | _=>.bad) | .exc c S=>.exc c S | .bad=>.bad
noncomputable def zlE(f2:Fe)(ρ:Env)(ds:List (D×D)):Out D->Out D | .ok k S=>zlD ds k (f2 ρ S) | .exc c S=>.exc c S | .bad=>.bad
def zq1(f f2:Fe)(ρ:Env):Out D->Out D | .ok d S=>(match d with | .dic ds=>if zaz ds then zlE f2 ρ ds (f ρ S) else .bad | _=>.bad) | .exc c S=>.exc c S | .bad=>.bad
noncomputable def zq2(k:Str):Out D->Out D | .ok d S=>.ok (.dic [(.str k,d)]) S | .exc c S=>.exc c S | .bad=>.bad
def zr5(i:Nat)(ρ:Env)(ds:List (D×D))(d:D):Out D->Fo | .ok k S=>(match k with | .str x=>.nx (ρ.set i (some (true,.dic (putS x d ds)))) S | _=>.bad) | .exc c S=>.ex c ρ S | .bad=>.bad
noncomputable def zr6(i:Nat)(fk:Fe)(ρ:Env)(ds:List (D×D)):Out D->Fo | .ok d S=>zr5 i ρ ds d (fk ρ S) | .exc c S=>.ex c ρ S | .bad=>.bad
noncomputable def kPX(i:Nat)(fk fe:Fe)(ρ:Env)(S:Sto):Option (List (D×D))->Fo | some ds=>zr6 i fk ρ ds (fe ρ S) | none=>.bad
noncomputable def ztl(und:Str->Str->Bool)(C:Str)(i j:Nat):Fo->Fo
 | .ex c ρ' S'=>if und c C&&decide (i<ρ'.length) then .nx ((ρ'.set j (some (false,.exc c))).set i none) S' else .bad
 | o=>o
section
variable{f f2 fo:Fe}{ρ:Env}{S:Sto}{g:Str->D->Option D}{x y:Str}{d z:D}{ds:List (D×D)}{i j:Nat}{a:Fs}
@[simp] def zvD:eSm g fo f ρ S=kSm g f ρ (fo ρ S):=by
 unfold eSm
 cases fo ρ S with
 | ok d S1 =>
  cases d with
  | str x=>show (f ρ S1).bind _=zr2 g x (f ρ S1);cases f ρ S1<;>rfl
  | _=>rfl
 | exc c S1=>rfl
 | bad=>rfl
@[simp] def zwd:kSm g f ρ (.ok (.str x) S)=zr2 g x (f ρ S):=(rfl)
@[simp] def zwc:zr2 g x (.ok d S)=Out.of (g x d) S:=(rfl)
@[simp] def zsm:zdt fo f f2 ρ S=zq1 f f2 ρ (fo ρ S):=by
 unfold zdt
 cases fo ρ S with
 | ok d S1 =>
  cases d with
  | dic ds =>
   show (if zaz ds then _ else _)=(if zaz ds then _ else _);split
   ·show (f ρ S1).bind _=zlE f2 ρ ds (f ρ S1)
    cases f ρ S1 with
    | ok k S2=>show (f2 ρ S2).bind _=zlD ds k (f2 ρ S2);cases f2 ρ S2<;>rfl
    | exc c S2=>rfl
    | bad=>rfl
   ·rfl
  | _=>rfl
 | exc c S1=>rfl
 | bad=>rfl
@[simp] def zuP:zq1 f f2 ρ (.ok (.dic ds) S)=if zaz ds then zlE f2 ρ ds (f ρ S) else .bad:=(rfl)
@[simp] def zuO:zlE f2 ρ ds (.ok d S)=zlD ds d (f2 ρ S):=(rfl)
@[simp] def zuN:zlD ds (.str x) (.ok z S)=.ok ((zaK x ds).getD z) S:=(rfl)
@[simp] def zsn:zil x f ρ S=zq2 x (f ρ S):=by unfold zil;cases f ρ S<;>rfl
@[simp] def zuT:zq2 x (.ok d S)=.ok (.dic [(.str x,d)]) S:=(rfl)
def zmY{fk fe:Fe}:zh6 i fk fe ρ S=kPX i fk fe ρ S (zgt i ρ):=by
 unfold zh6
 cases zgt i ρ with
 | none=>rfl
 | some ds =>
  show _=zr6 i fk ρ ds (fe ρ S)
  cases fe ρ S with
  | ok d S1 =>
   show _=zr5 i ρ ds d (fk ρ S1);dsimp only
   cases fk ρ S1 with
   | ok k S2=>cases k<;>rfl
   | exc c S2=>rfl
   | bad=>rfl
  | exc c S1=>rfl
  | bad=>rfl
@[simp] def zw1:kPX i f f2 ρ S (some ds)=zr6 i f ρ ds (f2 ρ S):=(rfl)
@[simp] def zwh:zr6 i f ρ ds (.ok d S)=zr5 i ρ ds d (f ρ S):=(rfl)
@[simp] def zwg:zr5 i ρ ds d (.ok (.str x) S)=.nx (ρ.set i (some (true,.dic (putS x d ds)))) S:=(rfl)
@[simp] def ztX{und:Str->Str->Bool}{C:Str}:zpU und C i j a ρ S=ztl und C i j (a ρ S):=(rfl)
@[simp] def zuC:ztl und C i j (.nx ρ S)=.nx ρ S:=(rfl)
@[simp] def zuB:ztl und C i j (.ex c ρ S)=if und c C&&decide (i<ρ.length) then .nx ((ρ.set j (some (false,.exc c))).set i none) S else .bad:=(rfl)
@[simp] def zvy:ze6 w C (.exc c)=(w c C).map .bl:=(rfl)
@[simp] def zue:zlO x (.str y)=some (.bl (Txt.endswith x y)):=(rfl)
@[simp] def zvK{x y:Str}:zbu (.str x) (.str y)=if small (x.length+y.length) then some (.str (x++y)) else none:=(rfl)
@[simp] def zvn{l u:Option Int}:slD (.str x) l u=if small x.length then some (.str (Txt.slice x l u)) else none:=(rfl)
@[simp] def zsh:zem [.str x]=if small x.length then some (.int x.length) else none:=(rfl)
@[simp] def zub{k:Int}:ixD (.str x) (.int k)=if small x.length then (atI x.cps.toList k).map fun c=>.str ⟨#[c]⟩ else none:=(rfl)
@[simp] def zsi{l:List D}:ze4 x (.lst l)=(zdH l).bind fun ts=>if JoinOk x ts then some (.str (Txt.join x ts)) else none:=(rfl)
@[simp] def zrR:zdI x (.str y)=if !(y.length == 0)&&small x.length then some (.lst ((Txt.split x y).map D.str)) else none:=(rfl)
@[simp] def ztW{n:Int}:zkA [.int n]=if decide (-1000<=n/\n<=1000) then some (.str (dI n)) else none:=(rfl)
end
theorem zcN{α:Type}(t:α->Str):∀l:List α,zdH (l.map fun a=>D.str (t a))=some (l.map t)
 | []=>rfl
 | a::l=>by
  show (zdH (l.map fun a=>D.str (t a))).map _=_;rw [zcN t l];rfl
def ze1{sep:Str}{ts:List Str}(h1:ts.length<=1000)(h2:∀t∈ts,t.length<=1000)(h3:sep.length<=1):JoinOk sep ts=true:=by
 unfold JoinOk;rw [ya8];refine StrLaws.joinFits (B:=1000) h2 ?_;have:=Nat.mul_le_mul h1 (yak 1000);have:=Nat.mul_le_mul h1 h3;omega
def ze3(sep:Str)(ts:List Str):Txt.join sep ts=Str.join sep ts:=StrLaws.glued_eq_join sep ts
section
variable{S:Sto}{tl:List D}
noncomputable def pc:D->Bool | .int _=>true | .str _=>true | .non=>true | _=>false
noncomputable def zkE:D->Bool | .int i=>decide (0<=i/\i<=8) | _=>false
noncomputable def zmx(n:Nat):D->Bool | .non=>true | .int i=>decide (0<=i/\i<n) | _=>false
def zcP{x:Int}:zaN [.int x] S=.ok (.bl true) S:=by
 simp [zaN,zak,zb1,zcW,zcS]
def zcO{x:Str}:zaN [.str x] S=.ok (.bl false) S:=by
 simp [zaN,zak,zb1,zcW]
def zeN:zaN [.non] S=.ok (.bl false) S:=by
 simp [zaN,zak,zb1,zcW]
def zay{l:List D}{a b:Int}:zam [.tup l,.int a,.int b] S=.ok (.bl (decide (a<=l.length/\(l.length:Int)<=b))) S:=by
 by_cases h:a<=(l.length:Int)
 ·simp [zam,zak,za5,zcW,h]
 ·simp [zam,zak,za5,zcW,h]
def zdK{x:Str}{a b:Int}:zam [.str x,.int a,.int b] S=.ok (.bl false) S:=by
 simp [zam,zak,za5,zcW]
def zh9{d:D}(h:pc d=true):zaW [d] S=.ok (.bl (zkE d)) S:=by
 cases d with
 | int i=>by_cases h0:0<=i<;>simp [zaW,zak,zbD,zcP,zkE,h0]
 | str x=>simp [zaW,zak,zbD,zcO,zkE]
 | non=>simp [zaW,zak,zbD,zeN,zkE]
 | _=>cases h
def zh8{d:D}(h:pc d=true):zbA [.tup tl,d] S=.ok (.bl (zmx tl.length d)) S:=by
 cases d with
 | int i =>
  have e:zfm (.int i) .non=some (.bl false):=rfl
  by_cases h0:0<=i<;>simp [zbA,zak,zck,e,zbL,zbU,zcP,zmx,h0]
 | str x =>
  have e:zfm (.str x) .non=some (.bl false):=rfl;simp [zbA,zak,zck,e,zbL,zbU,zcO,zmx]
 | non =>
  have e:zfm .non .non=some (.bl true):=rfl;simp [zbA,zak,zck,e,zmx]
 | _=>cases h
theorem zgc{α:Type}(f:α->Bool):∀l:List α,zfi (l.map fun x=>.bl (f x))=some (l.map f)
 | []=>rfl
 | a::l=>by rw [yas];unfold zfi;rw [zgc f l];rfl
theorem all_map{α:Type}{f:α->Bool}{l:List α}:zl5 [.lst (l.map fun x=>.bl (f x))]=some (.bl (l.all f)):=by
 show (zfi _).map _=_;rw [zgc];show some (D.bl ((l.map f).all id))=_;rw [List.all_map];rfl
def zkB(n:Nat)(r:List D):Bool:=decide (1<=r.length/\r.length<=6)&&r.all (zmx n)
def zc4(r:List D):Bool:=decide (r.length=4)&&r.all zkE
def zkZ{r:List D}(hz:r.length<=2000)(h:∀d∈r,pc d=true):zbY [.tup r] S=.ok (.bl (zc4 r)) S:=by
 have ec:za6 (.one 0) zcz (eFn zaW [(zaf 0)]) [none] r S=.ok (r.map fun d=>.bl (zkE d)) S:=by
  refine zax fun d hd=>⟨_,rfl,?_⟩
  simp [zh9 (h d hd)]
 have ea:=all_map (f:=zkE) (l:=r);unfold zc4
 by_cases h4:r.length=4
 ·have e4:((4:Int)<=r.length/\(r.length:Int)<=4):=⟨by omega,by omega⟩;simp [zbY,zak,zcY,zay,e4,ec,ea,show r.length<=100000 by omega,h4]
 ·have e4:¬ ((4:Int)<=r.length/\(r.length:Int)<=4):=fun z=>h4 (by omega)
  simp [zbY,zak,zcY,zay,e4,h4]
def znu{r:List D}(hz:r.length<=2000)(h:∀d∈r,pc d=true):zcu [.tup tl,.tup r] S=.ok (.bl (zkB tl.length r)) S:=by
 have ec:za6 (.one 0) zcz (eFn zbA [(zaf 1),(zaf 0)]) [none,some (false,.tup tl)] r S=.ok (r.map fun d=>.bl (zmx tl.length d)) S:=by
  refine zax fun d hd=>⟨_,rfl,?_⟩
  simp [zh8 (h d hd)]
 have ea:=all_map (f:=zmx tl.length) (l:=r);unfold zkB
 by_cases h6:1<=r.length/\r.length<=6
 ·have e6:((1:Int)<=r.length/\(r.length:Int)<=6):=⟨by omega,by omega⟩;simp [zcu,zak,zdE,zay,e6,ec,ea,zko,show r.length<=100000 by omega,h6]
 ·have e6:¬ ((1:Int)<=r.length/\(r.length:Int)<=6):=fun z=>h6 (by omega)
  simp [zcu,zak,zdE,zay,e6,h6]
noncomputable def Rws(rs:List (List D)):Prop:=rs.length<=2000/\∀r∈rs,r.length<=2000/\∀d∈r,pc d=true
noncomputable def FlD(rs:List (List D)):D:=.tup (rs.map D.tup)
def zr1(rs:List (List D)):Bool:=match keysOf (rs.map D.tup) with | some ks=>decide (ST.ddN ks=rs.length) | none=>false
noncomputable def zh5(rs:List (List D)):Bool:=decide (1<=rs.length/\rs.length<=16)&&(rs.all zc4&&zr1 rs)
theorem zjP:∀{r:List D},r.all zkE=true->∃k:List Int,r=k.map D.int/\∀x∈k,0<=x/\x<=8
 | [],_=>⟨[],rfl,fun _ h=>nomatch h⟩
 | d::r,h=>by
  rw [ya5,yab] at h;obtain ⟨k,rfl,hk⟩:=zjP h.2
  cases d with
  | int i =>
   refine ⟨i::k,rfl,fun x hx=>?_⟩
   rcases yao.mp hx with rfl | hx
   ·exact yaE h.1
   ·exact hk x hx
  | _=>cases h.1
theorem zeq:∀t:List Int,zdr (t.map D.int)=some t
 | []=>rfl
 | a::t=>by rw [yas];unfold zdr;rw [zeq t];rfl
theorem zeA:∀{rs:List (List D)},rs.all zc4=true->∃ts:List (List Int),rs=ts.map (·.map D.int)/\keysOf (rs.map D.tup)=some ts/\∀t∈ts,t.length=4/\∀x∈t,0<=x/\x<=8
 | [],_=>⟨[],rfl,rfl,fun _ h=>nomatch h⟩
 | r::rs,h=>by
  rw [ya5,yab] at h;obtain ⟨ts,rfl,hk,ht⟩:=zeA h.2;have h1:=h.1;unfold zc4 at h1;rw [yab,yaA] at h1;obtain ⟨k,rfl,hk8⟩:=zjP h1.2;refine ⟨k::ts,rfl,?_,fun t hm=>?_⟩
  ·rw [yas];unfold keysOf;rw [show zoh (D.tup (k.map D.int))=some k from zeq k];dsimp only [Option.bind];rw [hk]
  ·rcases yao.mp hm with rfl | hm
   ·exact ⟨by simpa using h1.1,hk8⟩
   ·exact ht t hm
theorem zdN{rs:List (List D)}(h:Rws rs):zb2 [FlD rs] S=.ok (.bl (zh5 rs)) S:=by
 have ec:za6 (.one 0) zcz (eFn zbY [(zaf 0)]) [none] (rs.map D.tup) S=.ok ((rs.map D.tup).map fun d=>.bl (match d with | .tup r=>zc4 r | _=>false)) S:=by
  refine zax fun d hd=>?_
  obtain ⟨r,hr,rfl⟩:=yad.mp hd;refine ⟨_,rfl,?_⟩;simp [zkZ (h.2 r hr).1 (h.2 r hr).2]
 have ea:=all_map (f:=fun d:D=>match d with | .tup r=>zc4 r | _=>false) (l:=rs.map D.tup);rw [List.all_map] at ea;have ef:((fun d:D=>match d with | .tup r=>zc4 r | _=>false)∘D.tup)=zc4:=rfl;rw [ef] at ea;have hl:(rs.map D.tup).length=rs.length:=yac _;have h0:=h.1;unfold zh5 FlD
 by_cases h16:1<=rs.length/\rs.length<=16
 ·have e16:((1:Int)<=rs.length/\(rs.length:Int)<=16):=⟨by omega,by omega⟩
  cases ht:rs.all zc4 with
  | false =>
   rw [ht] at ea;generalize rs.map D.tup=T at *;simp [zb2,zak,zcZ,zay,ec,ea,zcS,hl,e16,h16,show rs.length<=100000 by omega]
  | true =>
   rw [ht] at ea;obtain ⟨ts,_,hk,_⟩:=zeA ht
   have es:zcE (.tup (rs.map D.tup))=some (.int (ST.ddN ts)):=by
    have hlt:ts.length=rs.length:=by
     rename_i e _;rw [e,yac]
    show (keysOf (rs.map D.tup)).bind _=_;rw [hk];show (if decide (ts.length<=18) then some (D.int (ST.ddN ts)) else none)=_;rw [if_pos (yaJ (by omega))]
   have en:zr1 rs=decide (ST.ddN ts=rs.length):=by unfold zr1;rw [hk]
   rw [en];generalize rs.map D.tup=T at *
   have ei:((ST.ddN ts:Int)=(rs.length:Int))↔ST.ddN ts=rs.length:=by omega
   simp [zb2,zak,zcZ,zay,ec,ea,es,zcS,hl,e16,h16,show rs.length<=100000 by omega,ei]
 ·have e16:¬ ((1:Int)<=rs.length/\(rs.length:Int)<=16):=fun z=>h16 (by omega)
  generalize rs.map D.tup=T at *;simp [zb2,zak,zcZ,zay,zcS,hl,e16,h16]
noncomputable def zlz(rs:List (List D)):Bool:=match rs with | []=>true | r0::_=>rs.all fun r=>decide (r.length=r0.length)
def zbZ(n:Nat)(rs:List (List D)):Bool:=decide (1<=rs.length/\rs.length<=6)&&(rs.all (zkB n)&&zlz rs)
theorem zdP{rs:List (List D)}(h:Rws rs):zaO [.tup tl,FlD rs] S=.ok (.bl (zbZ tl.length rs)) S:=by
 have ec:za6 (.one 0) zcz (eFn zcu [(zaf 1),(zaf 0)]) [none,some (false,.tup tl)] (rs.map D.tup) S=.ok ((rs.map D.tup).map fun d=>.bl (match d with | .tup r=>zkB tl.length r | _=>false)) S:=by
  refine zax fun d hd=>?_
  obtain ⟨r,hr,rfl⟩:=yad.mp hd;refine ⟨_,rfl,?_⟩;simp [znu (h.2 r hr).1 (h.2 r hr).2]
 have ea:=all_map (f:=fun d:D=>match d with | .tup r=>zkB tl.length r | _=>false) (l:=rs.map D.tup);rw [List.all_map] at ea;have ef:((fun d:D=>match d with | .tup r=>zkB tl.length r | _=>false)∘D.tup)=zkB tl.length:=rfl;rw [ef] at ea;have hl:(rs.map D.tup).length=rs.length:=yac _;have h0:=h.1;unfold zbZ FlD
 by_cases h6:1<=rs.length/\rs.length<=6
 ·have e6:((1:Int)<=rs.length/\(rs.length:Int)<=6):=⟨by omega,by omega⟩
  cases ht:rs.all (zkB tl.length) with
  | false =>
   rw [ht] at ea;generalize rs.map D.tup=T at *;simp [zaO,zak,zbz,zay,ec,ea,zcS,hl,e6,h6,zko,show rs.length<=100000 by omega]
  | true =>
   rw [ht] at ea
   obtain ⟨r0,za0,hrs⟩:∃r0 za0,rs=r0::za0:=by
    cases hx:rs with
    | nil=>rw [hx] at h6;exact absurd h6.1 (by decide)
    | cons a b=>exact ⟨a,b,rfl⟩
   have e0:atI (rs.map D.tup) 0=some (.tup r0):=by rw [hrs];exact zcx ((r0::za0).map D.tup) 0
   have ed:za6 (.one 0) zcz (zag eqD (zaq zem [(zad 0)]) (zaq zem [(zag ixD (zad 1) (zab (.int 0)))])) [none,some (false,.tup (rs.map D.tup))] (rs.map D.tup) S=.ok ((rs.map D.tup).map fun d=>.bl (match d with | .tup r=>decide (r.length=r0.length) | _=>false)) S:=by
    refine zax fun d hd=>?_
    obtain ⟨r,hr,rfl⟩:=yad.mp hd;refine ⟨_,rfl,?_⟩
    have ei:((r.length:Int)=(r0.length:Int))↔r.length=r0.length:=by omega
    simp [e0,ei]
   have eb:=all_map (f:=fun d:D=>match d with | .tup r=>decide (r.length=r0.length) | _=>false) (l:=rs.map D.tup);rw [List.all_map] at eb;have eg:((fun d:D=>match d with | .tup r=>decide (r.length=r0.length) | _=>false)∘D.tup)=fun r=>decide (r.length=r0.length):=rfl
   rw [eg] at eb
   have el:zlz rs=rs.all fun r=>decide (r.length=r0.length):=by unfold zlz;rw [hrs]
   rw [el];generalize rs.map D.tup=T at *;simp [zaO,zak,zbz,zay,ec,ea,ed,eb,zcS,hl,e6,h6,zko,show rs.length<=100000 by omega]
 ·have e6:¬ ((1:Int)<=rs.length/\(rs.length:Int)<=6):=fun z=>h6 (by omega)
  generalize rs.map D.tup=T at *;simp [zaO,zak,zbz,zay,zcS,hl,e6,h6]
def zdO{x:Str}:zaO [.tup tl,.str x] S=.ok (.bl false) S:=by
 simp [zaO,zak,zbz,zdK,zcS]
end
section
variable{S:Sto}
noncomputable def nT:D->Str | .int i=>dI i | _=>"-"
noncomputable def OkN(d:D):Prop:=d=.non\/∃i:Nat,i<12/\d=.int i
def zjp{d:D}(h:OkN d):10 ∉ L (nT d)/\32 ∉ L (nT d)/\(L (nT d)).length<=2/\L (nT d)≠[]:=by
 rcases h with rfl | ⟨i,hi,rfl⟩
 ·exact (by decide +kernel:10 ∉ L ("-":Str)/\32 ∉ L ("-":Str)/\(L ("-":Str)).length<=2/\L ("-":Str)≠[])
 ·exact zgX i hi
def zmv{d:D}(h:OkN d):(nT d).length<=2:=by rw [<-zdy];exact (zjp h).2.2.1
def zej(h:OkN d):zaC [d] S=.ok (.str (nT d)) S:=by
 rcases h with rfl | ⟨i,hi,rfl⟩
 ·have e:zfm .non .non=some (.bl true):=rfl;simp [zaC,zak,zbs,e,nT]
 ·have e:zfm (.int i) .non=some (.bl false):=rfl;simp [zaC,zak,zbs,e,nT,show -1000<=(i:Int)/\(i:Int)<=1000 by omega]
def zcU(l:List Nat):(T l).length=l.length:=by rw [<-zdy,L_T]
theorem zcX{α:Type}{f:α->List Nat}:∀{l:List α},(∀a∈l,(f a).length<=B)->(l.map f).flatten.length<=l.length*B
 | [],_=>yaP _
 | a::l,h=>by
  rw [yas,ya1,yar,yan,Nat.succ_mul];have:=h a yah;have:=zcX (l:=l) fun x hx=>h x (yag _ hx)
  omega
theorem zjH{c B:Nat}:∀{l:List (List Nat)},(∀a∈l,a.length<=B)->(jn c l).length<=l.length*(B+1)
 | [],_=>yaP _
 | [a],h=>by have:=h a yah;show a.length<=1*(B+1);omega
 | a::b::r,h=>by
  have h1:=h a yah;have h2:=zjH (c:=c) (l:=b::r) fun x hx=>h x (yag _ hx)
  show (a++c::jn c (b::r)).length<=_;rw [yar,yan,yan,Nat.succ_mul];omega
theorem zgN{c:Nat}:∀{ps:List (List Nat)},ps≠[]->(ps.map (c::·)).flatten=c::jn c ps
 | [],h=>absurd rfl h
 | [a],_=>by simp [jn]
 | a::b::r,_=>by
  rw [yas,ya1,zgN (ycp b r)];rfl
theorem zjG{c:Nat}:∀{ps:List (List Nat)},ps≠[]->(ps.map (·++[c])).flatten=jn c ps++[c]
 | [],h=>absurd rfl h
 | [a],_=>by simp [jn]
 | a::b::r,_=>by
  rw [yas,ya1,zjG (ycp b r)];show _=(a++c::jn c (b::r))++[c];simp
noncomputable def fD(k:List Nat):List D:=k.map fun i=>D.int (i:Nat)
noncomputable def kL(k:List Nat):List Nat:=k.map (48+·)
noncomputable def zc2(ks:List (List Nat)):List Nat:=(ks.map fun k=>kL k++[10]).flatten
structure Ks(ks:List (List Nat)):Prop where
 ne:1<=ks.length
 le:ks.length<=16
 four:∀k∈ks,k.length=4
 lt:∀k∈ks,∀i∈k,i<9
def dgs{k:List Nat}(h:∀i∈k,i<9):((k.map fun i=>dg i).map L).flatten=kL k:=by
 induction k with
 | nil=>rfl
 | cons i k ih =>
  rw [yas,yas,ya1,ih fun x hx=>h x (yag _ hx)];have:=zhO i (h i yah);rw [this];rfl
def zfz{k:List Nat}(h4:k.length=4)(h:∀i∈k,i<9):zbc [.tup (fD k)] S=.ok (.str (T (kL k))) S:=by
 have ec:za6 (.one 0) zcz (zaq zkA [(zad 0)]) [none] (fD k) S=.ok (k.map fun i=>.str (dg i)) S:=by
  have:=zax (tg:=.one 0) (elt:=zaq zkA [(zad 0)]) (ρ0:=[none]) (S:=S) (ds:=fD k) (g:=fun d=>.str (nT d)) fun d hd=>by
   obtain ⟨i,hi,rfl⟩:=yad.mp hd;have:=h i hi;refine ⟨_,rfl,?_⟩;simp [nT,show -1000<=(i:Int)/\(i:Int)<=1000 by omega]
  rw [this];unfold fD;rw [yaq];rfl
 have es:=zcN (fun i:Nat=>dg i) k
 have ej:JoinOk ("":Str) (k.map fun i:Nat=>dg i)=true:=ze1 (by rw [yac];omega) (fun t ht=>by
  obtain ⟨i,hi,rfl⟩:=yad.mp ht;have:=(zgX i (by have:=h i hi;omega)).2.2.1;rw [zdy] at this
  omega) (by decide +kernel)
 have et:Txt.join ("":Str) (k.map fun i:Nat=>dg i)=T (kL k):=zdi (by rw [ze3,zj5,zgM,dgs h,L_T])
 have hl:(k.map fun i:Nat=>D.str (dg i)).length<=100000:=by rw [yac];omega
 simp [zbc,zak,zcF,ec,es,ej,et,hl,show k.length<=100000 by omega]
def zeo(k:List Nat):(kL k).length=k.length:=yac _
def zgw{ks:List (List Nat)}(h:Ks ks):zct [FlD (ks.map fD)] S=.ok (.str (T (zc2 ks))) S:=by
 have ec:za6 (.one 0) zcz (zag zbu (eFn zbc [(zaf 0)]) (zab (.str "\n"))) [none] ((ks.map fD).map D.tup) S=.ok (ks.map fun k=>.str (T (kL k++[10]))) S:=by
  have:=zax (tg:=.one 0) (elt:=zag zbu (eFn zbc [(zaf 0)]) (zab (.str "\n"))) (ρ0:=[none]) (S:=S) (ds:=ks.map fun k=>D.tup (fD k)) (g:=fun d=>match d with | .tup r=>.str (T (r.flatMap (fun d=>L (nT d))++[10])) | _=>.non) fun d hd=>by
   obtain ⟨k,hk,rfl⟩:=yad.mp hd;refine ⟨_,rfl,?_⟩;have e:T (kL k)++("\n":Str)=T (kL k++[10]):=zdi (by rw [zcK,L_T,L_T,zfM])
   have e2:(fD k).flatMap (fun d=>L (nT d))=kL k:=by
    rw [<-dgs (h.lt k hk),yaq,List.flatMap_def];unfold fD;rw [yaq];rfl
   have hz:((T (kL k)).length+("\n":Str).length)<=100000:=by rw [zcU,zeo,h.four k hk];decide +kernel
   simp [zfz (h.four k hk) (h.lt k hk),e,e2,hz]
  rw [yaq];show za6 _ _ _ _ (ks.map fun k=>D.tup (fD k)) S=_;rw [this,yaq];congr 1;refine yaH fun k hk=>?_
  show D.str (T ((fD k).flatMap (fun d=>L (nT d))++[10]))=_;rw [<-dgs (h.lt k hk),yaq,List.flatMap_def];unfold fD;rw [yaq];rfl
 have es:=zcN (fun k=>T (kL k++[10])) ks;have hle:=h.le
 have ej:JoinOk ("":Str) (ks.map fun k=>T (kL k++[10]))=true:=ze1 (by rw [yac];omega) (fun t ht=>by
  obtain ⟨k,hk,rfl⟩:=yad.mp ht
  rw [zcU,yar,zeo,h.four k hk];decide) (by decide +kernel)
 have et:Txt.join ("":Str) (ks.map fun k=>T (kL k++[10]))=T (zc2 ks):=zdi (by
  rw [ze3,zj5,zgM,L_T,yaq];unfold zc2
  congr 1)
 unfold FlD;generalize (ks.map fD).map D.tup=X at *;simp [zct,zak,zde,ec,es,ej,et,show ks.length<=100000 by omega]
def zm4{x:Str}{k:List Nat}{a y:Option (Bool×D)}(hx:x.length<=5000)(h4:k.length<=100)(h:∀i∈k,i<9){b:Option (Bool×D)} :
  ∃y',zhH (.one 3) zaQ (fD k) [a,some (false,.str x),b,y] S=.nx [a,some (false,.str (x++T (kL k))),b,y'] S:=by
 obtain ⟨ρ',e,y',rfl⟩:=zbr (tg:=.one 3) (body:=zaQ) (ds:=fD k) (S:=S) (fun j ρ=>∃y,ρ=[a,some (false,.str (x++T (kL (k.take j)))),b,y]) (by
  rintro j d ρ hd ⟨y,rfl⟩;unfold fD at hd;rw [yav] at hd;obtain ⟨i,hi,rfl⟩:=yax.mp hd;have h9:=h i (yaT hi);refine ⟨_,_,rfl,?_,some (false,.int i),rfl⟩
  have e1:k.take (j+1)=k.take j++[i]:=by rw [ybR,hi];rfl
  have e2:x++T (kL (k.take j))++dg i=x++T (kL (k.take j++[i])):=by
   rw [zhO i h9];refine zdi ?_;rw [zcK,zcK,zcK,L_T,L_T];unfold kL;rw [ycB,ybg];rfl
  have hl:(x++T (kL (k.take j))).length+(dg i).length<=100000:=by
   have a1:=(zgX i (by omega)).2.2.1;rw [zdy] at a1;rw [ybS,zcU (kL _),zeo,ybd];omega
  rw [e1]
  simp [zaQ,show -1000<=(i:Int)/\(i:Int)<=1000 by omega,hl,e2])
  (ρ:=[a,some (false,.str x),b,y]) ⟨y,by rw [List.take_zero,show x++T (kL [])=x from zdi (by rw [zcK];exact ybj _)]⟩
 have hl:(fD k).length=k.length:=yac _;rw [hl,ybr] at e;exact ⟨y',e⟩
def zc8{ks:List (List Nat)}(h:Ks ks):zaJ [FlD (ks.map fD)] S=.ok (.str (T (zc2 ks))) S:=by
 have hle:=h.le
 obtain ⟨ρ',e,y,z,rfl⟩:=zbr (tg:=.one 2) (body:=zbi) (ds:=(ks.map fD).map D.tup) (S:=S) (fun j ρ=>∃y z,ρ=[some (false,FlD (ks.map fD)),some (false,.str (T (zc2 (ks.take j)))),y,z]) (by
  rintro j d ρ hd ⟨y,z,rfl⟩;rw [yaq,yav] at hd;obtain ⟨k,hk,rfl⟩:=yax.mp hd;have hm:=yaT hk
  have lt:∀l:List (List Nat),(∀k∈l,k∈ks)->(zc2 l).length<=l.length*5:=fun l hl=>zcX fun k hk=>by
   rw [yar,zeo,h.four k (hl k hk)];decide
  have hlen:(zc2 (ks.take j)).length<=80:=by
   have:=lt (ks.take j) fun k hk=>yct hk
   rw [ybd] at this;omega
  obtain ⟨y',e⟩:=zm4 (S:=S) (x:=T (zc2 (ks.take j))) (k:=k) (a:=some (false,FlD (ks.map fD))) (b:=some (false,.tup (fD k))) (y:=z) (by rw [zcU];omega) (by rw [h.four k hm];decide) (h.lt k hm)
  have e1:ks.take (j+1)=ks.take j++[k]:=by rw [ybR,hk];rfl
  have e2:T (zc2 (ks.take j))++T (kL k)++("\n":Str)=T (zc2 (ks.take j++[k])):=by
   refine zdi ?_;rw [zcK,zcK,L_T,L_T,L_T,zfM];unfold zc2;rw [ycB,ycC,ybg];simp
  have hl:(T (zc2 (ks.take j))++T (kL k)).length+("\n":Str).length<=100000:=by
   rw [ybS,zcU (zc2 _),zcU (kL _),zeo,h.four k hm]
   have:("\n":Str).length=1:=by decide +kernel
   omega
  refine ⟨_,_,rfl,?_,some (false,.tup (fD k)),y',rfl⟩;rw [e1]
  simp [zbi,e,e2,hl])
  (ρ:=[some (false,FlD (ks.map fD)),some (false,.str ""),none,none]) ⟨none,none,by rw [zj5];rfl⟩
 have hl:((ks.map fD).map D.tup).length=ks.length:=by rw [yac,yac]
 rw [hl,ybr] at e;have e':FlD (ks.map fD)=.tup ((ks.map fD).map D.tup):=rfl;rw [e'] at e ⊢;generalize (ks.map fD).map D.tup=X at *;simp [zaJ,zak,zbE,e]
end
section
variable{S:Sto}
structure Fls(rs:List (List D)):Prop where
 ne:1<=rs.length
 le:rs.length<=6
 row:∀r∈rs,1<=r.length/\r.length<=6
 ok:∀r∈rs,∀d∈r,OkN d
def rL(r:List D):List Nat:=jn 32 (r.map fun d=>L (nT d))
def flL(rs:List (List D)):List Nat:=jn 10 (rs.map rL)
def zhl{r:List D}(h6:r.length<=6)(h:∀d∈r,OkN d):(rL r).length<=18:=by
 have:=zjH (c:=32) (B:=2) (l:=r.map fun d=>L (nT d)) fun a ha=>by
  obtain ⟨d,hd,rfl⟩:=yad.mp ha;exact (zjp (h d hd)).2.2.1
 rw [yac] at this;unfold rL;omega
def zgx{r:List D}(h6:r.length<=6)(h:∀d∈r,OkN d):zbv [.tup r] S=.ok (.str (T (rL r))) S:=by
 have ec:za6 (.one 0) zcz (eFn zaC [(zaf 0)]) [none] r S=.ok (r.map fun d=>.str (nT d)) S:=by
  refine zax fun d hd=>⟨_,rfl,?_⟩
  simp [zej (h d hd)]
 have es:=zcN nT r
 have ej:JoinOk (" ":Str) (r.map nT)=true:=ze1 (by rw [yac];omega) (fun t ht=>by
  obtain ⟨d,hd,rfl⟩:=yad.mp ht
  have:=zmv (h d hd);omega) (by decide +kernel)
 have et:Txt.join (" ":Str) (r.map nT)=T (rL r):=zdi (by rw [ze3,znl,ze2,L_T,yaq];rfl);simp [zbv,zak,zdf,ec,es,ej,et,show r.length<=100000 by omega]
def zeP{rs:List (List D)}(h:Fls rs):zbM [FlD rs] S=.ok (.str (T (flL rs))) S:=by
 have hle:=h.le
 have ec:za6 (.one 0) zcz (eFn zbv [(zaf 0)]) [none] (rs.map D.tup) S=.ok (rs.map fun r=>.str (T (rL r))) S:=by
  have:=zax (tg:=.one 0) (elt:=eFn zbv [(zaf 0)]) (ρ0:=[none]) (S:=S) (ds:=rs.map D.tup) (g:=fun d=>match d with | .tup r=>.str (T (rL r)) | _=>.non) fun d hd=>by
   obtain ⟨r,hr,rfl⟩:=yad.mp hd;refine ⟨_,rfl,?_⟩;simp [zgx (h.row r hr).2 (h.ok r hr)]
  rw [this,yaq];rfl
 have es:=zcN (fun r=>T (rL r)) rs
 have ej:JoinOk ("\n":Str) (rs.map fun r=>T (rL r))=true:=ze1 (by rw [yac];omega) (fun t ht=>by
  obtain ⟨r,hr,rfl⟩:=yad.mp ht;have:=zhl (h.row r hr).2 (h.ok r hr)
  rw [zcU];omega) (by decide +kernel)
 have et:Txt.join ("\n":Str) (rs.map fun r=>T (rL r))=T (flL rs):=zdi (by
  rw [ze3,zfM,ze2,L_T,yaq];unfold flL
  congr 1)
 unfold FlD;generalize rs.map D.tup=X at *;simp [zbM,zak,zcl,ec,es,ej,et,show rs.length<=100000 by omega]
def zn7{r:List D}{a b e y:Option (Bool×D)}(h6:r.length<=6)(h:∀d∈r,OkN d) :
  ∃y',zhH (.one 4) zat r [a,b,e,some (false,.str ""),y] S=.nx [a,b,e,some (false,.str (T (r.map fun d=>32::L (nT d)).flatten)),y'] S:=by
 obtain ⟨ρ',q,y',rfl⟩:=zbr (tg:=.one 4) (body:=zat) (ds:=r) (S:=S) (fun j ρ=>∃y,ρ=[a,b,e,some (false,.str (T ((r.take j).map fun d=>32::L (nT d)).flatten)),y]) (by
  rintro j d ρ hd ⟨y,rfl⟩;have hm:=h d (yaT hd);refine ⟨_,_,rfl,?_,some (false,d),rfl⟩
  have e1:r.take (j+1)=r.take j++[d]:=by rw [ybR,hd];rfl
  have hl:(T ((r.take j).map fun d=>32::L (nT d)).flatten).length<=18:=by
   rw [zcU]
   have:=zcX (f:=fun d=>32::L (nT d)) (B:=3) (l:=r.take j) fun d hd=>by
    have:=(zjp (h d (yct hd))).2.2.1;rw [yan];omega
   rw [ybd] at this;omega
  have e2:T ((r.take j).map fun d=>32::L (nT d)).flatten++(" ":Str)++nT d=T ((r.take j++[d]).map fun d=>32::L (nT d)).flatten:=by
   refine zdi ?_;rw [zcK,zcK,L_T,L_T,znl,ycB,ycC,ybg];simp
  rw [e1,<-e2];generalize T ((r.take j).map fun d=>32::L (nT d)).flatten=X at *
  have s1:(" ":Str).length=1:=by decide +kernel
  have l1:X.length+(" ":Str).length<=100000:=by omega
  have l2:(X++(" ":Str)).length+(nT d).length<=100000:=by rw [ybS];have:=zmv hm;omega
  rcases hm with rfl | ⟨i,hi,rfl⟩
  ·have en:zfm .non .non=some (.bl true):=rfl;have l2':(X++(" ":Str)).length+("-":Str).length<=100000:=l2;simp [zat,en,l1,l2',nT]
  ·have en:zfm (.int i) .non=some (.bl false):=rfl;have l2':(X++(" ":Str)).length+(dI i).length<=100000:=l2
   simp [zat,en,l1,l2',nT,show -1000<=(i:Int)/\(i:Int)<=1000 by omega])
  (ρ:=[a,b,e,some (false,.str ""),y]) ⟨y,by rw [zj5];rfl⟩
 rw [ybr] at q;exact ⟨y',q⟩
def zdl{rs:List (List D)}(h:Fls rs):zaB [FlD rs] S=.ok (.str (T (flL rs))) S:=by
 have hle:=h.le
 have s1:("\n":Str).length=1:=by decide +kernel
 have bound:∀l:List (List D),(∀r∈l,r∈rs)->(l.map fun r=>10::rL r).flatten.length<=l.length*19:=fun l hl=>zcX fun r hr=>by
  have:=zhl (h.row r (hl r hr)).2 (h.ok r (hl r hr));rw [yan];omega
 obtain ⟨ρ',e,y,z,u,rfl⟩:=zbr (tg:=.one 2) (body:=zaZ) (ds:=rs.map D.tup) (S:=S) (fun j ρ=>∃y z u,ρ=[some (false,FlD rs),some (false,.str (T ((rs.take j).map fun r=>10::rL r).flatten)),y,z,u]) (by
  rintro j d ρ hd ⟨y,z,u,rfl⟩;rw [yav] at hd;obtain ⟨r,hr,rfl⟩:=yax.mp hd;have hm:=yaT hr;obtain ⟨u',q⟩:=zn7 (S:=S) (a:=some (false,FlD rs)) (b:=some (false,.str (T ((rs.take j).map fun r=>10::rL r).flatten))) (e:=some (false,.tup r)) (y:=u) (h.row r hm).2 (h.ok r hm)
  have e1:rs.take (j+1)=rs.take j++[r]:=by rw [ybR,hr];rfl
  have hne:(r.map fun d=>L (nT d))≠[]:=fun z=>by have:=(h.row r hm).1;rw [ya0.mp z] at this;cases this
  have ef:(r.map fun d=>32::L (nT d)).flatten=32::rL r:=by
   have:=zgN (c:=32) hne;rwa [yaq] at this
  have es:Txt.slice (T (r.map fun d=>32::L (nT d)).flatten) (some 1) none=T (rL r):=zfu (c:=32) (by rw [L_T,ef])
  have e2:T ((rs.take j).map fun r=>10::rL r).flatten++("\n":Str)++T (rL r)=T ((rs.take j++[r]).map fun r=>10::rL r).flatten:=by
   refine zdi ?_;rw [zcK,zcK,L_T,L_T,L_T,zfM,ycB,ycC,ybg];simp
  have hr18:=zhl (h.row r hm).2 (h.ok r hm)
  have hb:(T ((rs.take j).map fun r=>10::rL r).flatten).length<=114:=by
   rw [zcU];have:=bound (rs.take j) fun r hr=>yct hr
   rw [ybd] at this;omega
  have hline:(T (r.map fun d=>32::L (nT d)).flatten).length<=100000:=by rw [zcU,ef,yan];omega
  refine ⟨_,_,rfl,?_,some (false,.tup r),some (false,.str (T (r.map fun d=>32::L (nT d)).flatten)),u',rfl⟩;rw [e1,<-e2];generalize T ((rs.take j).map fun r=>10::rL r).flatten=X at *
  have l1:X.length+("\n":Str).length<=100000:=by omega
  have l2:(X++("\n":Str)).length+(T (rL r)).length<=100000:=by rw [ybS,zcU (rL r)];omega
  generalize T (r.map fun d=>32::L (nT d)).flatten=Y at *
  simp [zaZ,q,es,l1,l2,hline])
  (ρ:=[some (false,FlD rs),some (false,.str ""),none,none,none]) ⟨none,none,none,by rw [zj5];rfl⟩
 have hl:(rs.map D.tup).length=rs.length:=yac _;rw [hl,ybr] at e
 have hne:rs.map rL≠[]:=fun z=>by have:=h.ne;rw [ya0.mp z] at this;cases this
 have ef:(rs.map fun r=>10::rL r).flatten=10::flL rs:=by
  have:=zgN (c:=10) hne;rwa [yaq] at this
 have es:Txt.slice (T (rs.map fun r=>10::rL r).flatten) (some 1) none=T (flL rs):=zfu (c:=10) (by rw [L_T,ef])
 have hb:(T (rs.map fun r=>10::rL r).flatten).length<=100000:=by
  rw [zcU];have:=bound rs fun _ h=>h
  omega
 have e':FlD rs=.tup (rs.map D.tup):=rfl;rw [e'] at e ⊢;generalize rs.map D.tup=X at *;generalize T (rs.map fun r=>10::rL r).flatten=Y at *;simp [zaB,zak,zbh,e,es,hb]
end
section
variable{S:Sto}{tl:List D}{n:Nat}
noncomputable def zeu(c:Nat):D:=if 48<=c/\c<=56 then .int ((c-48:Nat):Int) else .str "?"
def zjS{c:Nat}:inD (.str ⟨#[c]⟩) (.str "012345678")=some (.bl (decide (48<=c/\c<=56))):=by
 show some (D.bl (!(Builtin.Str.occurrences ("012345678":Str) ⟨#[c]⟩ 0 ("012345678":Str).length 1).isEmpty))=_;rw [zrd]
def zfB{c:Nat}:zaX [.str ⟨#[c]⟩] S=.ok (zeu c) S:=by
 unfold zeu
 by_cases h:48<=c/\c<=56
 ·have e:zhF "012345678" (.str ⟨#[c]⟩)=some (.int ((c-48:Nat):Int)):=by
   show ((Builtin.Str.occurrences ("012345678":Str) ⟨#[c]⟩ 0 ("012345678":Str).length 1).head?).map _=_;rw [zrG c h.2 h.1];rfl
  simp [zaX,zak,zb7,zjS,h,e]
 ·simp [zaX,zak,zb7,zjS,h]
def zqr(c:Nat):pc (zeu c)=true:=by unfold zeu;split<;>rfl
def zfA{x:Str}(hx:x.length<=2000):zbd [.str x] S=.ok (.tup ((L x).map zeu)) S:=by
 have ec:za6 (.one 0) zcz (eFn zaX [(zaf 0)]) [none] (ziy x) S=.ok ((L x).map zeu) S:=by
  have:=zax (tg:=.one 0) (elt:=eFn zaX [(zaf 0)]) (ρ0:=[none]) (S:=S) (ds:=ziy x) (g:=fun d=>match d with | .str y=>zeu (y.cps.getD 0 0) | _=>.non) fun d hd=>by
   obtain ⟨c,_,rfl⟩:=yad.mp hd;refine ⟨_,rfl,?_⟩;simp [zfB]
  rw [this];unfold ziy;rw [yaq];congr 1
 have hl:((L x).map zeu).length<=100000:=by rw [yac,zdy];omega
 generalize (L x).map zeu=X at *;simp [zbd,zak,zcG,ec,hl]
noncomputable def zbQ(s:Str):List Str:=Txt.split (Txt.slice s none (some (-1))) ⟨#[10]⟩
def rdS(s:Str):List (List D):=(zbQ s).map fun l=>(L l).map zeu
def zfQ{s:Str}:(zbQ s).length<=s.length+1/\∀l∈zbQ s,l.length<=s.length:=by
 have h1:=zce (Txt.slice s none (some (-1))) 10;have h2:=Txt.slice_le s none (some (-1));exact ⟨by unfold zbQ;omega,fun l hl=>yaw (h1.2 l hl) h2⟩
def zsT{s:Str}(hs:s.length<=1500):Rws (rdS s):=by
 have h:=zfQ (s:=s);refine ⟨by unfold rdS;rw [yac];omega,fun r hr=>?_⟩;obtain ⟨l,hl,rfl⟩:=yad.mp hr;refine ⟨by rw [yac,zdy];have:=h.2 l hl;omega,fun d hd=>?_⟩;obtain ⟨c,_,rfl⟩:=yad.mp hd;exact zqr c
def zgy{s:Str}(hs:s.length<=1500):zbw [.str s] S=if (Txt.endswith s "\n" && zh5 (rdS s))=true then .ok (FlD (rdS s)) S else .exc "NoText" S:=by
 have h:=zfQ (s:=s);have hz:=Txt.slice_le s none (some (-1))
 have ec:za6 (.one 0) zcz (eFn zbd [(zaf 0)]) [none] ((Txt.split (Txt.slice s none (some (-1))) "\n").map D.str) S=.ok ((rdS s).map D.tup) S:=by
  rw [zfM];show za6 _ _ _ _ ((zbQ s).map D.str) S=_
  have:=zax (tg:=.one 0) (elt:=eFn zbd [(zaf 0)]) (ρ0:=[none]) (S:=S) (ds:=(zbQ s).map D.str) (g:=fun d=>match d with | .str y=>.tup ((L y).map zeu) | _=>.non) fun d hd=>by
   obtain ⟨l,hl,rfl⟩:=yad.mp hd;refine ⟨_,rfl,?_⟩;simp [zfA (show l.length<=2000 by have:=h.2 l hl;omega)]
  rw [this,yaq];unfold rdS;rw [yaq];rfl
 have n1:("\n":Str).length=1:=by decide +kernel
 have hl:((rdS s).map D.tup).length<=100000:=by unfold rdS;rw [yac,yac];omega
 have hs1:s.length<=100000:=by omega
 have hs2:(Txt.slice s none (some (-1))).length<=100000:=by omega
 have eset:=zdN (S:=S) (zsT hs);have e':FlD (rdS s)=.tup ((rdS s).map D.tup):=rfl;rw [e'] at eset ⊢;have en:zoW (.int 1)=some (.int (-1)):=rfl
 cases he:Txt.endswith s "\n" with
 | false=>simp [zbw,zak,zb0,he,zcS]
 | true =>
  generalize (rdS s).map D.tup=X at *
  cases hb:zh5 (rdS s) with
  | false=>rw [hb] at eset;simp [zbw,zak,zb0,he,zcS,ec,hl,hs1,hs2,eset,en,n1]
  | true=>rw [hb] at eset;simp [zbw,zak,zb0,he,zcS,ec,hl,hs1,hs2,eset,en,n1]
noncomputable def knD(n:Nat):List (D×D):=(.str "-",.non)::(List.range n).map fun i=>(.str (dg i),.int (i:Nat))
def zqS{i:Nat}(hi:i<12):putS (dg i) (.int (i:Nat)) (knD i)=knD (i+1):=by
 have:i=0\/i=1\/i=2\/i=3\/i=4\/i=5\/i=6\/i=7\/i=8\/i=9\/i=10\/i=11:=by omega
 rcases this with rfl | rfl | rfl | rfl | rfl | rfl | rfl | rfl | rfl | rfl | rfl | rfl<;>kernel_rfl
def zjA:∀n,n<13->zaz (knD n)=true:=by decide +kernel
noncomputable def isI:Option D->Nat->Bool | some (.int j),i=>j == (i:Int) | _,_=>false
def zqT:∀n,n<13->∀i,i<n->isI (zaK (dg i) (knD n)) i=true:=by decide +kernel
noncomputable def isN:Option D->Bool | some .non=>true | _=>false
def zqU:∀n,n<13->isN (zaK "-" (knD n))=true:=by decide +kernel
noncomputable def OkC(n:Nat)(d:D):Prop:=d=.non\/∃i:Nat,i<n/\d=.int i
def OkC.to{d:D}(h:OkC n d)(hn:n<=12):OkN d:=h.imp_right fun ⟨i,hi,e⟩=>⟨i,by omega,e⟩
def zjv{d:D}(hn:n<=12)(h:OkC n d):zaK (nT d) (knD n)=some d:=by
 rcases h with rfl | ⟨i,hi,rfl⟩
 ·have:=zqU n (by omega);show zaK "-" (knD n)=_
  cases e:zaK "-" (knD n) with
  | none=>rw [e] at this;cases this
  | some d=>rw [e] at this;cases d<;>first | rfl | cases this
 ·have:=zqT n (by omega) i hi;show zaK (dg i) (knD n)=_
  cases e:zaK (dg i) (knD n) with
  | none=>rw [e] at this;cases this
  | some d =>
   rw [e] at this
   cases d with
   | int j=>rw [eq_of_beq (show (j == (i:Int))=true from this)]
   | _=>cases this
theorem zeX{w:Str}{d:D}:∀(ds:List (D×D)),zaK w ds=some d->(.str w,d)∈ds
 | [],h=>by cases h
 | (k,v)::ds,h=>by
  cases k with
  | str x =>
   have h':(if x=w then some v else zaK w ds)=some d:=h;split at h'
   ·rename_i e;cases h';subst e;exact yah
   ·exact yag _ (zeX ds h')
  | _=>first | cases h | exact yag _ (zeX ds h)
def zhx{w:Str}{d:D}(h:zaK w (knD n)=some d):OkC n d/\nT d=w:=by
 rcases yao.mp (zeX _ h) with e | hm
 ·cases e;exact ⟨.inl rfl,rfl⟩
 ·obtain ⟨i,hi,e⟩:=yad.mp hm;cases e;exact ⟨.inr ⟨i,ybv.mp hi,rfl⟩,rfl⟩
def zgA(hn:tl.length<=12):zaM [.tup tl] S=.ok (.dic (knD tl.length)) S:=by
 obtain ⟨ρ',e,y,rfl⟩:=zbr (tg:=.one 2) (body:=zaY) (ds:=za3 0 tl.length) (S:=S) (fun k ρ=>∃y,ρ=[some (false,.tup tl),some (true,.dic (knD k)),y]) (by
  rintro k d ρ hd ⟨y,rfl⟩;obtain ⟨rfl,hk⟩:=zch hd;refine ⟨_,_,rfl,?_,some (false,.int k),rfl⟩;have o:=zjA k (by omega)
  have hs:zgt 1 [some (false,.tup tl),some (true,.dic (knD k)),some (false,.int k)]=some (knD k):=by
   show (if zaz (knD k)&&small (knD k).length then some (knD k) else none)=_;rw [o,if_pos];exact yaJ (by unfold knD;rw [yan,yac,ybP];omega)
  rw [<-zqS (show k<12 by omega)]
  simp [zaY,zmY,hs,zej (S:=S) (.inr ⟨k,by omega,rfl⟩),nT])
  (ρ:=[some (false,.tup tl),some (true,.dic (knD 0)),none]) ⟨none,rfl⟩
 rw [zfG] at e;simp only [ybz] at e;have e0:knD 0=[(.str "-",.non)]:=rfl;rw [e0] at e;simp [zaM,zak,zbf,e,show -1000000<=(tl.length:Int)/\(tl.length:Int)<=1000000 by omega]
def ce(n:Nat)(w:Str):D:=(zaK w (knD n)).getD (.str "?")
def zs4{w:Str}:pc (ce n w)=true:=by
 unfold ce
 cases h:zaK w (knD n) with
 | none=>rfl
 | some d=>rcases (zhx h).1 with rfl | ⟨i,_,rfl⟩<;>rfl
def zgz{x:Str}(hn:n<=12)(hx:x.length<=1500):zbx [.dic (knD n),.str x] S=.ok (.tup ((Txt.split x ⟨#[32]⟩).map (ce n))) S:=by
 have h:=zce x 32
 have ec:za6 (.one 0) zcz (zdt (zaf 1) (zaf 0) (zab (.str "?"))) [none,some (false,.dic (knD n))] ((Txt.split x " ").map D.str) S=.ok ((Txt.split x ⟨#[32]⟩).map (ce n)) S:=by
  rw [znl]
  have:=zax (tg:=.one 0) (elt:=zdt (zaf 1) (zaf 0) (zab (.str "?"))) (ρ0:=[none,some (false,.dic (knD n))]) (S:=S) (ds:=(Txt.split x ⟨#[32]⟩).map D.str) (g:=fun d=>match d with | .str y=>ce n y | _=>.non) fun d hd=>by
   obtain ⟨l,hl,rfl⟩:=yad.mp hd;refine ⟨_,rfl,?_⟩;simp [zjA n (by omega),ce]
  rw [this,yaq];rfl
 have n1:(" ":Str).length=1:=by decide +kernel
 have hl:((Txt.split x ⟨#[32]⟩).map (ce n)).length<=100000:=by rw [yac];omega
 generalize (Txt.split x ⟨#[32]⟩).map (ce n)=X at *;simp [zbx,zak,zdg,ec,hl,zko,n1,show x.length<=100000 by omega]
def rdF(n:Nat)(s:Str):List (List D):=(Txt.split s ⟨#[10]⟩).map fun l=>(Txt.split l ⟨#[32]⟩).map (ce n)
def zsU{s:Str}(hs:s.length<=1500):Rws (rdF n s):=by
 have h:=zce s 10;refine ⟨by unfold rdF;rw [yac];omega,fun r hr=>?_⟩;obtain ⟨l,hl,rfl⟩:=yad.mp hr;have h2:=zce l 32;refine ⟨by rw [yac];have:=h.2 l hl;omega,fun d hd=>?_⟩;obtain ⟨w,_,rfl⟩:=yad.mp hd;exact zs4
def zeO{s:Str}(hn:tl.length<=12)(hs:s.length<=1500):zbk [.tup tl,.str s] S=if zbZ tl.length (rdF tl.length s)=true then .ok (FlD (rdF tl.length s)) S else .exc "NoText" S:=by
 have h:=zce s 10
 have ec:za6 (.one 0) zcz (eFn zbx [(zaf 1),(zaf 0)]) [none,some (false,.dic (knD tl.length))] ((Txt.split s "\n").map D.str) S=.ok ((rdF tl.length s).map D.tup) S:=by
  rw [zfM]
  have:=zax (tg:=.one 0) (elt:=eFn zbx [(zaf 1),(zaf 0)]) (ρ0:=[none,some (false,.dic (knD tl.length))]) (S:=S) (ds:=(Txt.split s ⟨#[10]⟩).map D.str) (g:=fun d=>match d with | .str y=>.tup ((Txt.split y ⟨#[32]⟩).map (ce tl.length)) | _=>.non) fun d hd=>by
   obtain ⟨l,hl,rfl⟩:=yad.mp hd;refine ⟨_,rfl,?_⟩;simp [zgz hn (show l.length<=1500 by have:=h.2 l hl;omega)]
  rw [this,yaq];unfold rdF;rw [yaq];rfl
 have n1:("\n":Str).length=1:=by decide +kernel
 have hl:((rdF tl.length s).map D.tup).length<=100000:=by unfold rdF;rw [yac,yac];omega
 have hs1:s.length<=100000:=by omega
 have eset:=zdP (S:=S) (tl:=tl) (zsU (n:=tl.length) hs);have ek:=zgA (S:=S) hn;have e':FlD (rdF tl.length s)=.tup ((rdF tl.length s).map D.tup):=rfl;rw [e'] at eset ⊢;generalize (rdF tl.length s).map D.tup=X at *
 cases hb:zbZ tl.length (rdF tl.length s) with
 | false=>rw [hb] at eset;simp [zbk,zak,zbT,ek,zcS,ec,hl,hs1,eset,n1,zko]
 | true=>rw [hb] at eset;simp [zbk,zak,zbT,ek,zcS,ec,hl,hs1,eset,n1,zko]
end
section
variable{S:Sto}{n:Nat}
def zrs{c:Nat}(h:zkE (zeu c)=true):48<=c/\c<=56:=by
 unfold zeu at h;split at h
 ·assumption
 ·cases h
def zmO{c:Nat}(h:48<=c/\c<=56):zeu c=.int ((c-48:Nat):Int):=if_pos h
noncomputable def unL(l:List Nat):List Nat:=l.map (·-48)
theorem zki:∀{l:List Nat},(l.map zeu).all zkE=true->l.map zeu=fD (unL l)/\kL (unL l)=l/\∀i∈unL l,i<9
 | [],_=>⟨rfl,rfl,fun _ h=>nomatch h⟩
 | c::l,h=>by
  rw [yas,ya5,yab] at h;have hc:=zrs h.1;obtain ⟨h1,h2,h3⟩:=zki h.2;refine ⟨?_,?_,fun i hi=>?_⟩
  ·rw [yas,h1,zmO hc];rfl
  ·show (48+(c-48))::kL (unL l)=c::l;rw [h2,show 48+(c-48)=c by omega]
  ·rcases yao.mp hi with rfl | hi
   ·show c-48<9;omega
   ·exact h3 i hi
def zmj{ks:List (List Nat)}(h:ks≠[]):zc2 ks=jn 10 (ks.map kL)++[10]:=by
 have:=zjG (c:=10) (ps:=ks.map kL) (fun z=>h (ya0.mp z));rwa [yaq] at this
def zl4{s:Str}(he:Txt.endswith s "\n" = true)(hb:zh5 (rdS s)=true):∃ks,Ks ks/\rdS s=ks.map fD/\s=T (zc2 ks):=by
 rw [zfM] at he;obtain ⟨b,hs⟩:=(zj4 s).mp he;unfold zh5 at hb;rw [yab,yab,yaA] at hb;obtain ⟨hlen,hall,_⟩:=hb;have hll:(rdS s).length=(zbQ s).length:=yac _
 have row:∀l∈zbQ s,(L l).map zeu=fD (unL (L l))/\kL (unL (L l))=L l/\(∀i∈unL (L l),i<9)/\(L l).length=4:=fun l hl=>by
  have ht:=yaS.mp hall _ (ybh (f:=fun l=>(L l).map zeu) hl);unfold zc4 at ht;rw [yab,yaA,yac] at ht;obtain ⟨a,b,c⟩:=zki ht.2;exact ⟨a,b,c,ht.1⟩
 refine ⟨(zbQ s).map fun l=>unL (L l),⟨?_,?_,fun k hk=>?_,fun k hk=>?_⟩,?_,?_⟩
 ·rw [yac];omega
 ·rw [yac];omega
 ·obtain ⟨l,hl,rfl⟩:=yad.mp hk;unfold unL;rw [yac];exact (row l hl).2.2.2
 ·obtain ⟨l,hl,rfl⟩:=yad.mp hk;exact (row l hl).2.2.1
 ·unfold rdS;rw [yaq];exact yaH fun l hl=>(row l hl).1
 ·refine zdi ?_;rw [L_T (zc2 _),zmj (fun z=>by have:=hlen.1;rw [hll,ya0.mp z] at this;cases this),yaq,hs];have e:(zbQ s).map (kL∘fun l=>unL (L l))=(zbQ s).map L:=yaH fun l hl=>(row l hl).2.1
  rw [e];unfold zbQ;rw [zcs,zeg hs,L_T b]
def zov{ks:List (List Nat)}(h:Ks ks):Txt.endswith (T (zc2 ks)) "\n" = true/\rdS (T (zc2 ks))=ks.map fD:=by
 have hne:ks≠[]:=fun z=>by have:=h.ne;rw [z] at this;cases this
 have hs:L (T (zc2 ks))=jn 10 (ks.map kL)++[10]:=by rw [L_T,zmj hne]
 refine ⟨by rw [zfM];exact (zj4 _).mpr ⟨_,hs⟩,?_⟩
 have el:zbQ (T (zc2 ks))=ks.map fun k=>T (kL k):=by
  unfold zbQ;rw [zeg hs];refine zc5 (fun z=>hne (ya0.mp z)) (fun p hp=>?_) ?_
  ·obtain ⟨k,hk,rfl⟩:=yad.mp hp;rw [L_T];intro z;obtain ⟨i,_,e⟩:=yad.mp z;omega
  ·rw [L_T,yaq];congr 1
 unfold rdS;rw [el,yaq];refine yaH fun k hk=>?_
 show (L (T (kL k))).map zeu=fD k;rw [L_T];unfold kL fD;rw [yaq];refine yaH fun i hi=>?_
 have:=h.lt k hk i hi;show zeu (48+i)=_;rw [zmO ⟨by omega,by omega⟩,show 48+i-48=i by omega]
def zqP{d:D}{w:Str}(e:ce n w=d)(h:zmx n d=true):OkC n d/\nT d=w:=by
 unfold ce at e
 cases hl:zaK w (knD n) with
 | none=>rw [hl] at e;subst e;cases h
 | some d'=>rw [hl] at e;cases e;exact zhx hl
def ziv{s:Str}(hn:n<=12)(hb:zbZ n (rdF n s)=true):Fls (rdF n s)/\(∀r∈rdF n s,∀d∈r,OkC n d)/\s=T (flL (rdF n s)):=by
 unfold zbZ at hb;rw [yab,yab,yaA] at hb;obtain ⟨hlen,hall,_⟩:=hb
 have row:∀l∈Txt.split s ⟨#[10]⟩,(1<=(Txt.split l ⟨#[32]⟩).length/\(Txt.split l ⟨#[32]⟩).length<=6)/\∀w∈Txt.split l ⟨#[32]⟩,OkC n (ce n w)/\nT (ce n w)=w:=fun l hl=>by
  have ht:=yaS.mp hall _ (ybh (f:=fun l=>(Txt.split l ⟨#[32]⟩).map (ce n)) hl);unfold zkB at ht;rw [yab,yaA,yac] at ht;exact ⟨ht.1,fun w hw=>zqP rfl (yaS.mp ht.2 _ (ybh hw))⟩
 have cells:∀r∈rdF n s,∀d∈r,OkC n d:=fun r hr d hd=>by
  obtain ⟨l,hl,rfl⟩:=yad.mp hr;obtain ⟨w,hw,rfl⟩:=yad.mp hd;exact ((row l hl).2 w hw).1
 refine ⟨⟨hlen.1,hlen.2,fun r hr=>?_,fun r hr d hd=>(cells r hr d hd).to hn⟩,cells,zdi ?_⟩
 ·obtain ⟨l,hl,rfl⟩:=yad.mp hr;rw [yac];exact (row l hl).1
 ·rw [L_T (flL _)];unfold flL rdF;rw [yaq]
  have e:(Txt.split s ⟨#[10]⟩).map (rL∘fun l=>(Txt.split l ⟨#[32]⟩).map (ce n))=(Txt.split s ⟨#[10]⟩).map L:=yaH fun l hl=>by
   show rL ((Txt.split l ⟨#[32]⟩).map (ce n))=L l;unfold rL;rw [yaq,<-zcs l 32];congr 1;exact yaH fun w hw=>congrArg L ((row l hl).2 w hw).2
  rw [e,zcs]
theorem zjZ{c x:Nat}(hx:x≠c):∀{ps:List (List Nat)},(∀p∈ps,x ∉ p)->x ∉ jn c ps
 | [],_=>fun z=>nomatch z
 | [a],h=>h a yah
 | a::b::r,h=>fun z=>by
  rcases yaR.mp (show x∈a++c::jn c (b::r) from z) with z | z
  ·exact h a yah z
  ·rcases yao.mp z with z | z
   ·exact hx z
   ·exact zjZ hx (fun p hp=>h p (yag _ hp)) z
def zjX{rs:List (List D)}(hn:n<=12)(h:Fls rs)(hc:∀r∈rs,∀d∈r,OkC n d):rdF n (T (flL rs))=rs:=by
 have hne:rs≠[]:=fun z=>by have:=h.ne;rw [z] at this;cases this
 have e1:Txt.split (T (flL rs)) ⟨#[10]⟩=rs.map fun r=>T (rL r):=by
  refine zc5 (fun z=>hne (ya0.mp z)) (fun p hp=>?_) ?_
  ·obtain ⟨r,hr,rfl⟩:=yad.mp hp;rw [L_T];refine zjZ (by decide) fun p hp=>?_
   obtain ⟨d,hd,rfl⟩:=yad.mp hp;exact (zjp (h.ok r hr d hd)).1
  ·rw [L_T,yaq];unfold flL;congr 1
 unfold rdF;rw [e1,yaq]
 have:∀r∈rs,((fun l=>(Txt.split l ⟨#[32]⟩).map (ce n))∘fun r=>T (rL r)) r=id r:=fun r hr=>by
  have hr1:=(h.row r hr).1
  have e2:Txt.split (T (rL r)) ⟨#[32]⟩=r.map nT:=by
   refine zc5 (fun z=>by rw [ya0.mp z] at hr1;cases hr1) (fun p hp=>?_) ?_
   ·obtain ⟨d,hd,rfl⟩:=yad.mp hp;exact (zjp (h.ok r hr d hd)).2.1
   ·rw [L_T,yaq];rfl
  show (Txt.split (T (rL r)) ⟨#[32]⟩).map (ce n)=r;rw [e2,yaq]
  have:∀d∈r,(ce n∘nT) d=id d:=fun d hd=>by
   show ce n (nT d)=d;unfold ce;rw [zjv hn (hc r hr d hd)];rfl
  rw [yaH this,ych]
 rw [yaH this,ych]
end
end S2
namespace S2.L90
open PySem
open L2 hiding D
noncomputable def zsp:List (Str×Str):=[("NoText","FloorError")]
def isL:Str->Str->Option Bool:=zr8 ["NoText"] ["FloorError","NoPlace","NoTile","NoFill","Unlike","Nothing","NoText"]
noncomputable def zcH:Fs :=
  (zae (sFz [] (zbj 1 true (zes [(eUn (ze6 isL "NoFill") (zad 0)),(eUn (ze6 isL "NoPlace") (zad 0)),(eUn (ze6 isL "NoText") (zad 0)),(eUn (ze6 isL "NoTile") (zad 0))])))
  (zae (sFz [] (zpW 1 (zes [(eUn (ze6 isL "Nothing") (zad 0)),(eUn (ze6 isL "Unlike") (zad 0))])))
  (zae (sFz [] (sIf (eOr (zag neD (eMt zdv 1 (zab (.bl true))) (zab (.int 1))) (eUn zcS (eUn (ze6 isL "ValueError") (zad 0)))) (zae (sFz [] (za9 (zab (.str "wrong")))) sNx) sNx))
  (zae (sFz [] (za9 (zag ixD (zes [(zab (.str "no fill")),(zab (.str "no place")),(zab (.str "no text")),(zab (.str "no tile")),(zab (.str "nothing")),(zab (.str "unlike"))]) (eMt zds 1 (zab (.bl true))))))
  sNx))))
noncomputable def zb3:List S2.D->Sto->Out S2.D:=zcg 2 false zcH
noncomputable def zbg:Fs :=
  (zae (sFz [] (zbj 3 false (zab .non)))
  (zae (sFz [] (zbj 4 false (zab .non)))
  (zae (sFz [] (zpU (zo4 zsp) "FloorError" 5 3 (zae (sFz [2,1,2] (zbj 4 false (eIf (zag eqD (zad 0) (zab (.int 0))) (eFn zbw [(zaf 2)]) (eFn zbk [(zaf 1),(zaf 2)])))) sNx)))
  (zae (sFz [] (sIf (zag zfm (zad 3) (zab .non)) (zae (sFz [4] (za9 (zaf 4))) sNx) sNx))
  (zae (sFz [3] (za9 (eFn zb3 [(zaf 3)])))
  sNx)))))
noncomputable def zal:List S2.D->Sto->Out S2.D:=zcg 6 false zbg
noncomputable def zcJ:Fs :=
  (zae (sFz [0] (zbj 8 false (eFn zai [(zaf 0),(zag zbu (zab (.int 200)) (zad 2)),(zag zqc (zab (.int 10)) (zab (.int 9)))]))) (zae (sFz [6,8] (zbj 9 false (eFn zan [(zaf 6),(zaf 8),(zab (.str "0123\n9 a"))]))) (zae (sFz [1,9] (zbj 10 false (eFn zal [(zab (.int 0)),(zaf 1),(zaf 9)]))) (zae (sFz [10,10] (sIf (zf3 (zag neD (zad 10) (zab (.str "no text"))) (eOr (zag zid (eFn zb2 [(zaf 10)]) (zab (.bl true))) (zag neD (eFn zaJ [(zaf 10)]) (zad 9)))) (zae (sFz [] (za9 (zab (.bl false)))) sNx) sNx)) (zae (sFz [7,8] (zbj 9 false (eFn zan [(zaf 7),(zaf 8),(zab (.str "0-1 \n2a9"))]))) (zae (sFz [1,9] (zbj 10 false (eFn zal [(zab (.int 1)),(zaf 1),(zaf 9)]))) (zae (sFz [1,10] (zbj 11 false (eFn zaO [(zaf 1),(zaf 10)]))) (zae (sFz [10] (sIf (zf3 (zag neD (zad 10) (zab (.str "no text"))) (eOr (zag zid (zad 11) (zab (.bl true))) (zag neD (eFn zaB [(zaf 10)]) (zad 9)))) (zae (sFz [] (za9 (zab (.bl false)))) sNx) sNx)) sNx))))))))
noncomputable def zeC:Fs:=zae (sFz [1,12] (za9 (zag eqD (eFn zal [(zab (.int 0)),(zaf 1),(zaf 12)]) (zab (.str "no text"))))) sNx
noncomputable def zeD:Fs:=zae (sFz [0] (zbj 12 false (zag ixD (zes [(zab (.str "")),(zab (.str "0000")),(zab (.str "000\n")),(zab (.str "0009\n"))]) (eFn zai [(zaf 0),(zab (.int 211)),(zab (.int 4))])))) zeC
noncomputable def zeE:Fs:=zae (sFz [1,12] (sIf (zag neD (eFn zal [(zab (.int 1)),(zaf 1),(zaf 12)]) (zab (.str "no text"))) (zae (sFz [] (za9 (zab (.bl false)))) sNx) sNx)) zeD
noncomputable def zeF:Fs:=zae (sFz [0] (zbj 12 false (zag ixD (zes [(zab (.str "")),(zab (.str " ")),(zab (.str "-\n")),(zab (.str "- ")),(zab (.str "00")),(zab (.str "--")),(zab (.str "- -\n-")),(zab (.str "-1")),(zab (.str "0\n\n0")),(zab (.str "99"))]) (eFn zai [(zaf 0),(zab (.int 210)),(zab (.int 10))])))) zeE
noncomputable def zgo:Fs:=zae (sFz [] (zhi (.one 2) (zdh (zab (.int 4))) zcJ)) zeF
noncomputable def zgp:Fs:=zae (sFz [5,1,7] (sIf (eOr (zag neD (eFn zbM [(zaf 5)]) (zad 7)) (zag neD (eFn zal [(zab (.int 1)),(zaf 1),(zaf 7)]) (zad 5))) (zae (sFz [] (za9 (zab (.bl false)))) sNx) sNx)) zgo
noncomputable def zgq:Fs:=zae (sFz [1,1,6] (sIf (eOr (zag neD (eFn zct [(zaf 1)]) (zad 6)) (zag neD (eFn zal [(zab (.int 0)),(zaf 1),(zaf 6)]) (zad 1))) (zae (sFz [] (za9 (zab (.bl false)))) sNx) sNx)) zgp
noncomputable def ziF:Fs:=zae (sFz [5] (zbj 7 false (eFn zaB [(zaf 5)]))) zgq
noncomputable def ziG:Fs:=zae (sFz [1] (zbj 6 false (eFn zaJ [(zaf 1)]))) ziF
noncomputable def ziH:Fs:=zae (sFz [0,1,3,4] (zbj 5 false (eFn zbP [(zaf 0),(zab (.int 100)),(zaf 1),(zaf 3),(zaf 4),(zab (.int 2))]))) ziG
noncomputable def zeB:Fs:=zae (sFz [0] (zeM (.tup [3,4]) (eFn zbO [(zaf 0),(zab (.int 90))]))) ziH
noncomputable def ziI:Fs:=zae (sFz [0] (sIf (zag eqD (eFn zai [(zaf 0),(zab (.int 89)),(zab (.int 3))]) (zab (.int 0))) (zae (sFz [] (zbj 1 false (zaq zbJ [(zbI 1 (.one 0) (zdh (zab (.int 12))) zcz (zfe [(zag zkC (zad 0) (zab (.int 4))),(zag zgH (zad 0) (zab (.int 4))),(zab (.int 0)),(zab (.int 8))]) [])]))) sNx) sNx)) zeB
noncomputable def zgr:Fs:=zae (sFz [0] (zbj 1 false (eFn zbN [(zaf 0),(zab (.int 0)),(zab (.int 5))]))) ziI
noncomputable def zlM:Fs :=
  zgr
noncomputable def znw:List S2.D->Sto->Out S2.D:=zcg 13 false zlM
end S2.L90
namespace S2
open PySem TX
open L2 hiding D
theorem zkS(q:Int)(h0:0<=q)(h1:q<10):∃r c:Nat,1<=r/\r<=3/\1<=c/\c<=4/\r*c<=6/\atI [D.tup [.int 1,.int 1],.tup [.int 1,.int 2],.tup [.int 2,.int 1],.tup [.int 2,.int 2],.tup [.int 2,.int 2],.tup [.int 1,.int 4],.tup [.int 2,.int 3],.tup [.int 3,.int 2],.tup [.int 3,.int 1],.tup [.int 2,.int 3]] q=some (.tup [.int r,.int c]):=by
 have:q=0\/q=1\/q=2\/q=3\/q=4\/q=5\/q=6\/q=7\/q=8\/q=9:=by omega
 rcases this with rfl | rfl | rfl | rfl | rfl | rfl | rfl | rfl | rfl | rfl
 ·exact ⟨1,1,by omega,by omega,by omega,by omega,by omega,rfl⟩
 ·exact ⟨1,2,by omega,by omega,by omega,by omega,by omega,rfl⟩
 ·exact ⟨2,1,by omega,by omega,by omega,by omega,by omega,rfl⟩
 ·exact ⟨2,2,by omega,by omega,by omega,by omega,by omega,rfl⟩
 ·exact ⟨2,2,by omega,by omega,by omega,by omega,by omega,rfl⟩
 ·exact ⟨1,4,by omega,by omega,by omega,by omega,by omega,rfl⟩
 ·exact ⟨2,3,by omega,by omega,by omega,by omega,by omega,rfl⟩
 ·exact ⟨3,2,by omega,by omega,by omega,by omega,by omega,rfl⟩
 ·exact ⟨3,1,by omega,by omega,by omega,by omega,by omega,rfl⟩
 ·exact ⟨2,3,by omega,by omega,by omega,by omega,by omega,rfl⟩
theorem zi3(ha:0<=at'):∃r c:Nat,1<=r/\r<=3/\1<=c/\c<=4/\r*c<=6/\zbO [.scr l,.int at'] S=.ok (.tup [.int r,.int c]) S:=by
 have p:=za2 (l:=l) (S:=S) ha (show (0:Int)<10 by omega);have n:=zbm l at' (many:=10) (by omega);generalize zbn l at' 10=q at *;obtain ⟨r,c,h1,h2,h3,h4,h5,e⟩:=zkS q n.1 n.2;refine ⟨r,c,h1,h2,h3,h4,h5,?_⟩;simp [zbO,zak,zcn,p,e]
end S2
namespace S2.L90
open PySem TX
open L2 hiding D
noncomputable abbrev Sl:=Option (Bool×S2.D)
section
variable{S:Sto}{n:Nat}
def zhj:zb3 [.exc "NoText"] S=.ok (.str "no text") S:=by
 have e1:isL "NoText" "NoFill" = some false:=by decide +kernel
 have e2:isL "NoText" "NoPlace" = some false:=by decide +kernel
 have e3:isL "NoText" "NoText" = some true:=by decide +kernel
 have e4:isL "NoText" "NoTile" = some false:=by decide +kernel
 have e5:isL "NoText" "Nothing" = some false:=by decide +kernel
 have e6:isL "NoText" "Unlike" = some false:=by decide +kernel
 have e7:isL "NoText" "ValueError" = some true:=by decide +kernel
 have c1:zdv [.bl false,.bl false,.bl true,.bl false,.bl false,.bl false] (.bl true)=some (.int 1):=by rfl
 have c2:zds [.bl false,.bl false,.bl true,.bl false,.bl false,.bl false] (.bl true)=some (.int 2):=by rfl
 have c3:atI [D.str "no fill",.str "no place",.str "no text",.str "no tile",.str "nothing",.str "unlike"] 2=some (.str "no text"):=by rfl
 simp [zb3,zak,zcH,e1,e2,e3,e4,e5,e6,e7,c1,c2,c3,zcS]
def tS(s:Str):D:=if (Txt.endswith s "\n" && zh5 (rdS s))=true then FlD (rdS s) else .str "no text"
def tF(n:Nat)(s:Str):D:=if zbZ n (rdF n s)=true then FlD (rdF n s) else .str "no text"
def zdM{t:D}{s:Str}(hs:s.length<=1500):zal [.int 0,t,.str s] S=.ok (tS s) S:=by
 have u:zo4 zsp "NoText" "FloorError" = true:=by decide +kernel
 have h:=zgy (S:=S) hs;unfold tS
 by_cases hc:(Txt.endswith s "\n" && zh5 (rdS s))=true
 ·rw [if_pos hc] at h ⊢;have e:zfm .non .non=some (.bl true):=rfl;unfold FlD at h ⊢;generalize (rdS s).map D.tup=X at *;simp [zal,zak,zbg,h,e]
 ·rw [if_neg hc] at h ⊢;have e:zfm (.exc "NoText") .non=some (.bl false):=rfl;simp [zal,zak,zbg,h,u,e,zhj]
def zdL{tl:List D}{s:Str}(hn:tl.length<=12)(hs:s.length<=1500):zal [.int 1,.tup tl,.str s] S=.ok (tF tl.length s) S:=by
 have u:zo4 zsp "NoText" "FloorError" = true:=by decide +kernel
 have h:=zeO (S:=S) hn hs;unfold tF
 by_cases hc:zbZ tl.length (rdF tl.length s)=true
 ·rw [if_pos hc] at h ⊢;have e:zfm .non .non=some (.bl true):=rfl;unfold FlD at h ⊢;generalize (rdF tl.length s).map D.tup=X at *;simp [zal,zak,zbg,h,e]
 ·rw [if_neg hc] at h ⊢;have e:zfm (.exc "NoText") .non=some (.bl false):=rfl;simp [zal,zak,zbg,h,u,e,zhj]
def ztM{g:Str}{i:Int}(h0:0<=i)(h1:i<g.length):∃c,atI g.cps.toList i=some c:=by
 obtain ⟨j,rfl⟩:=ybc h0
 have:j<(L g).length:=by rw [zdy];omega
 exact ⟨(L g)[j],by rw [zcx];exact yaj this⟩
def zb6(c:Nat):(⟨#[c]⟩:Str).length=1:=rfl
def zei{x g:Str}{c:Int}(hx:x.length<=200)(hg:1<=g.length)(hg2:g.length<=100)(h0:0<=c):∃y,zan [.str x,.int c,.str g] S=.ok (.str y) S/\y.length<=1000:=by
 have m1:(0:Int)<x.length+1:=by omega
 obtain ⟨ch,hch⟩:=ztM (g:=g) (i:=c / 1000 % g.length) (ybA _ (by omega)) (ybl _ (by omega));generalize ha:c % ((x.length:Int)+1)=a;generalize hw:c / 100000 % 8=w;have w0:0<=w:=hw ▸ ybA _ (by decide);have w8:w<8:=hw ▸ ybl _ (by decide);have sl:∀l u,(Txt.slice x l u).length<=200:=fun l u=>yaw (Txt.slice_le x l u) hx
 have ln:∀y z:Str,(y++z).length=y.length+z.length:=ybS
 have s1:(" ":Str).length=1:=by decide +kernel
 have s0:("":Str).length=0:=by decide +kernel
 have base:∀{y:Str},y.length<=1000->y.length<=100000:=fun h=>by omega
 have hx5:x.length<=100000:=by omega
 have hg5:g.length<=100000:=by omega
 have gp:0<g.length:=by omega
 generalize ho:a+1+c / 7 % 9=o
 have pre:∀(l u l2 u2:Option Int),(Txt.slice x l u).length+1<=100000/\(Txt.slice x l u++(⟨#[ch]⟩:Str)).length+(Txt.slice x l2 u2).length<=100000/\(Txt.slice x l u).length+(Txt.slice x l2 u2).length<=100000:=fun l u l2 u2=>by
  have:=sl l u;have:=sl l2 u2;rw [ln,zb6];omega
 by_cases c1:w<2
 ·refine ⟨Txt.slice x none (some a)++⟨#[ch]⟩++Txt.slice x (some a) none,?_,by rw [ln,ln,zb6];have:=sl none (some a);have:=sl (some a) none;omega⟩;obtain ⟨p1,p2,p3⟩:=pre none (some a) (some a) none;simp [zan,zak,zaw,hx5,hg5,m1,gp,hch,ha,hw,ho,c1,p1,p2,p3,zb6]
 by_cases c2:w=2
 ·refine ⟨Txt.slice x none (some a)++Txt.slice x (some (a+1)) none,?_,by rw [ln];have:=sl none (some a);have:=sl (some (a+1)) none;omega⟩;obtain ⟨p1,p2,p3⟩:=pre none (some a) (some (a+1)) none;subst c2;simp [zan,zak,zaw,hx5,hg5,m1,gp,hch,ha,hw,ho,p3,zb6]
 by_cases c3:w<5
 ·refine ⟨Txt.slice x none (some a)++⟨#[ch]⟩++Txt.slice x (some (a+1)) none,?_,by rw [ln,ln,zb6];have:=sl none (some a);have:=sl (some (a+1)) none;omega⟩;obtain ⟨p1,p2,p3⟩:=pre none (some a) (some (a+1)) none;simp [zan,zak,zaw,hx5,hg5,m1,gp,hch,ha,hw,ho,c1,c2,c3,p1,p2,p3,zb6]
 by_cases c4:w=5
 ·refine ⟨Txt.slice x none (some a)++Txt.slice x (some o) none,?_,by rw [ln];have:=sl none (some a);have:=sl (some o) none;omega⟩;obtain ⟨p1,p2,p3⟩:=pre none (some a) (some o) none;subst c4;simp [zan,zak,zaw,hx5,hg5,m1,gp,hch,ha,hw,ho,p3,zb6]
 by_cases c5:w=6
 ·refine ⟨Txt.slice x none (some o)++Txt.slice x (some a) none,?_,by rw [ln];have:=sl none (some o);have:=sl (some a) none;omega⟩;obtain ⟨p1,p2,p3⟩:=pre none (some o) (some a) none;subst c5;simp [zan,zak,zaw,hx5,hg5,m1,gp,hch,ha,hw,ho,p3,zb6]
 ·obtain ⟨p1,p2,p3⟩:=pre (some a) none none (some a);have q0:0<=c % 5:=ybA _ (by decide);have q5:c % 5<5:=ybl _ (by decide);generalize hq:c % 5=q at q0 q5
  have h1:x.length+(" ":Str).length<=100000:=by omega
  have h2:(" ":Str).length+x.length<=100000:=by omega
  have h3:x.length+x.length<=100000:=by omega
  have pick:∃y:Str,atI [D.str (x ++ " "),.str (" " ++ x),.str (Txt.slice x (some a) none++Txt.slice x none (some a)),.str "",.str (x++x)] q=some (.str y)/\y.length<=1000:=by
   have:q=0\/q=1\/q=2\/q=3\/q=4:=by omega
   rcases this with rfl | rfl | rfl | rfl | rfl
   ·exact ⟨_,rfl,by rw [ln];omega⟩
   ·exact ⟨_,rfl,by rw [ln];omega⟩
   ·exact ⟨_,rfl,by rw [ln];have:=sl (some a) none;have:=sl none (some a);omega⟩
   ·exact ⟨_,rfl,by omega⟩
   ·exact ⟨_,rfl,by rw [ln];omega⟩
  obtain ⟨y,hy,hl⟩:=pick;refine ⟨y,?_,hl⟩;simp [zan,zak,zaw,hx5,hg5,m1,gp,hch,ha,hw,ho,c1,c2,c3,c4,c5,p3,h1,h2,h3,hq,hy,zb6]
def znK{rs:List (List D)}(h:∀r∈rs,∀d∈r,OkN d):(FlD rs).pl=true:=by
 show D.pls (rs.map D.tup)=true;rw [D.pls_iff];intro d hd;obtain ⟨r,hr,rfl⟩:=yad.mp hd;show D.pls r=true;rw [D.pls_iff];intro d hd
 rcases h r hr d hd with rfl | ⟨i,_,rfl⟩<;>rfl
def zhJ{rs:List (List D)}(h:∀r∈rs,∀d∈r,OkN d):(FlD rs).fit 9=true:=by
 show D.fits 8 (rs.map D.tup)=true;rw [D.fits_iff];intro d hd;obtain ⟨r,hr,rfl⟩:=yad.mp hd;show D.fits 7 r=true;rw [D.fits_iff];intro d hd
 rcases h r hr d hd with rfl | ⟨i,_,rfl⟩<;>rfl
def zjo{rs:List (List D)}(h:∀r∈rs,∀d∈r,OkN d):neD (FlD rs) (FlD rs)=some (.bl false):=zgG (znK h) (zhJ h)
def zjn:D.fit 9 (.str "no text")=true:=by show PyData.strOk _=true;decide +kernel
def zn2{rs:List (List D)}(h:∀r∈rs,∀d∈r,OkN d):neD (FlD rs) (.str "no text")=some (.bl true):=by
 unfold neD;rw [zhJ h,zjn];rfl
def zht:neD (.str "no text") (.str "no text")=some (.bl false):=zgG rfl zjn
def ztC:eqD (.str "no text") (.str "no text")=some (.bl true):=zoA rfl zjn
def znc{l:List Nat}(h:∀c∈l,c<128):D.fit 9 (.str (T l))=true:=by
 show PyData.strOk (T l)=true;unfold PyData.strOk;rw [Array.all_eq_true_iff_forall_mem];intro c hc;have:=h c (by simpa using hc);exact yaJ (by omega)
def zdV{l:List Nat}(h:∀c∈l,c<128):neD (.str (T l)) (.str (T l))=some (.bl false):=zgG rfl (znc h)
def zgu{ks:List (List Nat)}(h:Ks ks):∀c∈zc2 ks,c<128:=fun c hc=>by
 obtain ⟨l,hl,hc⟩:=List.mem_flatten.mp hc;obtain ⟨k,hk,rfl⟩:=yad.mp hl
 rcases yaR.mp hc with hc | hc
 ·obtain ⟨i,hi,rfl⟩:=yad.mp hc;have:=h.lt k hk i hi;omega
 ·have:=yaD.mp hc;omega
def zrn:∀i,i<12->∀c∈L (dg i),c<128:=by decide +kernel
theorem zjI{c:Nat}(h:c<128):∀{ps:List (List Nat)},(∀p∈ps,∀x∈p,x<128)->∀x∈jn c ps,x<128
 | [],_,x,hx=>nomatch hx
 | [a],hp,x,hx=>hp a yah x hx
 | a::b::r,hp,x,hx=>by
  rcases yaR.mp (show x∈a++c::jn c (b::r) from hx) with z | z
  ·exact hp a yah x z
  ·rcases yao.mp z with rfl | z
   ·exact h
   ·exact zjI h (fun p hp'=>hp p (yag _ hp')) x z
def zmG{rs:List (List D)}(h:∀r∈rs,∀d∈r,OkN d):∀c∈flL rs,c<128:=by
 refine zjI (by decide) fun p hp=>?_
 obtain ⟨r,hr,rfl⟩:=yad.mp hp;refine zjI (by decide) fun p hp=>?_
 obtain ⟨d,hd,rfl⟩:=yad.mp hp
 rcases h r hr d hd with rfl | ⟨i,hi,rfl⟩
 ·exact (by decide +kernel:∀c∈L ("-":Str),c<128)
 ·exact zrn i hi
def zdC{ks:List (List Nat)}(h:Ks ks):∀r∈ks.map fD,∀d∈r,OkN d:=fun r hr d hd=>by
 obtain ⟨k,hk,rfl⟩:=yad.mp hr;obtain ⟨i,hi,rfl⟩:=yad.mp hd;exact .inr ⟨i,by have:=h.lt k hk i hi;omega,rfl⟩
theorem zhQ:∀l:List (List Int),l.reverse.Nodup->ST.ddN l.reverse=l.length
 | [],_=>rfl
 | a::l,h=>by
  rw [List.reverse_cons] at h ⊢;have h':=ycN.mp h;rw [ST.zka,if_neg (fun z=>h'.2.2 a z a (yaD.mpr rfl) rfl),zhQ l h'.1];rfl
def zkV{ks:List (List Nat)}(h:Ks ks)(nd:ks.Nodup):zh5 (ks.map fD)=true:=by
 have ht:(ks.map fD).all zc4=true:=yaS.mpr fun r hr=>by
  obtain ⟨k,hk,rfl⟩:=yad.mp hr;unfold zc4 fD;rw [yac,h.four k hk];refine yaS.mpr fun d hd=>?_
  obtain ⟨i,hi,rfl⟩:=yad.mp hd;have:=h.lt k hk i hi;exact yaJ ⟨by omega,by omega⟩
 obtain ⟨ts,e,hk,_⟩:=zeA ht
 have ets:ts=ks.map (·.map fun i:Nat=>(i:Int)):=by
  have e2:ks.map fD=(ks.map (·.map fun i:Nat=>(i:Int))).map (·.map D.int):=by
   rw [yaq]
   exact yaH fun k _=>by show k.map _=(k.map _).map _;rw [yaq];rfl
  rw [e2] at e
  have inj:∀a b:List (List Int),a.map (·.map D.int)=b.map (·.map D.int)->a=b:=fun a=>by
   induction a with
   | nil=>intro b hb;cases b with | nil=>rfl | cons _ _=>cases hb
   | cons x a ih=>intro b hb;cases b with
    | nil=>cases hb
    | cons y b =>
     obtain ⟨h1,h2⟩:=List.cons.inj hb;rw [zhD.mp h1,ih b h2]
  exact (inj _ _ e).symm
 have ndt:ts.Nodup:=by
  rw [ets];refine List.Pairwise.map _ (fun a b hab z=>hab ?_) nd;have:=congrArg (List.map Int.toNat) z;rw [yaq,yaq] at this;have e:(Int.toNat∘fun i:Nat=>(i:Int))=id:=funext fun i=>ybz i
  rwa [e,ych,ych] at this
 have hd:=zhQ ts.reverse (by rw [List.reverse_reverse];exact ndt);rw [List.reverse_reverse,List.length_reverse] at hd;unfold zh5 zr1;rw [hk,ht];have hl:(ks.map fD).length=ks.length:=yac _
 have hl2:ts.length=ks.length:=by rw [ets,yac]
 have:=h.ne;have:=h.le;dsimp only;rw [hd,hl,hl2,yaJ (show 1<=ks.length/\ks.length<=16 from ⟨h.ne,h.le⟩),yaJ rfl];rfl
def zij{rs:List (List D)}{c:Nat}(h:Fls rs)(hc:∀r∈rs,∀d∈r,OkC n d)(hl:∀r∈rs,r.length=c):zbZ n rs=true:=by
 unfold zbZ;rw [yaJ (show 1<=rs.length/\rs.length<=6 from ⟨h.ne,h.le⟩),ycT,yab];refine ⟨yaS.mpr fun r hr=>?_,?_⟩
 ·unfold zkB;rw [yaJ (h.row r hr),ycT];refine yaS.mpr fun d hd=>?_
  rcases hc r hr d hd with rfl | ⟨i,hi,rfl⟩
  ·rfl
  ·exact yaJ ⟨by omega,by omega⟩
 ·unfold zlz;split
  ·rfl
  ·rename_i r0 za0;exact yaS.mpr fun r hr=>yaJ (by rw [hl r hr,hl r0 yah])
def zmg{s:Str}:(∃ks,Ks ks/\tS s=FlD (ks.map fD)/\s=T (zc2 ks)/\zh5 (ks.map fD)=true)\/tS s=.str "no text":=by
 unfold tS
 by_cases hc:(Txt.endswith s "\n" && zh5 (rdS s))=true
 ·rw [if_pos hc];rw [yab] at hc;obtain ⟨ks,h1,h2,h3⟩:=zl4 hc.1 hc.2;exact .inl ⟨ks,h1,by rw [h2],h3,by rw [<-h2];exact hc.2⟩
 ·rw [if_neg hc];exact .inr rfl
def zpb{s:Str}(hn:n<=12):(∃rs,Fls rs/\tF n s=FlD rs/\s=T (flL rs)/\zbZ n rs=true/\Rws rs)\/tF n s=.str "no text":=by
 unfold tF
 by_cases hc:zbZ n (rdF n s)=true
 ·rw [if_pos hc];obtain ⟨h1,h2,h3⟩:=ziv hn hc;refine .inl ⟨rdF n s,h1,rfl,h3,hc,by have:=h1.le;omega,fun r hr=>⟨by have:=(h1.row r hr).2;omega,fun d hd=>?_⟩⟩
  rcases h1.ok r hr d hd with rfl | ⟨i,_,rfl⟩<;>rfl
 ·rw [if_neg hc];exact .inr rfl
def zmp{ks:List (List Nat)}(h:Ks ks):Rws (ks.map fD):=by
 refine ⟨by rw [yac];have:=h.le;omega,fun r hr=>⟨?_,fun d hd=>?_⟩⟩
 ·obtain ⟨k,hk,rfl⟩:=yad.mp hr;unfold fD;rw [yac,h.four k hk];decide
 ·rcases zdC h r hr d hd with rfl | ⟨i,_,rfl⟩<;>rfl
def zv5:∀n,n<13->∀s∈([""," ","-\n","- ","00","--","- -\n-","-1","0\n\n0","99"]:List Str),zbZ n (rdF n s)=false:=by decide +kernel
def zv4:∀s∈(["","0000","000\n","0009\n"]:List Str),(Txt.endswith s "\n" && zh5 (rdS s))=false:=by decide +kernel
def zmR{l:List Str}{q:Int}(h0:0<=q)(h1:q<l.length):∃s∈l,atI (l.map D.str) q=some (.str s):=by
 obtain ⟨j,rfl⟩:=ybc h0
 have hj:j<l.length:=by omega
 refine ⟨l[j],List.getElem_mem hj,?_⟩;rw [zcx,yav,yaj hj];rfl
def zv7:∀s∈([""," ","-\n","- ","00","--","- -\n-","-1","0\n\n0","99"]:List Str),s.length<=1500:=by decide +kernel
def zv6:∀s∈(["","0000","000\n","0009\n"]:List Str),s.length<=1500:=by decide +kernel
variable{l:List Int}{X:List D}{s0 s2 s3 s4 s5 s6 s7 s8 s9 s10 s11 s12:Sl}
def zpd{s:Str}(hs:s∈(["","0000","000\n","0009\n"]:List Str)):zeC [s0,some (false,.tup X),s2,s3,s4,s5,s6,s7,s8,s9,s10,s11,some (false,.str s)] S=.rt (.bl true) S:=by
 have e:tS s=.str "no text":=by unfold tS;rw [zv4 s hs];rfl
 have r:=zdM (S:=S) (t:=.tup X) (s:=s) (zv6 s hs);rw [e] at r;simp [zeC,r,ztC]
def zpe:zeD [some (false,.scr l),some (false,.tup X),s2,s3,s4,s5,s6,s7,s8,s9,s10,s11,s12] S=.rt (.bl true) S:=by
 have p:=za2 (l:=l) (S:=S) (show (0:Int)<=211 by decide) (show (0:Int)<4 by decide);have q:=zbm l 211 (many:=4) (by decide);generalize zbn l 211 4=w at *;obtain ⟨s,hs,e⟩:=zmR (l:=["","0000","000\n","0009\n"]) q.1 q.2;have e:atI [D.str "",.str "0000",.str "000\n",.str "0009\n"] w=some (.str s):=e;simp [zeD,p,e,zpd hs]
def zpf{s:Str}(hn:X.length<=12)(hs:s∈([""," ","-\n","- ","00","--","- -\n-","-1","0\n\n0","99"]:List Str)):zeE [some (false,.scr l),some (false,.tup X),s2,s3,s4,s5,s6,s7,s8,s9,s10,s11,some (false,.str s)] S=.rt (.bl true) S:=by
 have e:tF X.length s=.str "no text":=by unfold tF;rw [zv5 X.length (by omega) s hs];rfl
 have r:=zdL (S:=S) (tl:=X) (s:=s) hn (zv7 s hs);rw [e] at r;simp [zeE,r,zht,zpe]
def zpg(hn:X.length<=12):zeF [some (false,.scr l),some (false,.tup X),s2,s3,s4,s5,s6,s7,s8,s9,s10,s11,s12] S=.rt (.bl true) S:=by
 have p:=za2 (l:=l) (S:=S) (show (0:Int)<=210 by decide) (show (0:Int)<10 by decide);have q:=zbm l 210 (many:=10) (by decide);generalize zbn l 210 10=w at *;obtain ⟨s,hs,e⟩:=zmR (l:=[""," ","-\n","- ","00","--","- -\n-","-1","0\n\n0","99"]) q.1 q.2;have e:atI [D.str "",.str " ",.str "-\n",.str "- ",.str "00",.str "--",.str "- -\n-",.str "-1",.str "0\n\n0",.str "99"] w=some (.str s):=e;simp [zeF,p,e,zpf hn hs]
def step{k:Nat}{tx ot:Str}(hn:X.length<=12)(h1:tx.length<=200)(h2:ot.length<=200) :
  ∃y8 y9 y10 y11,zcJ [some (false,.scr l),some (false,.tup X),some (false,.int k),s3,s4,s5,some (false,.str tx),some (false,.str ot),s8,s9,s10,s11,s12] S=.nx [some (false,.scr l),some (false,.tup X),some (false,.int k),s3,s4,s5,some (false,.str tx),some (false,.str ot),y8,y9,y10,y11,s12] S:=by
 have hp:zqc (.int 10) (.int 9)=some (.int 1000000000):=by kernel_rfl
 have p:=za2 (l:=l) (S:=S) (show (0:Int)<=200+k by omega) (show (0:Int)<1000000000 by decide);have q:=(zbm l (200+k) (many:=1000000000) (by decide)).1;generalize zbn l (200+k) 1000000000=c at *;obtain ⟨a,ea,la⟩:=zei (S:=S) (x:=tx) (g:="0123\n9 a") (c:=c) h1 (by decide +kernel) (by decide +kernel) q;obtain ⟨b,eb,lb⟩:=zei (S:=S) (x:=ot) (g:="0-1 \n2a9") (c:=c) h2 (by decide +kernel) (by decide +kernel) q;have ra:=zdM (S:=S) (t:=.tup X) (s:=a) (by omega);have rb:=zdL (S:=S) (tl:=X) (s:=b) hn (by omega);refine ⟨some (false,.int c),some (false,.str b),some (false,tF X.length b),?_⟩
 rcases zpb (s:=b) hn with ⟨rs,f1,f2,f3,f4,f5⟩ | f2
 ·refine ⟨some (false,.bl true),?_⟩;have g1:=zdP (S:=S) (tl:=X) f5;rw [f4] at g1;have g2:=zdl (S:=S) f1;have g3:=zn2 f1.ok;have g4:=zdV (zmG f1.ok);rw [<-f3] at g2 g4;rw [f2] at rb ⊢
  rcases zmg (s:=a) with ⟨ks,e1,e2,e3,e4⟩ | e2
  ·have i1:=zdN (S:=S) (zmp e1);rw [e4] at i1;have i2:=zc8 (S:=S) e1;have i3:=zn2 (zdC e1);have i4:=zdV (zgu e1);rw [<-e3] at i2 i4;rw [e2] at ra;simp [zcJ,hp,p,ea,eb,ra,rb,g1,g2,g3,g4,i1,i2,i3,i4]
  ·rw [e2] at ra;simp [zcJ,hp,p,ea,eb,ra,rb,g1,g2,g3,g4,zht]
 ·refine ⟨some (false,.bl false),?_⟩;rw [f2] at rb ⊢;have g1:=zdO (S:=S) (tl:=X) (x:="no text")
  rcases zmg (s:=a) with ⟨ks,e1,e2,e3,e4⟩ | e2
  ·have i1:=zdN (S:=S) (zmp e1);rw [e4] at i1;have i2:=zc8 (S:=S) e1;have i3:=zn2 (zdC e1);have i4:=zdV (zgu e1);rw [<-e3] at i2 i4;rw [e2] at ra;simp [zcJ,hp,p,ea,eb,ra,rb,g1,i1,i2,i3,i4,zht]
  ·rw [e2] at ra;simp [zcJ,hp,p,ea,eb,ra,rb,g1,zht]
def zsv{tx ot:Str}(hn:X.length<=12)(h1:tx.length<=200)(h2:ot.length<=200):zgo [some (false,.scr l),some (false,.tup X),s2,s3,s4,s5,some (false,.str tx),some (false,.str ot),s8,s9,s10,s11,s12] S=.rt (.bl true) S:=by
 obtain ⟨ρ',e,y2,y8,y9,y10,y11,rfl⟩:=zbr (tg:=.one 2) (body:=zcJ) (ds:=za3 0 4) (S:=S) (fun _ ρ=>∃y2 y8 y9 y10 y11,ρ=[some (false,.scr l),some (false,.tup X),y2,s3,s4,s5,some (false,.str tx),some (false,.str ot),y8,y9,y10,y11,s12]) (by
  rintro k d ρ hd ⟨y2,y8,y9,y10,y11,rfl⟩;obtain ⟨rfl,hk⟩:=zch hd;obtain ⟨z8,z9,z10,z11,e⟩:=step (l:=l) (S:=S) (X:=X) (k:=k) (tx:=tx) (ot:=ot) (s3:=s3) (s4:=s4) (s5:=s5) (s8:=y8) (s9:=y9) (s10:=y10) (s11:=y11) (s12:=s12) hn h1 h2
  exact ⟨_,_,rfl,e,_,z8,z9,z10,z11,rfl⟩)
  (ρ:=[some (false,.scr l),some (false,.tup X),s2,s3,s4,s5,some (false,.str tx),some (false,.str ot),s8,s9,s10,s11,s12]) ⟨_,_,_,_,_,rfl⟩
 simp [zgo,e,zpg hn]
def zsw{rs:List (List D)}{c:Nat}{tx:Str}(hn:X.length<=12)(h1:tx.length<=200)(h:Fls rs)(hc:∀r∈rs,∀d∈r,OkC X.length d)(hl:∀r∈rs,r.length=c) :
  zgp [some (false,.scr l),some (false,.tup X),s2,s3,s4,some (false,FlD rs),some (false,.str tx),some (false,.str (T (flL rs))),s8,s9,s10,s11,s12] S=.rt (.bl true) S:=by
 have lf:(T (flL rs)).length<=200:=by
  rw [zcU]
  have:=zjH (c:=10) (B:=18) (l:=rs.map rL) fun a ha=>by
   obtain ⟨r,hr,rfl⟩:=yad.mp ha;exact zhl (h.row r hr).2 (h.ok r hr)
  rw [yac] at this;have:=h.le;unfold flL;omega
 have e1:=zeP (S:=S) h;have e2:=zdV (zmG h.ok);have e3:=zdL (S:=S) (tl:=X) (s:=T (flL rs)) hn (by omega)
 have e4:tF X.length (T (flL rs))=FlD rs:=by
  unfold tF;rw [zjX hn h hc,zij h hc hl];rfl
 rw [e4] at e3;have e5:=zjo h.ok;have t:=zsv (l:=l) (S:=S) (X:=X) (tx:=tx) (ot:=T (flL rs)) (s2:=s2) (s3:=s3) (s4:=s4) (s5:=some (false,FlD rs)) (s8:=s8) (s9:=s9) (s10:=s10) (s11:=s11) (s12:=s12) hn h1 lf;generalize FlD rs=Y at *;simp [zgp,e1,e2,e3,e5,t]
def zsx{ks:List (List Nat)}{rs:List (List D)}{c:Nat}(hX:FlD (ks.map fD)=.tup X)(hk:Ks ks)(nd:ks.Nodup)(h12:ks.length<=12)(h:Fls rs)(hc:∀r∈rs,∀d∈r,OkC X.length d)(hl:∀r∈rs,r.length=c) :
  zgq [some (false,.scr l),some (false,.tup X),s2,s3,s4,some (false,FlD rs),some (false,.str (T (zc2 ks))),some (false,.str (T (flL rs))),s8,s9,s10,s11,s12] S=.rt (.bl true) S:=by
 have hn:X.length<=12:=by
  have:X=(ks.map fD).map D.tup:=(D.tup.inj hX).symm;rw [this,yac,yac];exact h12
 have ls:(T (zc2 ks)).length<=200:=by
  rw [zcU]
  have:=zcX (f:=fun k=>kL k++[10]) (B:=5) (l:=ks) fun k hk'=>by rw [yar,zeo,hk.four k hk'];decide
  unfold zc2;omega
 have e1:=zgw (S:=S) hk;have e2:=zdV (zgu hk);have e3:=zdM (S:=S) (t:=.tup X) (s:=T (zc2 ks)) (by omega)
 have e4:tS (T (zc2 ks))=.tup X:=by
  unfold tS;obtain ⟨a,b⟩:=zov hk;rw [a,b,zkV hk nd,hX];rfl
 rw [e4] at e3;have e5:=zjo (zdC hk);rw [hX] at e1 e5;have t:=zsw (l:=l) (S:=S) (X:=X) (tx:=T (zc2 ks)) (s2:=s2) (s3:=s3) (s4:=s4) (s8:=s8) (s9:=s9) (s10:=s10) (s11:=s11) (s12:=s12) hn ls h hc hl;simp [zgq,e1,e2,e3,e5,t]
def zow{r c:Nat}{g:Z1}:flr r c g=FlD ((List.range r).map fun i=>zgk c (g i)):=by
 unfold flr FlD zlK zrX;rw [yaq];rfl
def zpc{ks:List (List Nat)}(hX:FlD (ks.map fD)=.tup X)(hk:Ks ks)(nd:ks.Nodup)(h12:ks.length<=12) :
  zeB [some (false,.scr l),some (false,.tup X),s2,s3,s4,s5,s6,s7,s8,s9,s10,s11,s12] S=.rt (.bl true) S:=by
 have hxl:X.length=ks.length:=by
  have:X=(ks.map fD).map D.tup:=(D.tup.inj hX).symm;rw [this,yac,yac]
 have h1:=hk.ne;obtain ⟨r,c,r1,r3,c1,c4,_,es⟩:=zi3 (l:=l) (S:=S) (show (0:Int)<=90 by decide);have ef:=zi5 (l:=l) (at':=100) (m:=2) (ts:=X) (r:=r) (c:=c) (S:=S) (by decide) (by omega) (by decide) (by omega) (by omega) (by omega) (by omega);rw [ybz,ybz,zow] at ef;generalize hg:zjm l 100 X.length 2=g at ef
 have hnum:∀i j x,g i j=some x->0<=x/\x<X.length:=fun i j x hx=>by subst hg;exact zqN (by omega) x hx
 have hf:Fls ((List.range r).map fun i=>zgk c (g i))/\(∀q∈(List.range r).map fun i=>zgk c (g i),∀d∈q,OkC X.length d)/\∀q∈(List.range r).map fun i=>zgk c (g i),q.length=c:=by
  have cells:∀q∈(List.range r).map fun i=>zgk c (g i),∀d∈q,OkC X.length d:=fun q hq d hd=>by
   obtain ⟨i,_,rfl⟩:=yad.mp hq;obtain ⟨j,_,rfl⟩:=yad.mp hd
   cases hv:g i j with
   | none=>exact .inl rfl
   | some x =>
    obtain ⟨a,b⟩:=hnum i j x hv;obtain ⟨m,rfl⟩:=ybc a;exact .inr ⟨m,by omega,rfl⟩
  have lens:∀q∈(List.range r).map fun i=>zgk c (g i),q.length=c:=fun q hq=>by
   obtain ⟨i,_,rfl⟩:=yad.mp hq;exact zk2
  refine ⟨⟨by rw [yac,ybP];exact r1,by rw [yac,ybP];omega,fun q hq=>by rw [lens q hq];omega,fun q hq d hd=>(cells q hq d hd).to (by omega)⟩,cells,lens⟩
 obtain ⟨hf,hc,hl⟩:=hf;generalize (List.range r).map (fun i=>zgk c (g i))=rs at *;have e1:=zc8 (S:=S) hk;have e2:=zdl (S:=S) hf;rw [hX] at e1;have t:=zsx (l:=l) (S:=S) (X:=X) (s2:=s2) (s3:=some (false,.int r)) (s4:=some (false,.int c)) (s8:=s8) (s9:=s9) (s10:=s10) (s11:=s11) (s12:=s12) hX hk nd h12 hf hc hl;generalize FlD rs=Y at *;simp [zeB,ziH,ziG,ziF,es,ef,e1,e2,t]
noncomputable def zqR:List (List Nat):=(List.range 12).map fun k=>[k / 4,k % 4,0,8]
def zod:Ks zqR:=⟨by decide,by decide,by decide,by decide⟩
def twE:Fe:=zaq zbJ [(zbI 1 (.one 0) (zdh (zab (.int 12))) zcz (zfe [(zag zkC (zad 0) (zab (.int 4))),(zag zgH (zad 0) (zab (.int 4))),(zab (.int 0)),(zab (.int 8))]) [])]
def zpo:ziI=zae (sFz [0] (sIf (zag eqD (eFn zai [(zaf 0),(zab (.int 89)),(zab (.int 3))]) (zab (.int 0))) (zae (sFz [] (zbj 1 false twE)) sNx) sNx)) zeB:=rfl
def zh7{ρ:Env}:twE ρ S=.ok (FlD (zqR.map fD)) S:=by kernel_rfl
theorem zlB(l:List Int)(hl:l.length<=63):znw [.scr l] []=.ok (.bl true) []:=by
 obtain ⟨ts,ht,et⟩:=zi2 (l:=l) (at':=0) (most:=5) (S:=[]) (by decide) (by decide) (by decide);have p:=za2 (l:=l) (S:=[]) (show (0:Int)<=89 by decide) (show (0:Int)<3 by decide)
 have hX:FlD ((ts.map (·.map Int.toNat)).map fD)=.tup (ts.map zbb):=by
  unfold FlD;rw [yaq,yaq];congr 1;refine yaH fun t h=>?_
  show D.tup ((t.map Int.toNat).map fun i:Nat=>D.int i)=D.tup (t.map D.int);rw [yaq];congr 1;refine yaH fun c hc=>?_
  have:=ht.col t h c hc;show D.int ((c.toNat:Nat):Int)=D.int c;rw [Int.toNat_of_nonneg this.1]
 have hk:Ks (ts.map (·.map Int.toNat)):=by
  have a:=ht.ne;have b:=ht.le;refine ⟨by rw [yac];exact a,by rw [yac];omega,fun k h=>?_,fun k h i hi=>?_⟩
  ·obtain ⟨t,ht',rfl⟩:=yad.mp h;rw [yac];exact ht.four t ht'
  ·obtain ⟨t,ht',rfl⟩:=yad.mp h;obtain ⟨c,hc,rfl⟩:=yad.mp hi;have:=ht.col t ht' c hc;omega
 have nd:(ts.map (·.map Int.toNat)).Nodup:=by
  have:∀us:List (List Int),(∀t∈us,t∈ts)->us.Nodup->(us.map (·.map Int.toNat)).Nodup:=fun us=>by
   induction us with
   | nil=>exact fun _ _=>List.nodup_nil
   | cons u us ih =>
    intro hm hn;rw [ybo] at hn;rw [yas,ybo];refine ⟨fun z=>hn.1 ?_,ih (fun t h=>hm t (yag _ h)) hn.2⟩;obtain ⟨v,hv,e⟩:=yad.mp z
    have back:∀t∈ts,(t.map Int.toNat).map (fun i:Nat=>(i:Int))=t:=fun t h=>by
     rw [yaq];have:∀c∈t,((fun i:Nat=>(i:Int))∘Int.toNat) c=id c:=fun c hc=>Int.toNat_of_nonneg (ht.col t h c hc).1
     rw [yaH this,ych]
    rw [<-back u (hm u yah),<-e,back v (hm v (yag _ hv))];exact hv
  exact this ts (fun _ h=>h) ht.nd
 have b:=ht.le;have t1:=zpc (l:=l) (S:=[]) (X:=ts.map zbb) (s2:=none) (s3:=none) (s4:=none) (s5:=none) (s6:=none) (s7:=none) (s8:=none) (s9:=none) (s10:=none) (s11:=none) (s12:=none) hX hk nd (by rw [yac];omega);have t2:=zpc (l:=l) (S:=[]) (X:=(zqR.map fD).map D.tup) (s2:=none) (s3:=none) (s4:=none) (s5:=none) (s6:=none) (s7:=none) (s8:=none) (s9:=none) (s10:=none) (s11:=none) (s12:=none) rfl zod (by decide) (by decide);have tw:∀ρ,twE ρ []=.ok (.tup ((zqR.map fD).map D.tup)) []:=fun ρ=>zh7 (S:=[]) (ρ:=ρ)
 generalize (zqR.map fD).map D.tup=Y at *
 by_cases hp:zbn l 89 3=0
 ·simp [znw,zak,zlM,zgr,zpo,et,p,hp,tw,t2]
 ·simp [znw,zak,zlM,zgr,zpo,et,p,hp,t1]
end
end S2.L90
namespace L2
open PySem PySem.Spec PyProof.Rows
end L2
namespace S2
open PySem PySem.Spec PyProof.Rows L2
end S2
namespace L2
open PySem PySem.Spec PyProof.Rows
end L2
namespace S2
open PySem PySem.Spec PyProof.Rows L2
structure XA(K:PySem.W.Frag)(x:Str)(e:Addr):Prop where
 n:PySem.W.nsIn K mainGlobals x=some (some (.ref e))
 x:PySem.W.excIn K e bmV "ValueError.__new__" = true
def scB(n:Nat)(N:List Str)(sc:Scope):Bool:=(match sc.kind with | .function=>true | _=>false)&&!sc.isCoroutine&&!sc.isGenerator&&decide N.Nodup&&decide ((N.take n).length=n)&&decide (∀x∈N.take n,sc.names.lookup x=some .local\/sc.names.lookup x=some .cell)&&decide (∀y∈sc.names,y.2≠.free)
def zmn{n:Nat}{N:List Str}{sc:Scope}(h:scB n N sc=true):FnScope N (N.take n) sc/\(N.take n).length=n:=by
 unfold scB at h;simp only [yab,yaA,ya8] at h;obtain ⟨⟨⟨⟨⟨⟨h1,h2⟩,h3⟩,h4⟩,h5⟩,h6⟩,h7⟩:=h;exact ⟨⟨by split at h1;(· assumption);(· cases h1),h2,h3,h4,by rw [h5],h6,h7⟩,h5⟩
section
variable{cl:Cf}{T:Tab}{mg:Z6}{base h:Heap}{k:Nat}{F:Fn3}{f:Fs}{x:Str}{st:Stmt}
def ag(g:GOk cl (Gn T F) cl.P cl.wo cl.K mg base k)(X:cl.K.In h)(G:h.Ns mainGlobals mg)(p:GFn cl.K x st)(n:Nat)(N:List Str)(own:Bool)(r:Rn)(f:Fs)(b:BB x x st (N.take n))(s:scB n N (zaF st)=true)(e:r=zcg N.length own f)(d:zmJ (Gn T F) own N st=some f):GOk cl (Gn T (F.fn x ⟨n,own,r⟩)) cl.P cl.wo cl.K mg base (k+1):=by
 obtain ⟨S,l⟩:=zmn s;obtain ⟨f',a,p⟩:=p.ex;obtain ⟨fd,U,B,kp,_⟩:=p.un b;have z:=zrf U S g rfl rfl rfl d;rw [l,<-e] at z;exact GOk.add g (yaV X G a) kp B z
end
end S2
namespace M90
open PySem L2 S2 S2.L90
noncomputable def top(i:Nat):Stmt:=PySem.Challenge.pw_floorfits_k90_whole_texts.main.body.getD i (.Pass ⟨0,0,0,0⟩)
noncomputable def T:Tab:=⟨[("MOST_COLOUR",.int 8),("MOST_TILES",.int 16),("MOST_SIDE",.int 6),("FIGURES",.str "012345678"),("BARE",.str "-"),("UNREAD",.str "?")],["isinstance","int","bool","tuple","str","len","range","all","set","ValueError"],["FloorError","NoPlace","NoTile","NoFill","Unlike","Nothing","NoText"],[("NoText","FloorError")],["NoText"],[],[],["known"]⟩
noncomputable def F0:Fn3:=⟨"",[],[],[]⟩
def gm{K:PySem.W.Frag}{x:Str}{st:Stmt}{f:Addr}{oc kV dc pm cd ct:Value}{od an:Option Addr}{sl:Array (Option Value)}(a:PySem.W.nsIn K mainGlobals x=some (some (.ref f)))(l:K.lookup f=some ⟨oc,od,.func (PySem.W.fnOf x x (zbW st) (zbG st) (zaF st) .none kV dc pm an cd ct),sl⟩)(c:PySem.W.codeIn K cd x=true)(k:PySem.W.keepIn K (.ref f)=true)(i:PySem.W.isFn K (.ref f)=true):GFn K x st:=⟨f,a,oc,od,kV,dc,pm,an,cd,ct,sl,l,c,k,i⟩
def mm{K:PySem.W.Frag}{x q:Str}{st:Stmt}{f:Addr}{oc kV dc pm cd ct:Value}{od an:Option Addr}{sl:Array (Option Value)}{C:Addr}(a:PySem.W.findIn K (.ref C) x=some (some (.ref f)))(l:K.lookup f=some ⟨oc,od,.func (PySem.W.fnOf x q (zbW st) (zbG st) (zaF st) .none kV dc pm an cd ct),sl⟩)(c:PySem.W.codeIn K cd q=true)(k:PySem.W.keepIn K (.ref f)=true)(i:PySem.W.isFn K (.ref f)=true):MFn K C x q st:=⟨f,a,oc,od,kV,dc,pm,an,cd,ct,sl,l,c,k,i⟩
def all_mk{l:PySem.W.OpenLaw}{w:PySem.World}{K:PySem.W.Frag}{h:Heap}{mg:Z6}{fa f31:Addr}(X:K.In h)(G:h.Ns mainGlobals mg)(hfa:mg "law" = some (.ref fa))
  {od31 an31:Option Addr} {sl31:Array (Option Value)} {oc31 kV31 dc31 pm31 cd31 ct31:Value}
  (a31:PySem.W.nsIn K mainGlobals "law" = some (some (.ref f31)))
  (l31:K.lookup f31=some ⟨oc31,od31,.func (PySem.W.fnOf "law" "law" (zbW (top 47)) (zbG (top 47)) (zaF (top 47)) .none kV31 dc31 pm31 an31 cd31 ct31),sl31⟩) (c31:PySem.W.codeIn K cd31 "law" = true) (k31:PySem.W.keepIn K (.ref f31)=true)
  (zz:∀x∈T.blt,PySem.W.nsIn K mainGlobals x=some none)
  {gt1:Tok} (gl1:PySem.W.nsIn K mainGlobals "MOST_COLOUR" = some (some (.int 8 gt1)))
  {gt2:Tok} (gl2:PySem.W.nsIn K mainGlobals "MOST_TILES" = some (some (.int 16 gt2)))
  {gt3:Tok} (gl3:PySem.W.nsIn K mainGlobals "MOST_SIDE" = some (some (.int 6 gt3)))
  {gt4:Tok} (gl4:PySem.W.nsIn K mainGlobals "FIGURES" = some (some (.str "012345678" gt4)))
  {gt5:Tok} (gl5:PySem.W.nsIn K mainGlobals "BARE" = some (some (.str "-" gt5)))
  {gt6:Tok} (gl6:PySem.W.nsIn K mainGlobals "UNREAD" = some (some (.str "?" gt6)))
  {e0 e1 e2 e3 e4 e5 e6:Addr}
  (n0:XA K "FloorError" e0)
  (n1:XA K "NoPlace" e1)
  (n2:XA K "NoTile" e2)
  (n3:XA K "NoFill" e3)
  (n4:XA K "Unlike" e4)
  (n5:XA K "Nothing" e5)
  (n6:XA K "NoText" e6)
  {el6:Value} {ed6:Option Addr} {ec6:ClassData} {es6:Array (Option Value)} (lk6:K.lookup e6=some ⟨el6,ed6,.cls ec6,es6⟩) (mr6:ec6.mro=.ref e6::.ref e0::bmV)
  (ga6:PySem.W.findIn K (.ref e6) "__getattribute__" = some (some (.builtin "BaseException.__getattribute__"))) (gt6:PySem.W.findIn K (.ref e6) "__getattr__" = some none) (cc6:PySem.W.findIn K (.ref e6) "__class__" = some (some (.builtin "object.__class__")))
  (nd:[e0,e1,e2,e3,e4,e5,e6].Nodup)
  (p1:GFn K "is_whole" (top 12)) (p2:GFn K "is_tuple_of" (top 13)) (p3:GFn K "is_colour" (top 14)) (p4:GFn K "is_tile" (top 15)) (p5:GFn K "is_set" (top 16)) (p6:GFn K "has_number" (top 17)) (p7:GFn K "may_lie" (top 18)) (p8:GFn K "is_row" (top 19)) (p9:GFn K "is_floor" (top 20)) (p10:GFn K "tile_text" (top 25)) (p11:GFn K "set_text" (top 26)) (p12:GFn K "number_text" (top 27)) (p13:GFn K "row_text" (top 28)) (p14:GFn K "floor_text" (top 29)) (p15:GFn K "colour_by" (top 30)) (p16:GFn K "read_tile" (top 31)) (p17:GFn K "read_set" (top 32)) (p18:GFn K "numbers_by_text" (top 33)) (p19:GFn K "read_row" (top 34)) (p20:GFn K "read_floor" (top 35)) (p21:GFn K "_law_cell" (top 37)) (p22:GFn K "_law_pick" (top 38)) (p23:GFn K "_law_tiles" (top 39)) (p24:GFn K "_law_floor" (top 40)) (p25:GFn K "_law_sides" (top 41)) (p26:GFn K "_law_spoilt" (top 42)) (p27:GFn K "_law_word" (top 43)) (p28:GFn K "_law_set_text" (top 44)) (p29:GFn K "_law_floor_text" (top 45)) (p30:GFn K "_law_read" (top 46))
  : ∃fd:FuncData,(∀(s:Shared) (v:Value),BindsTo s fd ⟨[v],[]⟩ [("_law_script",v)])/\∀base:Heap,K.In base->base.Ns mainGlobals mg->zo0 mg base->(∀q∈([]:List (PySem.Addr×PySem.Addr)),PySem.W.CodeHd base q.1 q.2)->FnOk l.prog w K mg base (CXE l.prog w) 31 fa fd ["_law_script"] (S2.zhe K ([]:List (PySem.Addr×PySem.Addr))):=by
 have e:=hfa.symm.trans (yaV X G a31);cases e;refine ⟨PySem.W.fnOf "law" "law" (zbW (top 47)) (zbG (top 47)) (zaF (top 47)) .none kV31 dc31 pm31 an31 cd31 ct31,fun s v=>.of_eq rfl,fun base _ _ hB hCd=>?_⟩
 let cl:Cf:=⟨fun x=>(([("FloorError",e0),("NoPlace",e1),("NoTile",e2),("NoFill",e3),("Unlike",e4),("Nothing",e5),("NoText",e6)]:List (Str×Addr)).lookup x).getD 0,K,l.prog,w,fun a=>none⟩
 have HX:∀c∈T.exc,PySem.W.excIn K (cl c) bmV "ValueError.__new__" = true:=(zar n0.x (zar n1.x (zar n2.x (zar n3.x (zar n4.x (zar n5.x (zar n6.x zd4)))))));have AI:∀C∈T.exc,∀c∈T.exc,(cl C=cl c↔C=c):=fun C hC c hc=>zrK (L:=[("FloorError",e0),("NoPlace",e1),("NoTile",e2),("NoFill",e3),("Unlike",e4),("Nothing",e5),("NoText",e6)]) nd hC hc
 have g0:GOk cl (Gn T F0) cl.P cl.wo cl.K mg base 0:=zwJ (cl:=cl) (zar ⟨.int 8,_,yaV X G gl1,⟨_,rfl⟩,fun _=>.int _⟩ (zar ⟨.int 16,_,yaV X G gl2,⟨_,rfl⟩,fun _=>.int _⟩ (zar ⟨.int 6,_,yaV X G gl3,⟨_,rfl⟩,fun _=>.int _⟩ (zar ⟨.str "012345678",_,yaV X G gl4,⟨_,rfl⟩,fun _=>.str _⟩ (zar ⟨.str "-",_,yaV X G gl5,⟨_,rfl⟩,fun _=>.str _⟩ (zar ⟨.str "?",_,yaV X G gl6,⟨_,rfl⟩,fun _=>.str _⟩ zd4)))))) (fun x h=>PySem.W.mg_none_of X G (zz x h)) (zar ⟨yaV X G n0.n,n0.x⟩ (zar ⟨yaV X G n1.n,n1.x⟩ (zar ⟨yaV X G n2.n,n2.x⟩ (zar ⟨yaV X G n3.n,n3.x⟩ (zar ⟨yaV X G n4.n,n4.x⟩ (zar ⟨yaV X G n5.n,n5.x⟩ (zar ⟨yaV X G n6.n,n6.x⟩ zd4))))))) (zar ⟨⟨_,_,n6.x⟩,_,_,_,_,lk6,zn5 mr6⟩ zd4) (zar (zq9 (K:=K) (c:="NoText") (cl:=cl) lk6 mr6 rfl ga6 gt6 cc6 HX (fun C hC=>⟨AI C hC "NoText" (by decide),AI C hC "FloorError" (by decide)⟩)) zd4) zd4;have g1:=ag g0 X G p1 1 ["thing"] false zaN zb1 (fun _ _ _ _ _ _=>bb1 fun _=>rfl) (by kernel_rfl) rfl (by rfl);have g2:=ag g1 X G p2 3 ["thing","least","most"] false zam za5 (fun _ _ _ _ _ _=>bb3 fun _ _ _=>rfl) (by kernel_rfl) rfl (by rfl);have g3:=ag g2 X G p3 1 ["thing"] false zaW zbD (fun _ _ _ _ _ _=>bb1 fun _=>rfl) (by kernel_rfl) rfl (by rfl);have g4:=ag g3 X G p4 1 ["thing"] false zbY zcY (fun _ _ _ _ _ _=>bb1 fun _=>rfl) (by kernel_rfl) rfl (by rfl);have g5:=ag g4 X G p5 1 ["thing"] false zb2 zcZ (fun _ _ _ _ _ _=>bb1 fun _=>rfl) (by kernel_rfl) rfl (by rfl);have g6:=ag g5 X G p6 2 ["tiles","thing"] false zbL zbU (fun _ _ _ _ _ _=>bb2 fun _ _=>rfl) (by kernel_rfl) rfl (by rfl);have g7:=ag g6 X G p7 2 ["tiles","thing"] false zbA zck (fun _ _ _ _ _ _=>bb2 fun _ _=>rfl) (by kernel_rfl) rfl (by rfl);have g8:=ag g7 X G p8 2 ["tiles","thing"] false zcu zdE (fun _ _ _ _ _ _=>bb2 fun _ _=>rfl) (by kernel_rfl) rfl (by rfl);have g9:=ag g8 X G p9 2 ["tiles","thing"] false zaO zbz (fun _ _ _ _ _ _=>bb2 fun _ _=>rfl) (by kernel_rfl) rfl (by rfl);have g10:=ag g9 X G p10 1 ["tile"] false zbc zcF (fun _ _ _ _ _ _=>bb1 fun _=>rfl) (by kernel_rfl) rfl (by rfl);have g11:=ag g10 X G p11 1 ["tiles"] false zct zde (fun _ _ _ _ _ _=>bb1 fun _=>rfl) (by kernel_rfl) rfl (by rfl);have g12:=ag g11 X G p12 1 ["number"] false zaC zbs (fun _ _ _ _ _ _=>bb1 fun _=>rfl) (by kernel_rfl) rfl (by rfl);have g13:=ag g12 X G p13 1 ["row"] false zbv zdf (fun _ _ _ _ _ _=>bb1 fun _=>rfl) (by kernel_rfl) rfl (by rfl);have g14:=ag g13 X G p14 1 ["floor"] false zbM zcl (fun _ _ _ _ _ _=>bb1 fun _=>rfl) (by kernel_rfl) rfl (by rfl);have g15:=ag g14 X G p15 1 ["sign"] false zaX zb7 (fun _ _ _ _ _ _=>bb1 fun _=>rfl) (by kernel_rfl) rfl (by rfl);have g16:=ag g15 X G p16 1 ["line"] false zbd zcG (fun _ _ _ _ _ _=>bb1 fun _=>rfl) (by kernel_rfl) rfl (by rfl);have g17:=ag g16 X G p17 1 ["text","tiles"] false zbw zb0 (fun _ _ _ _ _ _=>bb1 fun _=>rfl) (by kernel_rfl) rfl (by rfl);have g18:=ag g17 X G p18 1 ["tiles","known","number"] true zaM zbf (fun _ _ _ _ _ _=>bb1 fun _=>rfl) (by kernel_rfl) rfl (by rfl);have g19:=ag g18 X G p19 2 ["known","line"] false zbx zdg (fun _ _ _ _ _ _=>bb2 fun _ _=>rfl) (by kernel_rfl) rfl (by rfl);have g20:=ag g19 X G p20 2 ["tiles","text","known","floor"] false zbk zbT (fun _ _ _ _ _ _=>bb2 fun _ _=>rfl) (by kernel_rfl) rfl (by rfl);have g21:=ag g20 X G p21 2 ["_law_script","_law_k"] false zbe zbF (fun _ _ _ _ _ _=>bb2 fun _ _=>rfl) (by kernel_rfl) rfl (by rfl);have g22:=ag g21 X G p22 3 ["_law_script","_law_k","_law_many","_law_drawn"] false zai zcI (fun _ _ _ _ _ _=>bb3 fun _ _ _=>rfl) (by kernel_rfl) rfl (by rfl);have g23:=ag g22 X G p23 3 ["_law_script","_law_at","_law_most","_law_colours","_law_made","_law_k","_law_tile"] false zbN zcm (fun _ _ _ _ _ _=>bb3 fun _ _ _=>rfl) (by kernel_rfl) rfl (by rfl);have g24:=ag g23 X G p24 6 ["_law_script","_law_at","_law_tiles_here","_law_rows","_law_columns","_law_many","_law_made","_law_row","_law_line","_law_column","_law_here"] false zbP zco (fun _ _ _ _ _ _=>bb6 fun _ _ _ _ _ _=>rfl) (by kernel_rfl) rfl (by rfl);have g25:=ag g24 X G p25 2 ["_law_script","_law_at"] false zbO zcn (fun _ _ _ _ _ _=>bb2 fun _ _=>rfl) (by kernel_rfl) rfl (by rfl);have g26:=ag g25 X G p26 3 ["_law_text","_law_cell_here","_law_signs","_law_at","_law_sign","_law_on","_law_way"] false zan zaw (fun _ _ _ _ _ _=>bb3 fun _ _ _=>rfl) (by kernel_rfl) rfl (by rfl);have g27:=ag g26 X G p27 1 ["_law_kept","_law_kinds"] false zb3 zcH (fun _ _ _ _ _ _=>bb1 fun _=>rfl) (by kernel_rfl) rfl (by rfl);have g28:=ag g27 X G p28 1 ["_law_tiles_here","_law_text","_law_tile","_law_colour"] false zaJ zbE (fun _ _ _ _ _ _=>bb1 fun _=>rfl) (by kernel_rfl) rfl (by rfl);have g29:=ag g28 X G p29 1 ["_law_floor_here","_law_text","_law_row","_law_line","_law_number"] false zaB zbh (fun _ _ _ _ _ _=>bb1 fun _=>rfl) (by kernel_rfl) rfl (by rfl);have g30:=ag g29 X G p30 3 ["_law_what","_law_tiles_here","_law_text","_law_kept","_law_answer","e"] false zal zbg (fun _ _ _ _ _ _=>bb3 fun _ _ _=>rfl) (by kernel_rfl) rfl (by rfl);have G31:=zrf (cl:=cl) (wo:=w) (P:=l.prog) (N:=["_law_script","_law_tiles_here","_law_k","_law_rows","_law_columns","_law_floor_here","_law_text","_law_other","_law_cell_here","_law_spoilt_here","_law_told","_law_is_good","_law_odd"]) (own:=false) (fs:=zlM) (zmE (st:=(top 47)) l31 c31 k31) (zmn (n:=1) (by kernel_rfl)).1 g30 rfl rfl rfl (by rfl);exact G31.imp (zoa (cl:=cl) (tabs:=([]:List (PySem.Addr×PySem.Addr))) (fun P q h=>nomatch h) (fun l hl=>⟨[],zlB l hl⟩))
def walk{l:PySem.W.OpenLaw}{q:Program}{loose:List Str}{XP:(Str->Option Value)->Heap->Prop}{YP:PySem.World->Heap->Prop}{d:DefRec}{K:Params->PySem.W.Frag}(hn:l.most=some 63)(hdf:d.params.defaults=[])
  (hY:∀(w:PySem.World) (h:Heap),YP w h->(K w.params).In h) (hnt:∀w:PySem.World,PySem.W.noTabs (K w.params)=true)
  (hT:∀(w:PySem.World) (mg mb:Z6) (mean:ExcName->Option Value) (h:Heap),(K w.params).In h->PyProof.Rows.Top q (PySem.W.looseW q loose) mean mg mb h->PySem.W.TabsAt ([]:List (PySem.Addr×PySem.Addr)) h)
  (F:∀(w:PySem.World) (mg:Z6) (fa:Addr) (h:Heap),(K w.params).In h->h.Ns mainGlobals mg->mg d.name=some (.ref fa) →
   ∃fd:FuncData,(∀(s:Shared) (u:Value),BindsTo s fd ⟨[u],[]⟩ [("_law_script",u)])/\∀base:Heap,(K w.params).In base->base.Ns mainGlobals mg->zo0 mg base->(∀q∈([]:List (PySem.Addr×PySem.Addr)),PySem.W.CodeHd base q.1 q.2)->FnOk l.prog w (K w.params) mg base (CXE l.prog w) 31 fa fd ["_law_script"] (S2.zhe (K w.params) ([]:List (PySem.Addr×PySem.Addr)))) :
  PySem.W.WalkO q loose XP YP l.row.toRowW d [] (fun f vs=>PySem.call f vs) :=
 L2.zkF (n:=63) (k:=31) (x:="_law_script") (tabs:=([]:List (PySem.Addr×PySem.Addr))) (CX:=fun w=>CXE l.prog w) (sp:=fun w=>S2.zhe (K w.params) ([]:List (PySem.Addr×PySem.Addr))) hn (by decide) hdf ⟨rfl,by decide,by decide⟩ hY hnt hT F (fun _ _ a ns hl hO hTb hne hS=>⟨a,ns,rfl,hl,hO,hTb,hne,hS,fun _=>rfl⟩) (by rintro _ _ _ _ _ ⟨_,_,_,_,_,_,_,_,_,_,_,_,_,_,z⟩;exact z)
end M90
namespace PySem.W.Fast
noncomputable def tw14828956292360661543:=0
noncomputable def tw2130627031030751424:=0
noncomputable def tw8960672352399420802:=0
noncomputable def tw428422304343827820:=0
noncomputable def tw15946109662861119085:=0
noncomputable def tw14880207219155578379:=0
noncomputable def tw4089109430380361772:=0
noncomputable def tw15638086270570884100:=0
noncomputable def tw18152043901678202264:=0
noncomputable def tw12127348747563262242:=0
noncomputable def tw15496618287109027536:=0
noncomputable def tw285237849256749195:=0
noncomputable def tw11016026863283465602:=0
noncomputable def tw13280754000941667312:=0
noncomputable def tw2880143662221328473:=0
noncomputable def tw4397056949891654913:=0
noncomputable def tw11650157199571628483:=0
noncomputable def tw6892586962705162819:=0
noncomputable def tw6596217335760243564:=0
noncomputable def tw8876170486133720548:=0
noncomputable def tw2629515897332344399:=0
noncomputable def tw11742659781941959067:=0
noncomputable def tw4770334488242641899:=0
noncomputable def tw2139322355033995201:=0
noncomputable def tw15505097308097378276:=0
noncomputable def tw226167509533471985:=0
noncomputable def tw4220130051253602437:=0
noncomputable def tw6092543465916385912:=0
noncomputable def tw8836841947580929973:=0
noncomputable def tw3886374205627000499:=0
noncomputable def tw6249643958934649132:=0
noncomputable def tw14975752788356262431:=0
noncomputable def tw1165417111581002311:=0
noncomputable def tw1745652550956880377:=0
noncomputable def tw4445513924547028298:=0
noncomputable def tw2571769025809813699:=0
noncomputable def tw9084688601986948852:=0
noncomputable def tw14598030463177337169:=0
noncomputable def tw3824457413228694439:=0
noncomputable def tw8881846818248191590:=0
noncomputable def tw5147767380389061568:=0
noncomputable def tw3656462111723099237:=0
noncomputable def tw11254692648353627057:=0
noncomputable def tw15142638185444193850:=0
noncomputable def tw7552283561335754701:=0
noncomputable def tw6743162671917783824:=0
noncomputable def tw11717340876412811720:=0
noncomputable def tw5747979167400250985:=0
noncomputable def tw16788698054426787750:=0
noncomputable def tw3030860973472536682:=0
noncomputable def tw25364463410634930:=0
noncomputable def tw17619719873610093381:=0
noncomputable def tw9669771601767614924:=0
noncomputable def tw7512824322039668198:=0
noncomputable def tw17488724618704500870:=0
noncomputable def tw15567915520269822928:=0
noncomputable def tw11663129254918033484:=0
noncomputable def tw3324802313422894804:=0
noncomputable def tw8921295222684146767:=0
noncomputable def tw9317891858283589015:=0
noncomputable def tw14981018735917470773:=0
noncomputable def tw3251635254339735176:=0
noncomputable def tw6775915774281755723:=0
noncomputable def tw16420372163231335973:=0
noncomputable def tw10099765635455895094:=0
noncomputable def tw1794237650588927563:=0
noncomputable def tw4755584557951203923:=0
noncomputable def tw12521116910117368940:=0
noncomputable def tw8858880840596995010:=0
noncomputable def tw13995629688317199149:=0
noncomputable def tw501100797377491863:=0
noncomputable def tw15414208073029460205:=0
noncomputable def tw11915858983310228576:=0
noncomputable def tw10428889314086125208:=0
noncomputable def tw7325557679614721225:=0
noncomputable def tw10796882283451813509:=0
noncomputable def tw14649722118555654100:=0
noncomputable def tw9133837012798630815:=0
noncomputable def tw12991418691820340680:=0
noncomputable def tw1345162519168030184:=0
noncomputable def tw5792625654699405467:=0
noncomputable def tw9940801120400678086:=0
noncomputable def tw8084828382464837112:=0
noncomputable def tw8699658657778087697:=0
noncomputable def tw18218104454981664168:=0
noncomputable def tw16656029582076048376:=0
noncomputable def tw17145309397196726561:=0
noncomputable def tw5321515869422503504:=0
noncomputable def tw15170874446509954148:=0
noncomputable def tw17624089985843101609:=0
noncomputable def tw14219606576155589930:=0
noncomputable def tw6654997635918876411:=0
noncomputable def tw718151692480542097:=0
noncomputable def tw7157985455963412848:=0
noncomputable def tw14981243597553724345:=0
noncomputable def tw6687917933241211499:=0
noncomputable def tw1674416681803043007:=0
noncomputable def tw14944612757356348189:=0
noncomputable def tw11084282835953497047:=0
noncomputable def tw16618812047520858514:=0
noncomputable def tw8181770170096767255:=0
noncomputable def tw18176716343196721171:=0
noncomputable def tw160654826331360140:=0
noncomputable def tw15756091685539950419:=0
noncomputable def tw11335156970808078028:=0
noncomputable def tw3214393710743901170:=0
noncomputable def tw9747703315106338744:=0
noncomputable def tw17607089326328617932:=0
noncomputable def tw8639808285428670766:=0
noncomputable def tw3301159239713085297:=0
noncomputable def tw629153452434961342:=0
noncomputable def tw13451356608659022670:=0
noncomputable def tw5317793374527369526:=0
noncomputable def tw16070137054061497074:=0
noncomputable def tw9833863635206466018:=0
noncomputable def tw5963167037766212914:=0
noncomputable def tw2636426001463513474:=0
noncomputable def tw16342730764794369555:=0
noncomputable def tw10155749394523107319:=0
noncomputable def tw4564549447037333372:=0
noncomputable def tw10521429705505909047:=0
noncomputable def tw16556042898195076582:=0
noncomputable def tw8185858371653534187:=0
noncomputable def tw3000365718824284684:=0
noncomputable def tw4643886830408795:=0
noncomputable def tw2952121097363075601:=0
noncomputable def tw4512514757898226577:=0
noncomputable def tw8491134803293616806:=0
noncomputable def tw14419155465747177515:=0
noncomputable def tw14054605366099192289:=0
noncomputable def tw11065231033578409917:=0
noncomputable def tw170503669210984218:=0
noncomputable def tw12080764356446785219:=0
noncomputable def tw3378147633229309117:=0
noncomputable def tw16842281207389118784:=0
noncomputable def tw15468261566059110225:=0
noncomputable def tw13305715586149393602:=0
noncomputable def tw9997878147668456740:=0
noncomputable def tw2187438818222893794:=0
noncomputable def tw9266266243981464428:=0
noncomputable def tw12867229501431391332:=0
noncomputable def tw5740910474392266608:=0
noncomputable def tw16827358529821988273:=0
noncomputable def tw3133670962801791889:=0
noncomputable def tw18446178717115504971:=0
noncomputable def tw3587788941981417408:=0
noncomputable def tw18105020855364527071:=0
noncomputable def tw14017761698066177938:=0
noncomputable def tw5572036481223169596:=0
noncomputable def tw5454970776054638784:=0
noncomputable def tw15513471677490054940:=0
noncomputable def tw18092483457401569230:=0
noncomputable def tw2451937978359699076:=0
noncomputable def tw10277549128377024726:=0
noncomputable def tw16451236278576325168:=0
noncomputable def tw11788375591465068080:=0
noncomputable def tw12888773240361336951:=0
noncomputable def tw3118002120491874543:=0
noncomputable def tw5480727742941784480:=0
noncomputable def tw16846445037861829670:=0
noncomputable def tw8961940742985368154:=0
noncomputable def tw10547088125680875145:=0
noncomputable def tw4505672239992040435:=0
noncomputable def tw1870610721488379526:=0
noncomputable def tw14226088431672300513:=0
noncomputable def tw4908979404615210493:=0
noncomputable def tw11983000547990749071:=0
noncomputable def tw4552462056530886650:=0
noncomputable def tw3572926867402118487:=0
noncomputable def tw6128937738812270420:=0
noncomputable def tw3409370011339105140:=0
noncomputable def tw8213409214724506830:=0
noncomputable def tw8896179110016746784:=0
noncomputable def tw18076066741511433559:=0
noncomputable def tw1657885005988442076:=0
noncomputable def tw10835356407023903836:=0
noncomputable def tw710775956463241237:=0
noncomputable def tw6410389515525822889:=0
noncomputable def tw3569990584119723386:=0
noncomputable def tw16022783012563035939:=0
noncomputable def tw15306351231352307007:=0
noncomputable def tw13695837527716616804:=0
noncomputable def tw12822067647680233554:=0
noncomputable def tw6736854498635506023:=0
noncomputable def tw14421565648968295119:=0
noncomputable def tw16231089630166677543:=0
noncomputable def tw3368707474027001309:=0
noncomputable def tw7094873050086995533:=0
noncomputable def tw9749782467310003269:=0
noncomputable def tw1800055430707214298:=0
noncomputable def tw16598917723881023813:=0
noncomputable def tw6974566613847201865:=0
noncomputable def tw6190005760334188213:=0
noncomputable def tw484293236882730850:=0
noncomputable def tw3881061661603151483:=0
noncomputable def tw16313809248237289089:=0
noncomputable def tw15632180941142587945:=0
noncomputable def tw14253578180133421464:=0
noncomputable def tw1167831222715231963:=0
noncomputable def tw9306045297532018651:=0
noncomputable def tw9109760356307003589:=0
noncomputable def tw4113548748621473421:=0
noncomputable def tw3649958333689508530:=0
noncomputable def tw3171530606329858588:=0
noncomputable def tw14910762077117946279:=0
noncomputable def tw10158867435770162474:=0
noncomputable def tw14000287677570861599:=0
noncomputable def tw765055525415924351:=0
noncomputable def tw7242530151126888027:=0
noncomputable def tw5086769528178372010:=0
noncomputable def tw15377755361564197370:=0
noncomputable def tw14551909425170408284:=0
noncomputable def tw11437376055029834836:=0
noncomputable def tw9625915325766388753:=0
noncomputable def tw6768577319589510979:=0
noncomputable def tw5997191659308274561:=0
noncomputable def tw4835873086079109135:=0
noncomputable def tw16821257883959915825:=0
noncomputable def tw16507173280040054554:=0
noncomputable def tw16429505767005411253:=0
noncomputable def tw9688957757834374462:=0
noncomputable def tw9109230266653370898:=0
noncomputable def tw8858687044026618534:=0
noncomputable def tw8743552693819974789:=0
noncomputable def tw8734362409917539434:=0
noncomputable def tw8388429537635327897:=0
noncomputable def tw8117683227210201703:=0
noncomputable def tw8078084601132809539:=0
noncomputable def tw7661174878286486947:=0
noncomputable def tw7207041192247533196:=0
noncomputable def tw7064462770341759533:=0
noncomputable def tw6746981972430202738:=0
noncomputable def tw6135800880502511429:=0
noncomputable def tw6009039034123240331:=0
noncomputable def tw5981064449325934247:=0
noncomputable def tw5683762756002270331:=0
noncomputable def tw5485700787950163448:=0
noncomputable def tw4765930838926849251:=0
noncomputable def tw4668414815228428557:=0
noncomputable def tw4528974840081794295:=0
noncomputable def tw4498274402737418252:=0
noncomputable def tw3879142872868064914:=0
noncomputable def tw3745239962700208327:=0
noncomputable def tw3694699151951143334:=0
noncomputable def tw3419942542034150747:=0
noncomputable def tw3155157168341444494:=0
noncomputable def tw311755404675381059:=0
noncomputable def tw2873584129522218344:=0
noncomputable def tw2691571972806474438:=0
noncomputable def tw2586664034599486098:=0
noncomputable def tw2105444742545505516:=0
noncomputable def tw1871016350532122519:=0
noncomputable def tw18323539185932451332:=0
noncomputable def tw1746525925271785458:=0
noncomputable def tw16119331994960084378:=0
noncomputable def tw16020330718515962643:=0
noncomputable def tw15761466402087337548:=0
noncomputable def tw15265932804351958182:=0
noncomputable def tw15122187568451244880:=0
noncomputable def tw14848235268174415767:=0
noncomputable def tw14708438733650519514:=0
noncomputable def tw14618704580385298797:=0
noncomputable def tw13969242968813144519:=0
noncomputable def tw13846005610240778554:=0
noncomputable def tw13336843614038663218:=0
noncomputable def tw1333577129264701929:=0
noncomputable def tw13302997612330275716:=0
noncomputable def tw1308727068733813223:=0
noncomputable def tw12966389610731477091:=0
noncomputable def tw12570323562580601996:=0
noncomputable def tw12477144817722787663:=0
noncomputable def tw12234443822469524987:=0
noncomputable def tw1200200106967275029:=0
noncomputable def tw11790881620615519184:=0
noncomputable def tw11669915930454472074:=0
noncomputable def tw1150093536513257126:=0
noncomputable def tw11496455948821347634:=0
noncomputable def tw11347154344347627062:=0
noncomputable def tw11119927082247180755:=0
noncomputable def tw11116487540222802046:=0
noncomputable def tw10709757009049341244:=0
noncomputable def tw10249564928061276687:=0
noncomputable def tw10045123815709332797:=0
end PySem.W.Fast
open PySem PySem.W PyProof.Rows
set_option maxRecDepth 100000 in
set_option maxHeartbeats 0 in
theorem PySem.Challenge.cw_floorfits_k90_whole_texts_holds : PySem.Challenge.rw_floorfits_k90_whole_texts.Holds := by
 w_on;o_law;k_head;(case hw=>w_witness2)
 k_fill
 refine M90.walk (l:=PySem.Challenge.rw_floorfits_k90_whole_texts) rfl rfl (fun w h Y=>PySem.W.kIn_of Y) (fun w=>by kernel_rfl) (fun w mg mb mean h X T=>fun _ h=>nomatch h) ?F
 case F =>
  intro w mg fa h KX G hmg;refine' M90.all_mk KX G hmg ?a31 ?l31 ?c31 ?k31 ?zz ?gl1 ?gl2 ?gl3 ?gl4 ?gl5 ?gl6 ?n0 ?n1 ?n2 ?n3 ?n4 ?n5 ?n6 ?lk6 ?mr6 ?ga6 ?gt6 ?cc6 ?nd ?_ ?_ ?_ ?_ ?_ ?_ ?_ ?_ ?_ ?_ ?_ ?_ ?_ ?_ ?_ ?_ ?_ ?_ ?_ ?_ ?_ ?_ ?_ ?_ ?_ ?_ ?_ ?_ ?_ ?_
  case a31 | l31 | c31 | k31 =>
   k_is
  case zz =>
   repeat refine S2.zar (by k_is) ?_
   exact S2.zd4
  case gl1 | gl2 | gl3 | gl4 | gl5 | gl6 =>
   k_is
  case n0 | n1 | n2 | n3 | n4 | n5 | n6 =>
   constructor;(k_is);(k_exc)
  case lk6 =>
   k_is
  case mr6 =>
   with_unfolding_all rfl
  case ga6 | gt6 | cc6 =>
   k_is
  case nd =>
   decide
  all_goals ((first | refine' M90.gm ?a ?l ?c ?k ?i | refine' M90.mm ?a ?l ?c ?k ?i);(case a=>k_is);(case l=>k_is);(case c=>k_is);(case k=>k_is);(case i=>k_is))
#print axioms PySem.Challenge.cw_floorfits_k90_whole_texts_holds
end
