import PyProof.Rows.All
import Wide.All
import OpenK.AllK
import Wide.FinOn
import Lean
import PyProof.EqAt
import PyProof.EqKinds
import PyProof.TupleCall
import PyProof.StrWalks
import PyProof.FString5
import PyProof.Draws
import PyProof.EnumMake
import PyProof.TupleKey
import PySem.SetTable
import OpenK.KRaise
import OpenK.KOwn
import PyProof.Rows.TopTwo
import PyProof.RulesAs
import PyProof.RulesDel
import PyProof.ExcArgsOwn
import PyProof.ExcAttrAll.ValueError
import PyProof.Rows.CountFlat
import PyProof.SumWalk
import PyProof.Rows.SeqCalls
import KE.KEqDict
import PyProof.DictWalks
import PyProof.ZipIter
import KE.KRevIter
import PyProof.CollectIter
import PyProof.TupleOfGen
import PyProof.ListRange
import PyProof.WalkInts
import PyProof.AttrMissHeap
import KE.KDictOf
import KE.KDictSum
import PyProof.Rows.SortStr
import PySem.Challenge.RW_floorfits_k96_whole_told_lists
set_option compiler.extract_closed false
set_option bootstrap.genMatcherCode false
set_option genSizeOf false
theorem yAQ(h:True:=by rfl):True:=h
namespace yAQ
end yAQ
open yAQ renaming _auto_1→yAW
theorem yAE(h:True:=by decide):True:=h
namespace yAE
end yAE
open yAE renaming _auto_1→yAR
theorem yAT(h:True:=by intro _;rfl):True:=h
namespace yAT
end yAT
open yAT renaming _auto_1→yAU
theorem yAI(h:True:=by with_unfolding_all rfl):True:=h
namespace yAI
end yAI
open yAI renaming _auto_1→yAO
def yao:=@of_decide_eq_true
def yaQ:=@decide_eq_true
def ya9:=@decide_eq_true_eq
def ybc:=@decide_eq_false
def ybn:=@beq_eq_false_iff_ne
def ybU:=@if_true
def ycb:=@beq_self_eq_true
def ycd:=@beq_iff_eq
def ycr:=@decide_eq_false_iff_not
def ycN:=@if_false
def yde:=@or_false
open PySem renaming wpAny_bind→yaa,wpAny_pure→yad,mem_of_lookup→yaB,wpAny_holding→yaW,wpAny_callSpecial?_slot→yaX,wpAny_call_entry→yaY,wpAny_newObj_type→yaZ,wpAny_truthy_bool→ya6,wpAny_mono→ybd,codeAny_builtin→ybj,wpAny_seqItems→ybq,wpAny_Call_Name_kw→ybu,wpAny_setState_of→ybB,codeAny_mono→ybK,wpAny_field→ybL,tupleKind_room_in1→ybW,wpAny_typeOf→ybZ,wpAny_loadPart_at→yb4,codeAny_call_builtin→yb8,wpAny_pyIter_tuple→ycg,wpAny_passesOwn→ych,wpAny_setField_rec→yco,wpAny_pyIter_list→ycw,wpAny_of_eq→ycx,wpAny_storeSet_of→ycy,wpAny_setField→ycz,builtinLookup_eq_fast→ycH,plainId_quiet→ycO,call_meets→ycP,wpAny_specialOf→ycS,wpAny_ite_split→ycW,wpAny_rule→yc3,wpAny_call→yc8,wpAny_standAt→yda,sizeLine_eq→ydb,wpAny_attempt→ydd
open Bool renaming and_eq_true→yab,false_ne_true→yaP,false_eq_true→ybv,not_eq_true'→ybC,or_eq_true→ycU
open List renaming getElem?_eq_getElem→yac,length_map→yae,size_toArray→yai,length_cons→yaj,mem_cons_of_mem→yan,getElem?_eq_some_iff→yap,getElem?_map→yaq,length_append→yar,mem_map→yau,mem_cons_self→yav,mem_cons→yaw,getD_eq_getElem?_getD→yax,map_cons→yaz,getElem?_append_right→yaA,lookup_cons→yaD,getElem?_append_left→yaE,mem_append_right→yaF,getElem?_set_self→yaG,mem_singleton→yaH,length_take→yaI,length_replicate→yaJ,length_set→yaK,getElem?_eq_none→yaL,length_filter_le→yaN,append_nil→yaS,getElem?_set_ne→yaU,mem_filter→ya0,mem_append→ya1,length_range→ya8,mem_of_getElem?→yba,getElem?_drop→ybb,mem_range→ybg,all_cons→ybh,all_eq_true→ybl,replicate_succ→ybo,ext_getElem?→ybp,mem_filterMap→ybt,pairwise_cons→ybw,getElem_mem→ybx,getElem?_replicate→yby,take_of_length_le→ybF,filter_cons→ybI,not_mem_nil→ybJ,flatten_cons→ybN,range_succ→ybQ,filterMap_cons→ybR,eq_nil_of_length_eq_zero→ybT,getElem?_take→ybX,nodup_cons→ybY,forIn_cons→yb0,find?_cons→yb1,append_assoc→yb3,flatMap_cons→yb5,length_drop→yca,mem_flatMap→ycc,foldl_cons→yck,getElem?_cons_succ→ycp,map_append→ycq,getElem?_toArray→ycG,mem_iff_getElem?→ycI,isEmpty_iff→ycJ,mem_append_left→ycK,mem_iff_getElem→ycL,getElem?_of_mem→ycM,of_mem_zip→ycR,mem_map_of_mem→ycX,any_eq_false→yc4,any_cons→ydc
open PySem.Heap renaming get?_push_of_some→yaf,lt_size→yak,get?_push_size→yal,size_push→ya5,get?_update_self→ybs
open Nat renaming lt_of_lt_of_le→yag,le_refl→yah,le_trans→yam,ne_of_lt→yas,lt_irrefl→yaR,ne_of_gt→yaT,zero_le→ya2,lt_succ_of_lt→ybf,mul_le_mul→ybz,le_succ→ybE,lt_succ_self→ybS,min_eq_left→yb2,lt_of_succ_lt_succ→ycv,le_of_lt→ycA,sub_self→ycE,lt_of_le_of_lt→yc0,le_of_succ_le→yc6
open Option renaming map_eq_some_iff→yat,some_ne_none→yaC,isSome_some→ycZ,isSome_map→yc7
open Array renaming length_toList→yay,getElem?_toList→yaM,getElem?_eq_getElem→yaO,getElem?_eq_some_iff→ybm,getElem?_eq_none→ybG,mem_toList_iff→ybM
open PyProof.Rows renaming slot_tuple_getitem→yaV,callWith_type1→ybD,assignInOrder_cons→ycY
open PySem.W renaming kia_one→ya3,mg_of→ybr,callWith_K→ycl,cellsFrom_some→yct,plainGet_of→ycQ
open PySem.F renaming called_set→ya4,plainAttrs_list→ya7,slot_tuple_iterator_next→ybH,slot_list_append→ybO,type_list_append→ybP,excBase_ValueError→yb6,args_tuple_add_2→yce,slot_list_getattribute→ycf,entry_tuple_add→ycj,slot_tuple_add→ycu,slot_dict_pop→ycB,slot_dict_get→ycC,typeOf_object_class→ycF,slot_zip_next→ycV
open Int renaming toNat_natCast→ybe,emod_lt_of_pos→ycm,eq_ofNat_of_zero_le→ycs,emod_nonneg→ycT
open PySem.Obj renaming data_mapFields→ybi,isFreed_of_fields→ycD,cls_mapFields→yc9
open PySem.Around renaming under_plainId→ybk
open PyProof.Rows.F renaming plain_set_update_loop→ybA,entry_set_update_loop→yb9,plain_set_update_loop→ycn
open PySem.Calls renaming callWith_builtin→ybV,evalArgs_plain→yb7,spliced_cons→yci,spliced_nil→yc5
open PySem.Code renaming quiet_builtin→yc1
open PySem.Value renaming isInt_shape→yc2
noncomputable section
set_option Elab.async false
set_option linter.all false
set_option maxRecDepth 100000
set_option maxHeartbeats 4000000
abbrev Z1:=Nat->Nat->Option Int
abbrev Z2:=List (List Int)
abbrev Z3:=List (PySem.Addr×PySem.Obj)
abbrev Z4:=List (Option Int)
abbrev Z5:=PySem.Value->PySem.Shared->Prop
abbrev Z6:=PySem.Str->Option PySem.Value
def S2.bdI{c k:Nat}(h:c<=k)(hk:k<=1000000):-1000000<=(c:Int)/\(c:Int)<=1000000:=⟨Int.le_trans (by decide) (Int.natCast_nonneg c),Int.ofNat_le.mpr (yam h hk)⟩
def S2.bdN{c k:Nat}(h:c<=k)(hk:k<=1000000):0<=(c:Int)/\(c:Int)<=1000000:=⟨Int.natCast_nonneg c,Int.ofNat_le.mpr (yam h hk)⟩
local macro_rules | `(tactic| omega) => `(tactic| first | assumption | exact yam (by assumption) (by decide) | exact yag (by assumption) (by assumption) | exact yag (by assumption) (by decide) | exact ycA (by assumption) | exact S2.bdI (by assumption) (by decide) | exact yam (by assumption) (by assumption) | omega +splitDisjunctions)
namespace L2
open PySem PySem.Spec PyProof.Rows
noncomputable abbrev Key:=Sum Int Str
noncomputable def zjv:Key->Value->Bool
 | .inl k,v=>Value.isInt k v
 | .inr x,v=>Value.isStrOf x v
noncomputable def zxU(w:World):Key->Int
 | .inl k=>hashInt k
 | .inr x=>hashStr w x
theorem zaG:∀{k:Key} {v:Value},zjv k v=true->(∃i t,k=Sum.inl i/\v=Value.int i t)\/(∃x t,k=Sum.inr x/\v=Value.str x t)
 | .inl i,v,h=>by
  obtain ⟨t,e⟩:=yc2 (k:=i) (v:=v) h;exact .inl ⟨i,t,rfl,e⟩
 | .inr x,v,h=>by
  obtain ⟨t,e⟩:=Value.isStrOf_shape (x:=x) (v:=v) h;exact .inr ⟨x,t,rfl,e⟩
def zlj(i:Int)(t:Tok):zjv (.inl i) (.int i t)=true:=by simp [zjv,Value.isInt]
def zli(x:Str)(t:Tok):zjv (.inr x) (.str x t)=true:=by simp [zjv,Value.isStrOf]
def zs6(a b:Int):decide ((Sum.inl a:Key)=Sum.inl b)=(a == b):=by
 by_cases e:a=b
 ·subst e;simp
 ·have h:¬ (Sum.inl a:Key)=Sum.inl b:=fun q=>e (Sum.inl.inj q)
  rw [ybc h];exact (ybn.mpr e).symm
def zs3(a b:Str):decide ((Sum.inr a:Key)=Sum.inr b)=decide (a=b):=by
 by_cases e:a=b
 ·subst e;simp
 ·have h:¬ (Sum.inr a:Key)=Sum.inr b:=fun q=>e (Sum.inr.inj q)
  rw [ybc h,ybc e]
def zs5(a:Int)(b:Str):decide ((Sum.inl a:Key)=Sum.inr b)=false:=ybc (fun q=>nomatch q)
def zs4(a:Str)(b:Int):decide ((Sum.inr a:Key)=Sum.inl b)=false:=ybc (fun q=>nomatch q)
def zav(prog:Program)(w:World):PySem.KeyKind prog w Key where
 is:=zjv
 hash:=zxU w
 inj:=fun v a b ha hb=>by
  rcases zaG ha with ⟨i,t,rfl,rfl⟩ | ⟨x,t,rfl,rfl⟩
  ·rcases zaG hb with ⟨j,u,rfl,e⟩ | ⟨y,u,rfl,e⟩
   ·injection e with e1 _;rw [e1]
   ·exact nomatch e
  ·rcases zaG hb with ⟨j,u,rfl,e⟩ | ⟨y,u,rfl,e⟩
   ·exact nomatch e
   ·injection e with e1 _;rw [e1]
 byValue:=fun k v h=>by
  rcases zaG h with ⟨i,t,rfl,rfl⟩ | ⟨x,t,rfl,rfl⟩<;>rfl
 pyHash:=fun hv h=>by
  rcases zaG hv with ⟨i,t,rfl,rfl⟩ | ⟨x,t,rfl,rfl⟩
  ·exact wpAny_pyHash_int h
  ·exact wpAny_pyHash_str h
 eqBool:=fun hu hv h=>by
  rcases zaG hu with ⟨i,t,rfl,rfl⟩ | ⟨x,t,rfl,rfl⟩
  ·rcases zaG hv with ⟨j,u,rfl,rfl⟩ | ⟨y,u,rfl,rfl⟩
   ·rw [zs6] at h;exact wpAny_eqBool_int h
   ·rw [zs5] at h;exact SeqAt.EqAt.int_str i t y u _ _ _ _ h
  ·rcases zaG hv with ⟨j,u,rfl,rfl⟩ | ⟨y,u,rfl,rfl⟩
   ·rw [zs4] at h;exact SeqAt.EqAt.str_int x t j u _ _ _ _ h
   ·rw [zs3] at h;exact wpAny_eqBool_str h
 «strs»:=fun k x t v h=>by
  rcases zaG h with ⟨i,u,rfl,e⟩ | ⟨y,u,rfl,e⟩
  ·exact nomatch e
  ·injection e with e1 _
   subst e1
   cases v<;>rfl
def zhx(prog:Program)(w:World)(i:Int)(t:Tok):(zav prog w).is (.inl i) (.int i t)=true:=zlj i t
def zhw(prog:Program)(w:World)(x:Str)(t:Tok):(zav prog w).is (.inr x) (.str x t)=true:=zli x t
inductive V where
 | non | bl (b:Bool) | int (i:Int) | str (x:Str) | byt (b:Array UInt8) | flt (b:UInt64) | ref (a:Addr) | ty (n:String)
 deriving DecidableEq
noncomputable def zaL:V->Value->Prop
 | .non,u=>u=Value.none
 | .bl b,u=>u=Value.bool b
 | .int i,u=>∃t,u=Value.int i t
 | .str x,u=>∃t,u=Value.str x t
 | .byt b,u=>∃t,u=Value.bytes b t
 | .flt b,u=>∃t,u=Value.float b t
 | .ref a,u=>u=Value.ref a
 | .ty n,u=>u=Value.type n
noncomputable abbrev Vals:List V->List Value->Prop:=Paired zaL
theorem Vals.length(r:Vals xs us):xs.length=us.length:=Paired.length r
theorem Vals.get:∀{xs:List V} {us:List Value} {i:Nat} {x:V},Vals xs us->xs[i]?=some x->∃u,us[i]?=some u/\zaL x u
 | _,_,_,_,.nil,e=>by simp at e
 | _,_,0,_,.cons r _,e=>by simp at e;subst e;exact ⟨_,rfl,r⟩
 | _,_,i+1,x,.cons _ t,e=>by
  obtain ⟨u,h1,h2⟩:=Vals.get (i:=i) (x:=x) t (by simpa using e);exact ⟨u,by simpa using h1,h2⟩
theorem Vals.append:∀{xs ys:List V} {us ws:List Value},Vals xs us->Vals ys ws->Vals (xs++ys) (us++ws)
 | _,_,_,_,.nil,s=>s
 | _,_,_,_,.cons r t,s=>.cons r (Vals.append t s)
theorem Vals.take:∀{xs:List V} {us:List Value} (n:Nat),Vals xs us->Vals (xs.take n) (us.take n)
 | _,_,0,_=>.nil
 | _,_,_+1,.nil=>.nil
 | _,_,n+1,.cons r t=>.cons r (Vals.take n t)
theorem Vals.drop:∀{xs:List V} {us:List Value} (n:Nat),Vals xs us->Vals (xs.drop n) (us.drop n)
 | _,_,0,r=>r
 | _,_,_+1,.nil=>.nil
 | _,_,n+1,.cons _ t=>Vals.drop n t
noncomputable def zfr:Option V->Option Value->Prop
 | some v,some u=>zaL v u
 | none,none=>True
 | _,_=>False
noncomputable def KV{κ:Type}:List (κ×V)->List (κ×Value)->Prop:=Paired fun (p:κ×V) (q:κ×Value)=>p.1=q.1/\zaL p.2 q.2
noncomputable def kV:Key->V
 | .inl i=>.int i
 | .inr x=>.str x
inductive HO where
 | lst (xs:List V)
 | tup (xs:List V)
 | dK (kvs:List (Key×V)) | dT (kvs:List (List Key×V))
 | set (S:Int->Bool) (n:Nat)
 | ins (C dx:Addr) (fs:List (Str×V))
 | own (x:Addr)
 | xd (fs:List (Str×V))
 | met (f x:Addr)
 | rng (lo hi:Int)
 | frz (o:Obj) (u:HO)
 | tbl (ps:Array Value)
 | ext (φ:Heap->Prop)
noncomputable abbrev Hp:=Addr->Option HO
noncomputable def upd(H:Hp)(a:Addr)(o:HO):Hp:=fun b=>if b=a then some o else H b
def zag:upd H a o a=some o:=by unfold upd;rw [if_pos rfl]
def zac(h:b≠a):upd H a o b=H b:=by unfold upd;rw [if_neg h]
def zoE{H:Hp}{a:Addr}{o u:HO}:upd (upd H a o) a u=upd H a u:=by
 funext b;unfold upd;split<;>rfl
def zu8{H:Hp}{a b:Addr}{o u:HO}(h:H a=some o)(h':H b=some u)(d:o≠u):a≠b:=by
 intro e;subst e;rw [h] at h';exact d (Option.some.inj h')
def zam{H:Hp}{a b:Addr}{o:HO}(h:H a=some o)(h':H b=none):a≠b:=by
 intro e;subst e;rw [h] at h';cases h'
noncomputable def zoA(h:Heap)(a:Addr)(items:Array Value):Prop:=∃o,h.get? a=some o/\o.cls=.type "tuple" /\ ∃n,o.data=.seq items n/\o.dict=none
theorem zoA.t{h:Heap}{a:Addr}{items:Array Value}:zoA h a items->IsTup h a items | ⟨o,e,c,n,d,_⟩=>⟨o,e,c,n,d⟩
def zoA.new(h:Heap)(items:Array Value):zoA (h.push { cls:=.type "tuple",data:=.seq items }) h.objs.size items:=⟨_,yal _ rfl,rfl,_,rfl,rfl⟩
section
variable(P:Program)(w:World)
def zaI(H:Hp)(h:Heap)(a:Addr):HO->Prop
 | .lst xs=>xs.length<=sizeLine/\∃(its:List Value) (n:Nat),Vals xs its/\h.get? a=some { cls:=.type "list",data:=.seq its.toArray n }
 | .tup xs=>xs.length<=sizeLine/\∃its:List Value,Vals xs its/\zoA h a its.toArray
 | .dK kvs=>kvs.length<=sizeLine/\(a == sysModules)=false/\∃vs,KV kvs vs/\h.DictOf (zav P w) a vs
 | .dT kvs=>kvs.length<=sizeLine/\(a == sysModules)=false/\∃xs:List (List Key×Addr×Value),
   Paired (fun (p:List Key×V) (q:List Key×Addr×Value)=>p.1=q.1/\H q.2.1=some (.tup (p.1.map kV))/\zaL p.2 q.2.2) kvs xs ∧
   ∃o es ep,h.get? a=some o/\o.ExactDict/\o.data=.dict es ep/\es.toList=xs.map (entryOfKey (tupleKind (zav P w)))/\(xs.map (·.1)).Nodup
 | .set S n=>h.SetOf (intKind P w) a S n
 | .ins C dx fs=>H dx=some (.own a)/\fs.length<=1000/\dx≠a/\h.get? a=some (PySem.W.instObj C dx) ∧
   ∃mA,h.Ns1 dx mA/\(∀f,zfr (fs.lookup f) (mA f))/\PySem.Within mA (fs.map (·.1))
 | .own _=>∃o,h.get? a=some o
 | .xd fs=>∃mA,h.Ns1 a mA/\∀f,zfr (fs.lookup f) (mA f)
 | .rng lo hi=>∃t u v,h.get? a=some { cls:=.type "range",data:=.fields #[.int lo t,.int hi u,.int 1 v] }
 | .frz o u=>h.get? a=some o/\zaI H h a u
 | .tbl ps=>h.get? a=some { cls:=.none,data:=.fields ps }
 | .met f x=>h.get? a=some (PySem.W.methodObj (.ref f) (.ref x))
 | .ext φ=>φ h/\(∃o,h.get? a=some o)/\∀h1 h2:Heap,φ h1->(∀o,h1.get? a=some o->h2.get? a=some o)->φ h2
noncomputable def HOk(H:Hp)(h:Heap):Prop:=∀a o,H a=some o->zaI P w H h a o
end
section
variable{P:Program}{w:World}{H H':Hp}{h h':Heap}{a:Addr}{o:HO}
theorem zaI.lt(x:zaI P w H h a o):a<h.objs.size:=by
 cases o with
 | lst xs=>obtain ⟨_,_,_,_,e⟩:=x;exact yak e
 | tup xs=>obtain ⟨_,_,_,p⟩:=x;exact p.t.lt
 | dK kvs=>obtain ⟨_,_,_,_,o,_,_,e,_⟩:=x;exact yak e
 | dT kvs=>obtain ⟨_,_,_,_,o,_,_,e,_⟩:=x;exact yak e
 | set S n=>obtain ⟨o,_,_,_,e,_⟩:=x;exact yak e
 | ins C dx fs=>obtain ⟨_,_,_,e,_⟩:=x;exact yak e
 | own y=>obtain ⟨_,e⟩:=x;exact yak e
 | xd fs=>obtain ⟨_,⟨_,_,_,e,_⟩,_⟩:=x;exact yak e
 | rng lo hi=>obtain ⟨_,_,_,e⟩:=x;exact yak e
 | frz ob u=>obtain ⟨e,_⟩:=x;exact yak e
 | tbl ps=>exact yak (show h.get? a=some _ from x)
 | met f y=>exact yak (show h.get? a=some _ from x)
 | ext φ=>obtain ⟨_,⟨_,e⟩,_⟩:=x;exact yak e
theorem Paired.mapP{α β:Type}{F G:α->β->Prop}:∀{l₁:List α} {l₂:List β},Paired F l₁ l₂->(∀a b,F a b->G a b)->Paired G l₁ l₂
 | _,_,.nil,_=>.nil
 | _,_,.cons r t,f=>.cons (f _ _ r) (Paired.mapP t f)
def zaI.stay(x:zaI P w H h a o)(k:∀b u,(b=a\/H b=some (.own a))->h.get? b=some u->h'.get? b=some u)
  (ho:∀b,H b=some (.own a)->H' b=some (.own a)) (ht:∀b xs,H b=some (.tup xs)->H' b=some (.tup xs)):zaI P w H' h' a o:=by
 induction o with
 | lst xs=>obtain ⟨z,its,n,r,e⟩:=x;exact ⟨z,its,n,r,k _ _ (.inl rfl) e⟩
 | tup xs=>obtain ⟨z,its,r,ob,e,c⟩:=x;exact ⟨z,its,r,ob,k _ _ (.inl rfl) e,c⟩
 | dK kvs=>obtain ⟨z,y,vs,r,ob,es,ep,e,c⟩:=x;exact ⟨z,y,vs,r,ob,es,ep,k _ _ (.inl rfl) e,c⟩
 | dT kvs =>
  obtain ⟨z,y,xs,r,ob,es,ep,e,c⟩:=x;exact ⟨z,y,xs,Paired.mapP r fun p q z=>⟨z.1,ht _ _ z.2.1,z.2.2⟩,ob,es,ep,k _ _ (.inl rfl) e,c⟩
 | set S n=>obtain ⟨ob,es,ep,t,e,c⟩:=x;exact ⟨ob,es,ep,t,k _ _ (.inl rfl) e,c⟩
 | ins C dx fs =>
  obtain ⟨d,z,ne,e,mA,⟨od,es,ep,e2,c⟩,r⟩:=x;exact ⟨ho _ d,z,ne,k _ _ (.inl rfl) e,mA,⟨od,es,ep,k _ _ (.inr d) e2,c⟩,r⟩
 | own y=>obtain ⟨ob,e⟩:=x;exact ⟨ob,k _ _ (.inl rfl) e⟩
 | xd fs=>obtain ⟨mA,⟨od,es,ep,e,c⟩,r⟩:=x;exact ⟨mA,⟨od,es,ep,k _ _ (.inl rfl) e,c⟩,r⟩
 | rng lo hi=>obtain ⟨t,u,v,e⟩:=x;exact ⟨t,u,v,k _ _ (.inl rfl) e⟩
 | frz ob u ih=>obtain ⟨e,q⟩:=x;exact ⟨k _ _ (.inl rfl) e,ih q⟩
 | tbl ps =>
  have e:h.get? a=some { cls:=.none,data:=.fields ps }:=x;show h'.get? a=some { cls:=.none,data:=.fields ps };exact k a _ (.inl rfl) e
 | met f y =>
  have e:h.get? a=some (PySem.W.methodObj (.ref f) (.ref y)):=x;show h'.get? a=some (PySem.W.methodObj (.ref f) (.ref y));exact k a _ (.inl rfl) e
 | ext φ=>obtain ⟨p,⟨o,e⟩,st⟩:=x;exact ⟨st _ _ p fun o q=>k _ _ (.inl rfl) q,⟨o,k _ _ (.inl rfl) e⟩,st⟩
theorem HOk.lt(x:HOk P w H h)(e:H a=some o):a<h.objs.size:=(x a o e).lt
def HOk.fresh(x:HOk P w H h)(e:h.objs.size<=a):H a=none:=by
 cases q:H a with
 | none=>rfl
 | some u=>exact absurd (yag (x.lt q) e) (yaR _)
def HOk.kept(x:HOk P w H h)(k:∀b u,h.get? b=some u->h'.get? b=some u):HOk P w H h':=fun a o e =>
 (x a o e).stay (fun b u _ q=>k b u q) (fun _ q=>q) fun _ _ q=>q
def HOk.laid(x:HOk P w H h)(k:∀b u,h.get? b=some u->h'.get? b=some u)(hp:h.objs.size<=a)(new:zaI P w (upd H a o) h' a o):HOk P w (upd H a o) h':=fun b u e=>by
 have hn:=x.fresh hp
 by_cases hb:b=a
 ·subst hb;rw [zag] at e;cases e;exact new
 ·rw [zac hb] at e
  exact (x b u e).stay (fun c v _ q=>k c v q) (fun c q=>by rw [zac (zam q hn)];exact q) fun c xs q=>by rw [zac (zam q hn)];exact q
end
noncomputable def Rd(H:Hp)(a:Addr)(u:HO):Prop:=H a=some u\/∃o,H a=some (.frz o u)
def Rd.ok(r:Rd H a u)(x:HOk P w H h):zaI P w H h a u:=by
 rcases r with r | ⟨o,r⟩
 ·exact x a u r
 ·obtain ⟨_,q⟩:=x a _ r;exact q
noncomputable def Mut:Option HO->Prop
 | some (.lst _)=>True
 | some (.dK _)=>True
 | some (.dT _)=>True
 | some (.set _ _)=>True
 | some (.ins _ _ _)=>True
 | some (.ext _)=>True
 | _=>False
section
variable{P:Program}{w:World}{H:Hp}{h h':Heap}{x e:Addr}{o':HO}
def HOk.write(ok:HOk P w H h)(mu:Mut (H x))(he:e=x\/H e=some (.own x))(k:∀b u,b≠e->h.get? b=some u->h'.get? b=some u)(heo:∃u,h'.get? e=some u)
  (new:zaI P w (upd H x o') h' x o'):HOk P w (upd H x o') h':=fun b u q=>by
 have nown:∀c y,H c=some (.own y)->c≠x:=fun c y r z=>by subst z;rwa [r] at mu
 have ntup:∀c xs,H c=some (.tup xs)->c≠x:=fun c xs r z=>by subst z;rwa [r] at mu
 by_cases hb:b=x
 ·subst hb;rw [zag] at q;cases q;exact new
 ·rw [zac hb] at q
  by_cases hbe:b=e
  ·have q':H b=some (.own x):=by
    rcases he with z | z
    ·exact absurd (hbe.trans z) hb
    ·rw [hbe];exact z
   rw [q] at q';cases q';obtain ⟨v,hv⟩:=heo;exact ⟨v,by rw [hbe];exact hv⟩
  ·refine (ok b u q).stay (fun c v hc r=>k c v ?_ r) (fun c r=>by rw [zac (nown c b r)];exact r) fun c xs r=>by rw [zac (ntup c xs r)];exact r
   rcases hc with rfl | hc
   ·exact hbe
   ·rintro rfl
    rcases he with z | z
    ·exact nown c b hc z
    ·rw [hc] at z;cases z;exact hb rfl
end
structure Un(fs ex:List Addr)(H H':Hp)(h h':Heap):Prop where
 keep:∀b o,h.get? b=some o->H b=none->b ∉ fs->b ∉ ex->h'.get? b=some o
 slot:∀b o,h.get? b=some o->H b=none->b∈fs->b ∉ ex->∃sl,h'.get? b=some { o with slots:=sl }
 free:∀b o,h.get? b=some o->H b=none->b ∉ ex->H' b=none
 there:∀b o,h.get? b=some o->b ∉ ex->∃o',h'.get? b=some o'
 tups:∀b xs,H b=some (.tup xs)->H' b=some (.tup xs)
 frzs:∀b o u,H b=some (.frz o u)->H' b=some (.frz o u)
 tbls:∀b ps,H b=some (.tbl ps)->∃more,H' b=some (.tbl (ps++more))
section
variable{fs fs' ex ex':List Addr}{H H1 H2:Hp}{h h1 h2 h':Heap}{a x e:Addr}{o:HO}
def Un.any(u:Un fs ex H H1 h h1)(q:h.get? b=some ob)(n:H b=none)(hx:b ∉ ex):∃sl,h1.get? b=some { ob with slots:=sl }:=by
 by_cases hb:b∈fs
 ·exact u.slot b ob q n hb hx
 ·exact ⟨ob.slots,u.keep b ob q n hb hx⟩
def Un.kept(k:∀b u,h.get? b=some u->h'.get? b=some u):Un fs ex H H h h' :=
 ⟨fun b ob q _ _ _=>k b ob q,fun b ob q _ _ _=>⟨ob.slots,k b ob q⟩,fun _ _ _ n _=>n,fun b ob q _=>⟨ob,k b ob q⟩,fun _ _ q=>q,fun _ _ _ q=>q,fun _ ps q=>⟨#[],by rw [q];simp⟩⟩
def Un.refl:Un fs ex H H h h:=Un.kept fun _ _ q=>q
def Un.laid(k:∀b u,h.get? b=some u->h'.get? b=some u)(hp:h.objs.size<=a)(hn:H a=none):Un fs ex H (upd H a o) h h' where
 keep:=fun b u q _ _ _=>k b u q
 slot:=fun b u q _ _ _=>⟨u.slots,k b u q⟩
 free:=fun b u q n _=>by rw [zac (yas (yag (yak q) hp))];exact n
 there:=fun b u q _=>⟨u,k b u q⟩
 tups:=fun b xs q=>by rw [zac (zam q hn)];exact q
 frzs:=fun b u xs q=>by rw [zac (zam q hn)];exact q
 tbls:=fun b ps q=>⟨#[],by rw [zac (zam q hn),q];simp⟩
def Un.write(mu:Mut (H x))(he:e=x\/H e=some (.own x))(k:∀b u,b≠e->h.get? b=some u->h'.get? b=some u)(heo:∃u,h'.get? e=some u):Un fs ex H (upd H x o) h h':=by
 have hx:∀b,H b=none->b≠x:=fun b n z=>by subst z;rwa [n] at mu
 have hb:∀b,H b=none->b≠e:=fun b n z=>by
  subst z
  rcases he with r | r
  ·exact hx b n r
  ·rw [n] at r;cases r
 have hm:∀b u,H b=some u->¬ Mut (some u)->b≠x:=fun b u q nm z=>by subst z;rw [q] at mu;exact nm mu
 refine ⟨fun b u q n _ _=>k b u (hb b n) q,fun b u q n _ _=>⟨u.slots,k b u (hb b n) q⟩,fun b u q n _=>by rw [zac (hx b n)];exact n,fun b u q _=>?_,
  fun b xs q=>by rw [zac (hm b _ q fun z=>z)];exact q,fun b u xs q=>by rw [zac (hm b _ q fun z=>z)];exact q,fun b ps q=>⟨#[],by rw [zac (hm b _ q fun z=>z),q];simp⟩⟩
 by_cases hbe:b=e
 ·subst hbe;exact heo
 ·exact ⟨u,k b u hbe q⟩
end
noncomputable def trk(h:Heap)(H:Hp):List Addr:=(List.range h.objs.size).filter fun a=>(H a).isSome
def zlv(h:Heap)(H:Hp):Heap:=PySem.W.hideAll h (trk h H)
def zlu(h:Heap)(H:Hp):(zlv h H).objs.size=h.objs.size:=PySem.W.hideAll_size _ _
def znd(e:h.get? b=some o)(n:H b=none):(zlv h H).get? b=some o :=
 PySem.W.hideAll_get _ e fun hm=>by
  have q:(H b).isSome=true:=(ya0.mp hm).2;rw [n] at q;simp at q
def zpY(e:(zlv h H).get? b=some o):h.get? b=some o/\H b=none:=by
 have e':h.get? b=some o:=PySem.W.of_hideAll (trk h H) e;refine ⟨e',?_⟩
 cases q:H b with
 | none=>rfl
 | some x =>
  have hm:b∈trk h H:=ya0.mpr ⟨ybg.mpr (yak e'),by simp [q]⟩;have z:(zlv h H).get? b=none:=PySem.W.hideAll_none (trk h H) hm;rw [z] at e;cases e
noncomputable def zq0(g h:Heap)(L:Addr):List (Addr×Obj):=(List.range h.objs.size).filterMap fun a=>if a=L\/(g.get? a).isSome=true then none else (h.get? a).map fun o=>(a,o)
def zbH(g h:Heap)(L d:Addr):List (Addr×Obj):=(zq0 g h L).filter fun p=>decide (p.1≠d)
structure Mod(K:PySem.W.Frag)(mg:Z6)(base:Heap):Prop where
 kin:K.In base
 glob:base.Ns mainGlobals mg
 blt:∃mb,base.Ns builtinsNs mb/\∀x:Str,x ≠ "__name__" -> mb x=bootBuiltins x
 nolimit:base.NoLimit
structure Cx where
 prog:Program
 w:World
 K:PySem.W.Frag
 mg:Str->Option Value
 base:Heap
 A:Around
 N:List Str
 s₀:Shared
 H₀:Hp
 env:Env
 outer:List Env
 stack:List Env
 ex:List Addr
 fn:Str->Bool
 calm:Bool
 pn:List (Addr×Obj)
 xe:Value->Shared->Prop
noncomputable def frs(l:List Env):List Addr:=l.filterMap (·.frame)
noncomputable abbrev Cx.fs(X:Cx):List Addr:=frs X.outer
noncomputable def Vis(sc:Scope)(x:Str):Prop:=sc.names.lookup x=some .local\/sc.names.lookup x=some .cell\/sc.names.lookup x=some .free
noncomputable def Loc(sc:Scope)(x:Str):Prop:=sc.names.lookup x=some .local\/sc.names.lookup x=some .cell
noncomputable def zyG(env:Env)(h:Heap)(m:Z6)(x:Str)(u:Value):Prop :=
 (env.kindOf x=some .local/\m x=some u)\/((env.kindOf x=some .cell\/env.kindOf x=some .free)/\∃c,env.cells.lookup x=some c/\h.IsCell c (some u))
structure Cx.Ok(X:Cx):Prop where
 mod:Mod X.K X.mg X.base
 kind:X.env.scope.kind=.function
 glob:X.env.globals=mainGlobals
 blt:X.env.builtins=builtinsNs
 above:X.s₀.heap.objs.size<=X.env.locals
 inj:∀x y c,X.env.cells.lookup x=some c->X.env.cells.lookup y=some c->x=y
 has:∀x,(X.env.kindOf x=some .cell\/X.env.kindOf x=some .free)->∃c,X.env.cells.lookup x=some c
 cab:∀x c,X.fn x=true->X.env.cells.lookup x=some c->X.s₀.heap.objs.size<=c
 hd:X.calm=true->X.A.handled=none
 frames:X.A.frames=some X.stack
 stk:X.stack=X.outer\/(X.stack=X.env::X.outer/\X.env.frame=some X.env.locals)
 exf:∀b∈X.ex,b≠X.env.locals/\∀x c,X.env.cells.lookup x=some c->c≠b
 bs:∀b o,X.base.get? b=some o->X.s₀.heap.get? b=some o/\X.H₀ b=none
 bsz:X.base.objs.size<=X.s₀.heap.objs.size
 noex:∀b o,X.base.get? b=some o->b ∉ X.ex
 exfs:∀b∈X.ex,b ∉ X.fs
 funs:X.s₀.heap.FunFrames X.base X.outer
 frf:∀b∈X.fs,X.H₀ b=none
structure Inv(X:Cx)(pins:Z3)(σ:List (Option V))(H:Hp)(s:Shared):Prop where
 ok:X.Ok
 os:s.os=X.s₀.os
 bare:AllBare s.gens
 base:Un X.fs X.ex X.H₀ H X.s₀.heap s.heap
 loc:∃m,s.heap.Ns X.env.locals m/\∀(i:Nat) (x:Str) (v:V),X.N[i]?=some x->σ[i]?=some (some v)->Vis X.env.scope x->∃u,zaL v u/\zyG X.env s.heap m x u
 cell:∀x c,X.env.cells.lookup x=some c->∃v,s.heap.IsCell c v
 free:H X.env.locals=none
 freeC:∀x c,X.env.cells.lookup x=some c->H c=none
 pin:∀p∈X.pn++pins,s.heap.get? p.1=some p.2/\H p.1=none/\p.1≠X.env.locals/\p.1 ∉ X.fs/\∀v,p.2.data≠.cell v
 hok:HOk X.prog X.w H s.heap
 len:σ.length=X.N.length
section
variable{X:Cx}{pins:Z3}{σ:List (Option V)}{H H':Hp}{s:Shared}{h':Heap}
def Cx.Ok.nofr(ok:X.Ok)(e:X.base.get? b=some o):b ∉ X.fs:=fun hb=>by
 have:=(ok.funs.mem hb).1;rw [e] at this;cases this
theorem Inv.bs(I:Inv X pins σ H s):∀b o,X.base.get? b=some o->s.heap.get? b=some o/\H b=none:=fun b o e =>
 ⟨I.base.keep b o (I.ok.bs b o e).1 (I.ok.bs b o e).2 (I.ok.nofr e) (I.ok.noex b o e),I.base.free b o (I.ok.bs b o e).1 (I.ok.bs b o e).2 (I.ok.noex b o e)⟩
def Inv.bk(I:Inv X pins σ H s):∀b o,X.base.get? b=some o->s.heap.get? b=some o:=fun b o e=>(I.bs b o e).1
theorem Inv.mod(I:Inv X pins σ H s):Mod X.K X.mg X.base:=I.ok.mod
def Inv.kIn(I:Inv X pins σ H s):X.K.In s.heap:=I.ok.mod.kin.keeps I.bk
theorem Inv.lt(I:Inv X pins σ H s):X.env.locals<s.heap.objs.size:=let ⟨_,hn,_⟩:=I.loc;hn.lt
def Inv.sz(I:Inv X pins σ H s):X.s₀.heap.objs.size<=s.heap.objs.size:=yam I.ok.above (ycA I.lt)
def Inv.nofs(I:Inv X pins σ H s)(h:s.heap.objs.size<=a):a ∉ X.fs:=fun hb=>by
 obtain ⟨_,o,ho,_⟩:=I.ok.funs.mem hb;exact absurd (yag (yak ho) (yam I.sz h)) (yaR _)
def Inv.cne(I:Inv X pins σ H s):∀x c,X.env.cells.lookup x=some c->c≠X.env.locals:=fun x c e z=>by
 obtain ⟨v,o,ho,hd⟩:=I.cell x c e;obtain ⟨m,⟨o',es,ep,ho',hd',_⟩,_⟩:=I.loc;rw [z,ho'] at ho;cases ho;rw [hd'] at hd;cases hd
theorem Inv.funs(I:Inv X pins σ H s):s.heap.FunFrames X.base X.outer:=by
 have all:∀(l:List Env),(∀b∈frs l,b∈X.fs)->X.s₀.heap.FunFrames X.base l->s.heap.FunFrames X.base l:=by
  intro l
  induction l with
  | nil=>intro _ _;trivial
  | cons env r ih =>
   intro hs hl;obtain ⟨hk,⟨L,o,hf,hn,ho,hd⟩,hr⟩:=hl;have hL:L∈X.fs:=hs L (by unfold frs;rw [ybR,hf];exact yav);obtain ⟨sl,e⟩:=I.base.slot L o ho (I.ok.frf L hL) hL fun z=>I.ok.exfs L z hL
   exact ⟨hk,⟨L,_,hf,hn,e,hd⟩,ih (fun b hb=>hs b (by unfold frs;rw [ybR,hf];exact yan _ hb)) hr⟩
 exact all X.outer (fun _ hb=>hb) I.ok.funs
theorem Inv.stack(I:Inv X pins σ H s):s.heap.FunFrames X.base X.stack:=by
 rcases I.ok.stk with e | ⟨e,hf⟩
 ·rw [e];exact I.funs
 ·rw [e];obtain ⟨m,hn,_⟩:=I.loc;refine .cons (by rw [I.ok.kind];decide) hf hn ?_ I.funs;exact Heap.get?_none_of_le (yam I.ok.bsz I.ok.above)
def Inv.stkSub(I:Inv X pins σ H s):∀b∈frs X.stack,b∈X.env.locals::X.fs:=fun b hb=>by
 rcases I.ok.stk with e | ⟨e,hf⟩
 ·rw [e] at hb;exact yan _ hb
 ·rw [e] at hb;unfold frs at hb;rwa [ybR,hf] at hb
def Inv.stkFree(I:Inv X pins σ H s):∀b∈frs X.stack,H b=none:=fun b hb=>by
 rcases yaw.mp (I.stkSub b hb) with e | hb
 ·rw [e];exact I.free
 ·obtain ⟨_,o,ho,_⟩:=I.ok.funs.mem hb;exact I.base.free b o ho (I.ok.frf b hb) fun z=>I.ok.exfs b z hb
def Inv.step{g':Array GenState}{t':Nat}{d':Drawn}{ch:List Addr}(I:Inv X pins σ H s)
  (hch:∀b∈ch,(b∈X.ex\/X.s₀.heap.objs.size<=b)/\b≠X.env.locals/\(∀x c,X.env.cells.lookup x=some c->c≠b)/\∀p∈X.pn++pins,p.1≠b)
  (keep:∀b o,b≠X.env.locals->b ∉ X.fs->b ∉ ch->s.heap.get? b=some o->H b=none->h'.get? b=some o)
  (slot:∀b o,b≠X.env.locals->b∈X.fs->b ∉ ch->s.heap.get? b=some o->H b=none->∃sl,h'.get? b=some { o with slots:=sl }) (free:∀b o,b ∉ ch->s.heap.get? b=some o->H b=none->H' b=none)
  (there:∀b o,b ∉ ch->s.heap.get? b=some o->∃o',h'.get? b=some o')
  (tups:∀b xs,H b=some (.tup xs)->H' b=some (.tup xs)) (frzs:∀b o u,H b=some (.frz o u)->H' b=some (.frz o u)) (tbls:∀b ps,H b=some (.tbl ps)->∃more,H' b=some (.tbl (ps++more)))
  (ns:∀m,s.heap.Ns X.env.locals m->h'.Ns X.env.locals m) (hok:HOk X.prog X.w H' h') (hg:AllBare g') :
  Inv X pins σ H' { s with heap:=h',gens:=g',drawn:=d',toks:=t' }:=by
 have neL:∀b o,X.s₀.heap.get? b=some o->b≠X.env.locals:=fun b o e=>yas (yag (yak e) I.ok.above)
 have neC:∀b o,X.s₀.heap.get? b=some o->b ∉ X.ex->b ∉ ch:=fun b o e hx hb=>by
  rcases (hch b hb).1 with z | z
  ·exact hx z
  ·exact absurd (yag (yak e) z) (yaR _)
 have cellK:∀x c,X.env.cells.lookup x=some c->∀v,s.heap.IsCell c v->h'.IsCell c v:=fun x c e v ⟨o,ho,hd⟩=>by
  have nch:c ∉ ch:=fun z=>(hch c z).2.2.1 x c e rfl
  by_cases hc:c∈X.fs
  ·obtain ⟨sl,q⟩:=slot c o (I.cne x c e) hc nch ho (I.freeC x c e);exact ⟨_,q,hd⟩
  ·exact ⟨o,keep c o (I.cne x c e) hc nch ho (I.freeC x c e),hd⟩
 refine ⟨I.ok,I.os,hg,⟨fun b o e n hb hx=>?_,fun b o e n hb hx=>?_,fun b o e n hx=>?_,fun b o e hx=>?_,fun b xs e=>tups b xs (I.base.tups b xs e),fun b o xs e=>frzs b o xs (I.base.frzs b o xs e),fun b ps e=>?_⟩,?_,fun x c e=>?_,?_,fun x c e=>?_,fun p hp=>?_,hok,I.len⟩
 ·exact keep b o (neL b o e) hb (neC b o e hx) (I.base.keep b o e n hb hx) (I.base.free b o e n hx)
 ·obtain ⟨sl,e1⟩:=I.base.slot b o e n hb hx;obtain ⟨sl',e2⟩:=slot b _ (neL b o e) hb (neC b o e hx) e1 (I.base.free b o e n hx);exact ⟨sl',e2⟩
 ·obtain ⟨o',e1⟩:=I.base.there b o e hx;exact free b o' (neC b o e hx) e1 (I.base.free b o e n hx)
 ·obtain ⟨o',e1⟩:=I.base.there b o e hx;exact there b o' (neC b o e hx) e1
 ·obtain ⟨m1,e1⟩:=I.base.tbls b ps e;obtain ⟨m2,e2⟩:=tbls b _ e1;exact ⟨m1++m2,by rw [e2,Array.append_assoc]⟩
 ·obtain ⟨m,hn,hl⟩:=I.loc;refine ⟨m,ns m hn,fun i x v e1 e2 e3=>?_⟩;obtain ⟨u,r,l⟩:=hl i x v e1 e2 e3;refine ⟨u,r,?_⟩
  rcases l with l | ⟨k,c,e,z⟩
  ·exact .inl l
  ·exact .inr ⟨k,c,e,cellK x c e _ z⟩
 ·obtain ⟨v,z⟩:=I.cell x c e;exact ⟨v,cellK x c e v z⟩
 ·obtain ⟨m,⟨o,_,_,ho,_⟩,_⟩:=I.loc;exact free _ o (fun z=>(hch _ z).2.1 rfl) ho I.free
 ·obtain ⟨v,o,ho,hd⟩:=I.cell x c e;exact free c o (fun z=>(hch c z).2.2.1 x c e rfl) ho (I.freeC x c e)
 ·obtain ⟨e,n,ne,nf,d⟩:=I.pin p hp;have nch:p.1 ∉ ch:=fun z=>(hch p.1 z).2.2.2 p hp rfl
  exact ⟨keep p.1 p.2 ne nf nch e n,free p.1 p.2 nch e n,ne,nf,d⟩
def Inv.un(I:Inv X pins σ H s)(u:Un X.fs [] H H' s.heap h')(hok:HOk X.prog X.w H' h'):Inv X pins σ H' { s with heap:=h',toks:=t' }:=by
 obtain ⟨m,⟨o,es,ep,ho,r⟩,_⟩:=id I.loc;obtain ⟨sl,hL⟩:=u.any ho I.free (by simp)
 exact I.step (g':=s.gens) (d':=s.drawn) (ch:=[]) (fun _ z=>nomatch z) (fun b o _ hb _ e n=>u.keep b o e n hb (by simp)) (fun b o _ hb _ e n=>u.slot b o e n hb (by simp)) (fun b o _ e n=>u.free b o e n (by simp)) (fun b o _ e=>u.there b o e (by simp)) u.tups u.frzs u.tbls (fun m' hm=>by
  obtain ⟨o',es',ep',ho',r'⟩:=hm;rw [ho] at ho';cases ho'
  exact ⟨_,es',ep',hL,r'⟩) hok I.bare
def Inv.call(I:Inv X pins σ H s)(u:Un (frs X.stack) ch H H' s.heap h')(hok:HOk X.prog X.w H' h')(hg:AllBare g')
  (hch:∀b∈ch,(b∈X.ex\/X.s₀.heap.objs.size<=b)/\b≠X.env.locals/\(∀x c,X.env.cells.lookup x=some c->c≠b)/\∀p∈X.pn++pins,p.1≠b) :
  Inv X pins σ H' { s with heap:=h',gens:=g',drawn:=d',toks:=t' }:=by
 obtain ⟨m,⟨o,es,ep,ho,r⟩,_⟩:=id I.loc;obtain ⟨sl,hL⟩:=u.any ho I.free fun z=>(hch _ z).2.1 rfl
 exact I.step (ch:=ch) hch (fun b o hL hb hc e n=>u.keep b o e n (fun z=>(yaw.mp (I.stkSub b z)).elim hL hb) hc) (fun b o _ _ hc e n=>u.any e n hc) (fun b o hc e n=>u.free b o e n hc) (fun b o hc e=>u.there b o e hc) u.tups u.frzs u.tbls (fun m' hm=>by
  obtain ⟨o',es',ep',ho',r'⟩:=hm;rw [ho] at ho';cases ho'
  exact ⟨_,es',ep',hL,r'⟩) hok hg
def Inv.turned(I:Inv X pins σ H s)(k:∀b o,b≠it->s.heap.get? b=some o->h'.get? b=some o)(hn:H it=none)(hL:it≠X.env.locals)
  (h1:it∈X.ex\/X.s₀.heap.objs.size<=it) (h2:∀x c,X.env.cells.lookup x=some c->c≠it) (h3:∀p∈X.pn++pins,p.1≠it):Inv X pins σ H { s with heap:=h',toks:=t' }:=by
 have nit:∀b u,H b=some u->b≠it:=fun b u e z=>by rw [z,hn] at e;cases e
 refine I.step (g':=s.gens) (d':=s.drawn) (ch:=[it]) (fun b hb=>?_) (fun b o _ _ hc e _=>k b o (fun z=>hc (by simp [z])) e) (fun b o _ _ hc e _=>⟨o.slots,k b o (fun z=>hc (by simp [z])) e⟩) (fun _ _ _ _ n=>n)
  (fun b o hc e=>⟨o,k b o (fun z=>hc (by simp [z])) e⟩) (fun _ _ e=>e) (fun _ _ _ e=>e) (fun b ps e=>⟨#[],by rw [e];simp⟩) (fun m hm=>?_) (fun b u e=>?_) I.bare
 ·have e:b=it:=by simpa using hb
  subst e;exact ⟨h1,hL,h2,h3⟩
 ·obtain ⟨o,es,ep,ho,r⟩:=hm;exact ⟨o,es,ep,k _ o (Ne.symm hL) ho,r⟩
 ·refine (I.hok b u e).stay (fun c v hc q=>k c v ?_ q) (fun _ q=>q) fun _ _ q=>q
  rcases hc with z | z
  ·rw [z];exact nit b u e
  ·exact nit c _ z
def Inv.tok(I:Inv X pins σ H s)(t:Nat):Inv X pins σ H { s with toks:=t }:=I.un (h':=s.heap) (t':=t) Un.refl I.hok
theorem Inv.kept(I:Inv X pins σ H s)(k:∀b u,s.heap.get? b=some u->h'.get? b=some u):Inv X pins σ H { s with heap:=h',toks:=t' }:=I.un (Un.kept k) (I.hok.kept k)
theorem Inv.laid(I:Inv X pins σ H s)(k:∀b u,s.heap.get? b=some u->h'.get? b=some u)(hp:s.heap.objs.size<=a)(new:zaI X.prog X.w (upd H a o) h' a o) :
  Inv X pins σ (upd H a o) { s with heap:=h',toks:=t' }:=I.un (Un.laid k hp (I.hok.fresh hp)) (I.hok.laid k hp new)
theorem Inv.write(I:Inv X pins σ H s)(mu:Mut (H x))(he:e=x\/H e=some (.own x))(k:∀b u,b≠e->s.heap.get? b=some u->h'.get? b=some u)(heo:∃u,h'.get? e=some u)
  (new:zaI X.prog X.w (upd H x o) h' x o):Inv X pins σ (upd H x o) { s with heap:=h',toks:=t' }:=I.un (Un.write mu he k heo) (I.hok.write mu he k heo new)
def Inv.pins_of(I:Inv X pins σ H s)(h:∀p∈pins',s.heap.get? p.1=some p.2/\H p.1=none/\p.1≠X.env.locals/\p.1 ∉ X.fs/\∀v,p.2.data≠.cell v):Inv X pins' σ H s :=
 ⟨I.ok,I.os,I.bare,I.base,I.loc,I.cell,I.free,I.freeC,fun p hp=>(ya1.mp hp).elim (fun z=>I.pin p (ycK _ z)) (h p),I.hok,I.len⟩
def zix{N:List Str}(hN:N.Nodup){i j:Nat}{x:Str}(a:N[i]?=some x)(b:N[j]?=some x):i=j:=by
 obtain ⟨h1,e1⟩:=yap.mp a;obtain ⟨h2,e2⟩:=yap.mp b;exact (List.getElem_inj hN).mp (e1.trans e2.symm)
def zge{M:Model}{A:Around}{E:Z5}{i:Nat}{x:Str}{v:V}{u:Value}{Q:Unit->Shared->Prop}(I:Inv X pins σ H s)(hN:X.N.Nodup)(hi:X.N[i]?=some x)(hx:Loc X.env.scope x)(r:zaL v u)
  (h:∀s',Inv X pins (σ.set i (some v)) H s'->(∃a,Heap.SameBut a s.heap s'.heap/\(a=X.env.locals\/X.env.cells.lookup x=some a))->Q () s') (hf:X.fn x=true\/X.env.scope.names.lookup x=some .local):wpAny M A (storeName X.env x u) Q E s:=by
 obtain ⟨m,hn,hl⟩:=id I.loc
 have hcls:(X.env.scope.kind == .class||(X.env.scope.kind == .module&&X.env.locals != X.env.globals))=false:=by rw [I.ok.kind];rfl
 have hiσ:i<σ.length:=by rw [I.len];exact (yap.mp hi).1
 have cne:=I.cne
 have tracked:∀{a:Addr} {h':Heap},(∃o,s.heap.get? a=some o/\H a=none)->Heap.SameBut a s.heap h'->HOk X.prog X.w H h':=fun {a h'} ha hs b ob e=>by
  obtain ⟨_,_,hfree⟩:=ha;refine (I.hok b ob e).stay (fun c w' hc q=>(hs.2 c ?_).trans q) (fun _ q=>q) fun _ _ q=>q
  rintro rfl
  rcases hc with rfl | hc
  ·rw [hfree] at e;cases e
  ·rw [hfree] at hc;cases hc
 rcases hx with hk | hk
 ·refine wpAny_storeName_local hk hn (fun h' hn' hs=>?_) hcls;obtain ⟨oL,_,_,hoL,_⟩:=id hn;refine h _ ⟨I.ok,I.os,I.bare,⟨fun b o e n hb hx=>?_,fun b o e n hb hx=>?_,I.base.free,fun b o e hx=>?_,I.base.tups,I.base.frzs,I.base.tbls⟩,⟨_,hn',fun j y v' e1 e2 e3=>?_⟩,fun y c e=>?_,I.free,I.freeC,fun p hp=>?_,tracked ⟨oL,hoL,I.free⟩ hs,by simpa using I.len⟩ ⟨_,hs,.inl rfl⟩
  ·exact (hs.2 b (yas (yag (yak e) I.ok.above))).trans (I.base.keep b o e n hb hx)
  ·obtain ⟨sl,e1⟩:=I.base.slot b o e n hb hx;exact ⟨sl,(hs.2 b (yas (yag (yak e) I.ok.above))).trans e1⟩
  ·obtain ⟨o',e1⟩:=I.base.there b o e hx;exact ⟨o',(hs.2 b (yas (yag (yak e) I.ok.above))).trans e1⟩
  ·by_cases hj:j=i
   ·subst hj;rw [hi] at e1;cases e1;rw [yaG hiσ] at e2;cases e2;exact ⟨u,r,.inl ⟨hk,by simp⟩⟩
   ·rw [yaU (Ne.symm hj)] at e2;obtain ⟨u',r',q⟩:=hl j y v' e1 e2 e3;refine ⟨u',r',?_⟩
    rcases q with ⟨k,e⟩ | ⟨k,c,e,z⟩
    ·refine .inl ⟨k,?_⟩;have:y≠x:=fun e=>hj (zix hN e1 (e ▸ hi))
     simp [this,e]
    ·exact .inr ⟨k,c,e,z.sameBut hs (cne y c e)⟩
  ·obtain ⟨w',z⟩:=I.cell y c e;exact ⟨w',z.sameBut hs (cne y c e)⟩
  ·obtain ⟨e,n,ne,nf,d⟩:=I.pin p hp;exact ⟨(hs.2 p.1 ne).trans e,n,ne,nf,d⟩
 ·have hfn:X.fn x=true:=by
   rcases hf with z | z
   ·exact z
   ·rw [z] at hk;cases hk
  obtain ⟨c,hc⟩:=I.ok.has x (.inl hk);obtain ⟨w',z⟩:=I.cell x c hc;refine wpAny_storeName_cell I.ok.kind hk hc z (fun h' hc' hs=>?_);obtain ⟨oc,hoc,hocd⟩:=id z;refine h { s with heap:=h' } ⟨I.ok,I.os,I.bare,⟨fun b o e n hb hx=>?_,fun b o e n hb hx=>?_,I.base.free,fun b o e hx=>?_,I.base.tups,I.base.frzs,I.base.tbls⟩,⟨m,hn.sameBut hs (Ne.symm (cne x c hc)),fun j y v' e1 e2 e3=>?_⟩,fun y c' e=>?_,I.free,I.freeC,fun p hp=>?_,tracked ⟨oc,hoc,I.freeC x c hc⟩ hs,by simpa using I.len⟩ ⟨c,hs,.inr hc⟩
  ·exact (hs.2 b (yas (yag (yak e) (I.ok.cab x c hfn hc)))).trans (I.base.keep b o e n hb hx)
  ·obtain ⟨sl,e1⟩:=I.base.slot b o e n hb hx;exact ⟨sl,(hs.2 b (yas (yag (yak e) (I.ok.cab x c hfn hc)))).trans e1⟩
  ·obtain ⟨o',e1⟩:=I.base.there b o e hx;exact ⟨o',(hs.2 b (yas (yag (yak e) (I.ok.cab x c hfn hc)))).trans e1⟩
  ·by_cases hj:j=i
   ·subst hj;rw [hi] at e1;cases e1;rw [yaG hiσ] at e2;cases e2;exact ⟨u,r,.inr ⟨.inl hk,c,hc,hc'⟩⟩
   ·rw [yaU (Ne.symm hj)] at e2;obtain ⟨u',r',q⟩:=hl j y v' e1 e2 e3;refine ⟨u',r',?_⟩
    rcases q with q | ⟨k,c',e,z'⟩
    ·exact .inl q
    ·refine .inr ⟨k,c',e,z'.sameBut hs ?_⟩;rintro rfl;exact hj (zix hN e1 (I.ok.inj _ _ _ e hc ▸ hi))
  ·by_cases hcc:c'=c
   ·subst hcc;exact ⟨_,hc'⟩
   ·obtain ⟨w2,z2⟩:=I.cell y c' e;exact ⟨w2,z2.sameBut hs hcc⟩
  ·obtain ⟨e,n,ne,nf,d⟩:=I.pin p hp;refine ⟨(hs.2 p.1 ?_).trans e,n,ne,nf,d⟩;intro q;rw [q,hoc] at e;have q':oc=p.2:=Option.some.inj e;exact d w' (by rw [<-q'];exact hocd)
def zed{M:Model}{A:Around}{E:Z5}{i:Nat}{x:Str}{v:V}{u:Value}{Q:Unit->Shared->Prop}(I:Inv X pins σ H s)(hN:X.N.Nodup)(hi:X.N[i]?=some x)(hx:Loc X.env.scope x)(r:zaL v u)
  (h:∀s',Inv X pins (σ.set i (some v)) H s'->Q () s') (hf:X.fn x=true\/X.env.scope.names.lookup x=some .local):wpAny M A (storeName X.env x u) Q E s :=
 zge I hN hi hx r (fun s' I' _=>h s' I') hf
def Inv.call'(I:Inv X pins σ H s)(ho:s'.os=s.os)(u:Un (frs X.stack) ch H H' s.heap s'.heap)(hok:HOk X.prog X.w H' s'.heap)(hg:AllBare s'.gens)
  (hch:∀b∈ch,(b∈X.ex\/X.s₀.heap.objs.size<=b)/\b≠X.env.locals/\(∀x c,X.env.cells.lookup x=some c->c≠b)/\∀p∈X.pn++pins,p.1≠b):Inv X pins σ H' s':=by
 obtain ⟨h',g',d',t',o'⟩:=s';have e:o'=s.os:=ho;subst e;exact I.call (g':=g') (t':=t') (d':=d') u hok hg hch
end
noncomputable abbrev XK:=Value->Option Addr->Hp->Prop
noncomputable abbrev St:=List (Option V)
noncomputable abbrev VK:=V->Hp->Prop
noncomputable abbrev TE:=St->Hp->VK->Prop
noncomputable abbrev TT:=St->Hp->(Bool->Hp->Prop)->Prop
noncomputable abbrev TA:=St->Hp->(List V->Hp->Prop)->Prop
structure Ends where
 nx:St->Hp->Prop
 rt:VK
 bk:St->Hp->Prop:=fun _ _=>False
 ct:St->Hp->Prop:=fun _ _=>False
noncomputable abbrev TS:=Ends->St->Hp->Prop
noncomputable def EP(X:Cx)(pins:Z3)(σ:St)(Q:VK)(u:Value)(s':Shared):Prop:=∃v H',Inv X pins σ H' s'/\zaL v u/\Q v H'
noncomputable def TP(X:Cx)(pins:Z3)(σ:St)(Q:Bool->Hp->Prop)(b:Bool)(s':Shared):Prop:=∃H',Inv X pins σ H' s'/\Q b H'
noncomputable def AP(X:Cx)(pins:Z3)(σ:St)(Q:List V->Hp->Prop)(us:List Value)(s':Shared):Prop:=∃vs H',Inv X pins σ H' s'/\Vals vs us/\Q vs H'
noncomputable def SP(X:Cx)(pins:Z3)(D:Ends)(f:Flow)(s':Shared):Prop :=
 match f with
 | .next=>∃σ' H',Inv X pins σ' H' s'/\D.nx σ' H'
 | .brk=>∃σ' H',Inv X pins σ' H' s'/\D.bk σ' H'
 | .cont=>∃σ' H',Inv X pins σ' H' s'/\D.ct σ' H'
 | .ret u=>∃v σ' H',Inv X pins σ' H' s'/\zaL v u/\D.rt v H'
noncomputable def PE(X:Cx)(e:Expr)(t:TE):Prop :=
 ∀(pins:Z3) (s:Shared) (σ:St) (H:Hp) (Q:VK),Inv X pins σ H s->t σ H Q->wpAny (model X.prog X.w) X.A (eval e X.env) (EP X pins σ Q) X.xe s
noncomputable def PT(X:Cx)(e:Expr)(t:TT):Prop :=
 ∀(pins:Z3) (s:Shared) (σ:St) (H:Hp) (Q:Bool->Hp->Prop),Inv X pins σ H s->t σ H Q->wpAny (model X.prog X.w) X.A (isTrue e X.env (eval e X.env)) (TP X pins σ Q) X.xe s
noncomputable def PW(X:Cx)(e:Expr)(t:TT):Prop :=
 ∀(whole:Sem Value) (pins:Z3) (s:Shared) (σ:St) (H:Hp) (Q:Bool->Hp->Prop),Inv X pins σ H s->t σ H Q->wpAny (model X.prog X.w) X.A (isTrue e X.env whole) (TP X pins σ Q) X.xe s
def PW.pt(h:PW X e t):PT X e t:=h _
noncomputable def PA(X:Cx)(es:List Expr)(t:TA):Prop :=
 ∀(pos:Pos) (pins:Z3) (s:Shared) (σ:St) (H:Hp) (Q:List V->Hp->Prop),Inv X pins σ H s->t σ H Q->wpAny (model X.prog X.w) X.A (spliced (backTo pos (starEach es X.env))) (AP X pins σ Q) X.xe s
noncomputable def PS(X:Cx)(st:Stmt)(t:TS):Prop :=
 ∀(pins:Z3) (s:Shared) (σ:St) (H:Hp) (D:Ends),Inv X pins σ H s->t D σ H->wpAny (model X.prog X.w) X.A (exec st X.env) (SP X pins D) X.xe s
noncomputable def PSs(X:Cx)(st:List Stmt)(t:TS):Prop :=
 ∀(pins:Z3) (s:Shared) (σ:St) (H:Hp) (D:Ends),Inv X pins σ H s->t D σ H->wpAny (model X.prog X.w) X.A (execs st X.env) (SP X pins D) X.xe s
def thn{α:Type}{t:Sem α}{Q Q':α->Shared->Prop}(h:wpAny M A t Q E s)(hQ:∀a s,Q a s->Q' a s):wpAny M A t Q' E s:=ybd h hQ fun _ _ x=>x
section
variable{X:Cx}
noncomputable def zrf(i:Nat):TE:=fun σ H Q=>∃v,σ[i]?=some (some v)/\Q v H
noncomputable def tC(v:V):TE:=fun _ H Q=>Q v H
def zaD{i:Nat}{x:Str}{pos:Pos}(hN:X.N[i]?=some x)(hv:Vis X.env.scope x)(hd:autoParam ((x == ("__debug__":Str))=false) yAR)(hcd:autoParam ((x == ("__classdict__":Str))=false) yAR):PE X (.Name x pos) (zrf i):=by
 intro pins s σ H Q I h;obtain ⟨v,e,h⟩:=h;obtain ⟨m,hn,hl⟩:=I.loc;obtain ⟨u,r,l⟩:=hl i x v hN e hv;have fin:EP X pins σ Q u s:=⟨v,H,I,r,h⟩
 rcases l with ⟨hk,hm⟩ | ⟨hk,c,hc,hcell⟩
 ·exact wpAny_Name (wpAny_loadName_local I.ok.kind hk hn hm fin) hd
 ·rcases hk with hk | hk
  ·exact wpAny_Name (wpAny_loadName_cell I.ok.kind hk hc hcell fin) hd
  ·exact wpAny_Name (wpAny_loadName_free I.ok.kind hk hc hcell fin hcd) hd
def zss{i j pos}:PE X (.Constant (.int i) j pos) (tC (.int i)):=fun _ _ _ H _ I h=>wpAny_Constant_int ⟨.int i,H,I.tok _,⟨_,rfl⟩,h⟩
def zsu{b j pos}:PE X (.Constant (.bool b) j pos) (tC (.bl b)):=fun _ _ _ H _ I h=>Constant_bool ⟨.bl b,H,I,rfl,h⟩
def zn7{j pos}:PE X (.Constant .none j pos) (tC .non):=fun _ _ _ H _ I h=>Constant_none ⟨.non,H,I,rfl,h⟩
def zn6{x j pos}:PE X (.Constant (.str x) j pos) (tC (.str x)):=fun _ _ _ H _ I h=>Calls.Constant_str ⟨.str x,H,I.tok _,⟨_,rfl⟩,h⟩
noncomputable def Gl(X:Cx)(x:Str):Prop:=X.env.kindOf x=some .globalImplicit
def zdR{E:Z5}{pins:Z3}{s:Shared}{σ:St}{H:Hp}{x:Str}{u:Value}{pos:Pos}{Q:Z5}(I:Inv X pins σ H s)(hg:Gl X x)(hm:X.mg x=some u)(h:Q u s)
  (hd:autoParam ((x == ("__debug__":Str))=false) yAR):wpAny (model X.prog X.w) X.A (eval (.Name x pos) X.env) Q E s :=
 Calls.Name_function_global I.ok.kind hg (Calls.loadGlobal_global (by rw [I.ok.glob];exact I.mod.glob.keeps I.bk) hm h) hd
def zfb{E:Z5}{pins:Z3}{s:Shared}{σ:St}{H:Hp}{x:Str}{u:Value}{pos:Pos}{Q:Z5}(I:Inv X pins σ H s)(hg:Gl X x)(hm:X.mg x=none)(hv:bootBuiltins x=some u)(h:Q u s)
  (hn:autoParam (x ≠ "__name__") yAR) (hd:autoParam ((x == ("__debug__":Str))=false) yAR):wpAny (model X.prog X.w) X.A (eval (.Name x pos) X.env) Q E s:=by
 obtain ⟨mb,h1,h2⟩:=I.mod.blt;exact Calls.Name_function_global I.ok.kind hg (Calls.loadGlobal_builtin (by rw [I.ok.glob];exact I.mod.glob.keeps I.bk) hm (by rw [I.ok.blt];exact h1.keeps I.bk) ((h2 x hn).trans hv) h) hd
def zkX{x:Str}{v:V}{u:Value}{pos:Pos}(hg:Gl X x)(hm:X.mg x=some u)(r:zaL v u)(hd:autoParam ((x == ("__debug__":Str))=false) yAR):PE X (.Name x pos) (tC v) :=
 fun _ _ _ H _ I h=>zdR I hg hm ⟨v,H,I,r,h⟩ hd
def zk0{x:Str}{v:V}{u:Value}{pos:Pos}(hg:Gl X x)(hm:X.mg x=none)(hv:bootBuiltins x=some u)(r:zaL v u)(hn:autoParam (x ≠ "__name__") yAR)(hd:autoParam ((x == ("__debug__":Str))=false) yAR):PE X (.Name x pos) (tC v) :=
 fun _ _ _ H _ I h=>zfb I hg hm hv ⟨v,H,I,r,h⟩ hn hd
variable{a b:Expr}{ta tb:TE}{pos:Pos}
noncomputable def PC(X:Cx)(op:CmpOp)(a b:Expr)(t:TE):Prop :=
 ∀(pins:Z3) (s:Shared) (σ:St) (H:Hp) (Q:VK),Inv X pins σ H s->t σ H Q →
  wpAny (model X.prog X.w) X.A (eval a X.env) (fun v s₁=>wpAny (model X.prog X.w) X.A (eval b X.env) (fun u s₂=>wpAny (model X.prog X.w) X.A (compareOp op v u) (EP X pins σ Q) X.xe s₂) X.xe s₁) X.xe s
def ztY(b:Expr){op:CmpOp}(h:op≠.In)(h2:op≠.NotIn):behindInMarks op b=false:=by
 have e1:(op == CmpOp.In)=false:=by cases op<;>first | rfl | exact absurd rfl h
 have e2:(op == CmpOp.NotIn)=false:=by cases op<;>first | rfl | exact absurd rfl h2
 cases b<;>simp [behindInMarks,e1,e2]
noncomputable def tB(t:TE):TT:=fun σ H Q=>t σ H fun x H1=>∃c,x=.bl c/\Q c H1
def zn9{op:CmpOp}{t:TE}(h:PC X op a b t)(h1:behindInMarks op b=false):PE X (.Compare a [op] [b] pos) t:=fun pins s σ H Q I hw=>wpAny_Compare1 (h pins s σ H Q I hw) h1
def zn2{op:CmpOp}{t:TE}(h:PC X op a b t)(h1:behindInMarks op b=false):PT X (.Compare a [op] [b] pos) (tB t):=by
 intro pins s σ H Q I hw;refine wpAny_isTrue_Compare1 (thn (h pins s σ H _ I hw) fun v s1 h1=>thn h1 fun u s2 h2=>thn h2 fun c s3 ⟨x,H1,I1,r1,q1⟩=>?_) h1;obtain ⟨d,rfl,q⟩:=q1;cases r1;exact ya6 ⟨H1,I1,q⟩
def zsf{e:Expr}{t:TE}(h:PE X e t)(he:autoParam (∀whole,isTrue e X.env whole=(do let v ← whole;standAt e.pos;holding [v] (truthy v))) yAU):PT X e (tB t):=by
 intro pins s σ H Q I hw;refine isTrue_plain (thn (h pins s σ H _ I hw) fun v s1 ⟨x,H1,I1,r1,q1⟩=>?_) (he _);obtain ⟨d,rfl,q⟩:=q1;cases r1;exact ya6 ⟨H1,I1,q⟩
variable{tA tB':TT}{zbH:List Expr}
noncomputable def zwo(t u:TT):TT:=fun σ H Q=>t σ H fun c H1=>if c=true then u σ H1 Q else Q false H1
noncomputable def tOr(t u:TT):TT:=fun σ H Q=>t σ H fun c H1=>if c=true then Q true H1 else u σ H1 Q
noncomputable def zup(t:TT):TT:=fun σ H Q=>t σ H fun c H1=>Q (!c) H1
def zpz(ha:PT X a tA):PW X (.BoolOp .And [a] pos) tA:=by
 intro wh pins s σ H Q I h;refine isTrue_and (thn (ha pins s σ H Q I h) fun c s1 e=>?_)
 cases c with
 | true=>exact isTrue_and_nil e
 | false=>exact e
def zsc(ha:PT X a tA):PW X (.BoolOp .Or [a] pos) tA:=by
 intro wh pins s σ H Q I h;refine isTrue_or (thn (ha pins s σ H Q I h) fun c s1 e=>?_)
 cases c with
 | false=>exact isTrue_or_nil e
 | true=>exact e
def zsd(ha:PT X a tA)(hb:PW X (.BoolOp .And (b::zbH) pos) tB'):PW X (.BoolOp .And (a::b::zbH) pos) (zwo tA tB'):=by
 intro wh pins s σ H Q I h;refine isTrue_and (thn (ha pins s σ H _ I h) fun c s1 ⟨H1,I1,q1⟩=>?_)
 cases c with
 | true=>exact hb wh pins s1 σ H1 Q I1 q1
 | false=>exact ⟨H1,I1,q1⟩
def zuP(ha:PT X a tA)(hb:PW X (.BoolOp .Or (b::zbH) pos) tB'):PW X (.BoolOp .Or (a::b::zbH) pos) (tOr tA tB'):=by
 intro wh pins s σ H Q I h;refine isTrue_or (thn (ha pins s σ H _ I h) fun c s1 ⟨H1,I1,q1⟩=>?_)
 cases c with
 | true=>exact ⟨H1,I1,q1⟩
 | false=>exact hb wh pins s1 σ H1 Q I1 q1
def zn1(ha:PT X a tA):PT X (.UnaryOp .Not a pos) (zup tA):=by
 intro pins s σ H Q I h;exact isTrue_not (ha pins s σ H (fun c H1=>Q (!c) H1) I h)
noncomputable def zuv(ta tb:TE):TE:=fun σ H Q=>ta σ H fun x H1=>∃c,x=.bl c/\if c=true then tb σ H1 Q else Q (.bl false) H1
noncomputable def zxH(ta tb:TE):TE:=fun σ H Q=>ta σ H fun x H1=>∃c,x=.bl c/\if c=true then Q (.bl true) H1 else tb σ H1 Q
noncomputable def zuo(ta:TE):TE:=fun σ H Q=>ta σ H fun x H1=>∃c,x=.bl c/\Q (.bl (!c)) H1
def zsp{op}(h:PE X a t):PE X (.BoolOp op [a] pos) t:=fun pins s σ H Q I hw=>BoolOp_one (h pins s σ H Q I hw)
def zsv(ha:PE X a ta)(hb:PE X (.BoolOp .And (b::zbH) pos) tb):PE X (.BoolOp .And (a::b::zbH) pos) (zuv ta tb):=by
 intro pins s σ H Q I h;refine BoolOp_and (thn (ha pins s σ H _ I h) fun v s1 ⟨x,H1,I1,r1,q1⟩=>?_);obtain ⟨c,rfl,q1⟩:=q1;cases r1;refine ya6 ?_
 cases c with
 | true=>exact hb pins s1 σ H1 Q I1 q1
 | false=>exact ⟨.bl false,H1,I1,rfl,q1⟩
def zuS(ha:PE X a ta)(hb:PE X (.BoolOp .Or (b::zbH) pos) tb):PE X (.BoolOp .Or (a::b::zbH) pos) (zxH ta tb):=by
 intro pins s σ H Q I h;refine BoolOp_or (thn (ha pins s σ H _ I h) fun v s1 ⟨x,H1,I1,r1,q1⟩=>?_);obtain ⟨c,rfl,q1⟩:=q1;cases r1;refine ya6 ?_
 cases c with
 | false=>exact hb pins s1 σ H1 Q I1 q1
 | true=>exact ⟨.bl true,H1,I1,rfl,q1⟩
def zsq(ha:PE X a ta):PE X (.UnaryOp .Not a pos) (zuo ta):=by
 intro pins s σ H Q I h;refine UnaryOp_ (thn (ha pins s σ H _ I h) fun v s1 ⟨x,H1,I1,r1,q1⟩=>?_);obtain ⟨c,rfl,q1⟩:=q1;cases r1;exact not_of (ya6 ⟨.bl (!c),H1,I1,rfl,q1⟩)
noncomputable def tIf(t:TT)(ta tb:TE):TE:=fun σ H Q=>t σ H fun c H1=>if c=true then ta σ H1 Q else tb σ H1 Q
def zmI(hc:PT X c tA)(ha:PE X a ta)(hb:PE X b tb):PE X (.IfExp c a b pos) (tIf tA ta tb):=by
 intro pins s σ H Q I h;refine wpAny_IfExp (thn (hc pins s σ H _ I h) fun d s1 ⟨H1,I1,q1⟩=>?_)
 cases d with
 | true=>exact ha pins s1 σ H1 Q I1 q1
 | false=>exact hb pins s1 σ H1 Q I1 q1
end
noncomputable def SqL(K:PySem.W.Frag)(H:Hp)(a:Addr)(xs:List V):Prop :=
 Rd H a (.lst xs) ∨
  ∃(o:Obj) (its:Array Value) (n:Nat),K.lookup a=some o/\o.cls=.type "list" /\ o.dict=none/\o.data=.seq its n/\its.size<=sizeLine/\Vals xs its.toList
noncomputable def SqT(K:PySem.W.Frag)(H:Hp)(a:Addr)(xs:List V):Prop :=
 Rd H a (.tup xs) ∨
  ∃(o:Obj) (its:Array Value) (n:Nat),K.lookup a=some o/\o.cls=.type "tuple" /\ o.data=.seq its n/\its.size<=sizeLine/\Vals xs its.toList
noncomputable def zyF:Value->Option V
 | .none=>some .non
 | .bool b=>some (.bl b)
 | .int i _=>some (.int i)
 | .str x _=>some (.str x)
 | .bytes b _=>some (.byt b)
 | .float b _=>some (.flt b)
 | .ref a=>some (.ref a)
 | .type n=>some (.ty n)
 | _=>none
def zaL.abs(r:zaL x u):zyF u=some x:=by
 cases x with
 | non=>cases r;rfl
 | bl _=>cases r;rfl
 | int _=>obtain ⟨t,rfl⟩:=r;rfl
 | str _=>obtain ⟨t,rfl⟩:=r;rfl
 | byt _=>obtain ⟨t,rfl⟩:=r;rfl
 | flt _=>obtain ⟨t,rfl⟩:=r;rfl
 | ref _=>cases r;rfl
 | ty _=>cases r;rfl
theorem zaL.inj(r:zaL x u)(q:zaL y u):x=y:=Option.some.inj (r.abs.symm.trans q.abs)
theorem Vals.inj:∀{xs ys:List V} {us:List Value},Vals xs us->Vals ys us->xs=ys
 | _,_,_,.nil,.nil=>rfl
 | _,_,_,.cons r t,.cons r' t'=>by rw [r.inj r',Vals.inj t t']
section
variable{X:Cx}{pins:Z3}{σ:St}{H:Hp}{s:Shared}{a:Addr}{xs ys:List V}
def SqL.of{K:PySem.W.Frag}(h:H a=some (.lst xs)):SqL K H a xs:=.inl (.inl h)
def SqT.of{K:PySem.W.Frag}(h:H a=some (.tup xs)):SqT K H a xs:=.inl (.inl h)
theorem Inv.list(I:Inv X pins σ H s)(h:SqL X.K H a xs):∃its:List Value,Vals xs its/\PlainL s.heap a its.toArray/\xs.length<=sizeLine:=by
 rcases h with h | ⟨o,its,n,hk,hc,hd,hs,hz,r⟩
 ·obtain ⟨z,its,n,r,e⟩:=h.ok I.hok;exact ⟨its,r,⟨_,n,e,rfl,rfl,rfl⟩,z⟩
 ·refine ⟨its.toList,r,⟨o,n,I.kIn a o hk,hc,hd,by simpa using hs⟩,?_⟩;have e:=r.length;simp only [yay] at e;omega
def Inv.tuple(I:Inv X pins σ H s)(h:SqT X.K H a xs):∃its:List Value,Vals xs its/\IsTup s.heap a its.toArray/\xs.length<=sizeLine:=by
 rcases h with h | ⟨o,its,n,hk,hc,hs,hz,r⟩
 ·obtain ⟨z,its,r,p⟩:=h.ok I.hok;exact ⟨its,r,p.t,z⟩
 ·refine ⟨its.toList,r,⟨o,I.kIn a o hk,hc,n,by simpa using hs⟩,?_⟩;have e:=r.length;simp only [yay] at e;omega
def Inv.list_inj(I:Inv X pins σ H s)(h:SqL X.K H a xs)(h':SqL X.K H a ys):xs=ys:=by
 obtain ⟨its,r,⟨o,n,e,_,_,d⟩,_⟩:=I.list h;obtain ⟨its',r',⟨o',n',e',_,_,d'⟩,_⟩:=I.list h';rw [e] at e';cases e';rw [d] at d'
 injection d' with d1 _
 have:its=its':=by simpa using congrArg Array.toList d1
 subst this;exact r.inj r'
def Inv.tuple_inj(I:Inv X pins σ H s)(h:SqT X.K H a xs)(h':SqT X.K H a ys):xs=ys:=by
 obtain ⟨its,r,⟨o,e,_,n,d⟩,_⟩:=I.tuple h;obtain ⟨its',r',⟨o',e',_,n',d'⟩,_⟩:=I.tuple h';rw [e] at e';cases e';rw [d] at d'
 injection d' with d1 _
 have:its=its':=by simpa using congrArg Array.toList d1
 subst this;exact r.inj r'
end
section
variable{X:Cx}{st:Stmt}{zbH:List Stmt}{t u:TS}{e:Expr}{te:TE}{pos:Pos}
noncomputable def zoQ:TS:=fun D σ H=>D.nx σ H
noncomputable def zrh(t u:TS):TS:=fun D σ H=>t { D with nx:=u D } σ H
def zkM:PSs X [] zoQ:=fun _ _ σ H _ I h=>wpAny_execs_nil ⟨σ,H,I,h⟩
def zdv(h1:PS X st t)(h2:PSs X zbH u):PSs X (st::zbH) (zrh t u):=by
 intro pins s σ H D I h;refine wpAny_execs_cons (thn (h1 pins s σ H { D with nx:=u D } I h) fun f s1 q=>?_)
 cases f with
 | next =>
  obtain ⟨σ',H',I',q⟩:=q;exact h2 pins s1 σ' H' D I' q
 | ret v=>exact q
 | brk=>exact q
 | cont=>exact q
def zkL(h1:PS X st t):PSs X [st] t:=by
 intro pins s σ H D I h;refine wpAny_execs_cons (thn (h1 pins s σ H D I h) fun f s1 q=>?_)
 cases f with
 | next=>exact wpAny_execs_nil q
 | ret v=>exact q
 | brk=>exact q
 | cont=>exact q
def zpC:PS X (.Pass pos) zoQ:=fun _ _ σ H _ I h=>wpAny_Pass ⟨σ,H,I,h⟩
def Inv.quiet(I:Inv X pins σ H s):interactive X.env=false:=by simp [interactive,I.ok.kind]
noncomputable def zrk(te:TE):TS:=fun D σ H=>te σ H fun _ H1=>D.nx σ H1
def zdb(he:PE X e te)(hs:autoParam (swapsWith e none pos.line X.env=pure false) yAW):PS X (.Expr e pos) (zrk te):=by
 intro pins s σ H D I h;exact wpAny_Expr_any (thn (he pins s σ H _ I h) fun v s1 ⟨x,H1,I1,r1,q1⟩=>⟨σ,H1,I1,q1⟩) I.quiet hs
noncomputable def zun(te:TE):TS:=fun D σ H=>te σ H D.rt
def zgs(he:PE X e te):PS X (.Return (some e) pos) (zun te):=by
 intro pins s σ H D I h;exact wpAny_Return_some (thn (he pins s σ H _ I h) fun v s1 ⟨x,H1,I1,r1,q1⟩=>⟨x,σ,H1,I1,r1,q1⟩)
noncomputable def zum:TS:=fun D _ H=>D.rt .non H
def zpB:PS X (.Return none pos) zum:=fun _ _ σ H _ I h=>wpAny_Return_none ⟨.non,σ,H,I,rfl,h⟩
noncomputable def zwm(c:TT)(t u:TS):TS:=fun D σ H=>c σ H fun b H1=>if b=true then t D σ H1 else u D σ H1
def zsh(hc:PT X c tc)(ha:PSs X a t)(hb:PSs X b u):PS X (.If c a b pos) (zwm tc t u):=by
 intro pins s σ H D I h;refine wpAny_If (thn (hc pins s σ H _ I h) fun d s1 ⟨H1,I1,q1⟩=>?_)
 cases d with
 | true=>exact ha pins s1 σ H1 D I1 q1
 | false=>exact hb pins s1 σ H1 D I1 q1
end
noncomputable abbrev TG:=V->St->Hp->(St->Hp->Prop)->Prop
noncomputable abbrev TGs:=List V->St->Hp->(St->Hp->Prop)->Prop
noncomputable def PG(X:Cx)(target:Expr)(t:TG):Prop :=
 ∀(pins:Z3) (s:Shared) (σ:St) (H:Hp) (v:V) (u:Value) (Q:St->Hp->Prop),Inv X pins σ H s->zaL v u->t v σ H Q →
  wpAny (model X.prog X.w) X.A (assign target X.env u) (fun _ s'=>∃σ' H',Inv X pins σ' H' s'/\Q σ' H') X.xe s
noncomputable def PGs(X:Cx)(ts:List Expr)(t:TGs):Prop :=
 ∀(pins:Z3) (s:Shared) (σ:St) (H:Hp) (vs:List V) (us:List Value) (Q:St->Hp->Prop),Inv X pins σ H s->Vals vs us->t vs σ H Q →
  wpAny (model X.prog X.w) X.A (assignInOrder ((assignEach ts X.env).map (·.2)) us) (fun _ s'=>∃σ' H',Inv X pins σ' H' s'/\Q σ' H') X.xe s
noncomputable abbrev zjO:=V->V->V->Hp->(Hp->Prop)->Prop
noncomputable def zxg(X:Cx)(t:zjO):Prop :=
 ∀(pins:Z3) (s:Shared) (σ:St) (H:Hp) (o i v:V) (ov iv u:Value) (Q:Hp->Prop),Inv X pins σ H s->zaL o ov->zaL i iv->zaL v u->t o i v H Q →
  wpAny (model X.prog X.w) X.A (setItem ov iv u) (fun _ s'=>∃H',Inv X pins σ H' s'/\Q H') X.xe s
section
variable{X:Cx}{pos:Pos}
noncomputable def zhz(i:Nat):TG:=fun v σ H Q=>Q (σ.set i (some v)) H
def zkV{i:Nat}{x:Str}(hN:X.N.Nodup)(hi:X.N[i]?=some x)(hx:Loc X.env.scope x)(hf:X.fn x=true\/X.env.scope.names.lookup x=some .local):PG X (.Name x pos) (zhz i):=by
 intro pins s σ H v u Q I r h;exact wpAny_assign_Name (zed I hN hi hx r (fun s' I'=>⟨_,H,I',h⟩) hf)
noncomputable def zyw:TGs:=fun vs σ H Q=>vs=[]/\Q σ H
noncomputable def zvt(t:TG)(u:TGs):TGs:=fun vs σ H Q=>∃v r,vs=v::r/\t v σ H fun σ' H'=>u r σ' H' Q
def zpN:PGs X [] zyw:=by
 intro pins s σ H vs us Q I r h;obtain ⟨e,h⟩:=h;subst e;cases r;exact assignInOrder_nil ⟨σ,H,I,h⟩
def zmF{e:Expr}{es:List Expr}{t:TG}{u:TGs}(h1:PG X e t)(h2:PGs X es u)
  (hs:autoParam ((assignEach (e::es) X.env).map (·.2)=assign e X.env::(assignEach es X.env).map (·.2)) yAW):PGs X (e::es) (zvt t u):=by
 intro pins s σ H vs us Q I r h;obtain ⟨v,vr,e1,h⟩:=h;subst e1
 cases r with
 | cons r rr =>
  rw [hs];refine ycY (thn (h1 pins s σ H _ _ _ I r h) fun _ s1 ⟨σ1,H1,I1,q1⟩=>?_);exact h2 pins s1 σ1 H1 _ _ Q I1 rr q1
noncomputable def zyu(K:PySem.W.Frag)(n:Nat)(t:TGs):TG:=fun v σ H Q=>∃a xs,v=.ref a/\SqT K H a xs/\xs.length=n/\t xs σ H Q
def zsm{es:List Expr}{k:Nat}{t:TGs}{n:Nat}(hc:X.calm=true)(h:PGs X es t)
  (hn:autoParam ((assignEach es X.env).length=n) yAW) (hst:autoParam ((assignEach es X.env).findIdx? (·.1)=none) yAW):PG X (.Tuple es k pos) (zyu X.K n t):=by
 intro pins s σ H v u Q I r hw;obtain ⟨a,xs,e1,hq,hl,hw⟩:=hw;subst e1;cases r;obtain ⟨its,rv,ht,hz⟩:=I.tuple hq;refine assign_Tuple_tuple (I.ok.hd hc) ht (by simp [hn,<-hl,rv.length]) hst fun h' hx=>?_
 have I1:Inv X pins σ H { s with heap:=h' }:=I.kept (t':=s.toks) fun b o e=>hx b o (yas (yak e)) e
 exact h pins _ σ H xs _ Q I1 (by simpa using rv) hw
noncomputable def zyv(to ti:TE)(t:zjO):TG:=fun v σ H Q=>to σ H fun o H1=>ti σ H1 fun i H2=>t o i v H2 fun H3=>Q σ H3
def zsn{o i:Expr}{to ti:TE}{t:zjO}(ho:PE X o to)(hi:PE X i ti)(hs:zxg X t)
  (ha:autoParam (∀v,assign (.Subscript o i pos) X.env v=(do
   let ov ← holding [v] (eval o X.env)
   let iv ← holding [v,ov] (eval i X.env)
   standAt pos
   holding [v,ov,iv] (setItem ov iv v)
   release [v,ov,iv] [])) yAU):PG X (.Subscript o i pos) (zyv to ti t):=by
 intro pins s σ H v u Q I r h;rw [ha];refine yaa (yaW (thn (ho pins s σ H _ I h) fun ov s1 ⟨x,H1,I1,r1,q1⟩=>?_));refine yaa (yaW (thn (hi pins s1 σ H1 _ I1 q1) fun iv s2 ⟨y,H2,I2,r2,q2⟩=>?_));refine yaa (yda (yaa (yaW (thn (hs pins s2 σ H2 x y v ov iv u _ I2 r1 r2 r q2) fun _ s3 ⟨H3,I3,q3⟩=>?_))));exact wpAny_release ⟨σ,H3,I3,q3⟩
noncomputable def znR(te:TE)(g:TG):TS:=fun D σ H=>te σ H fun x H1=>g x σ H1 D.nx
def zn3{tg e:Expr}{te:TE}{g:TG}(he:PE X e te)(hg:PG X tg g)(hs:autoParam (swapsWithSole [tg] e pos.line X.env=pure false) yAW)(hw:autoParam (swappedStores [tg] e X.env=pure none) yAW)
  (h1:autoParam ((assignEach [tg] X.env).map (·.2)=[assign tg X.env]) yAW):PS X (.Assign [tg] e pos) (znR te g):=by
 intro pins s σ H D I h;refine wpAny_Assign_stores (thn (he pins s σ H _ I h) fun v s1 ⟨x,H1,I1,r1,q1⟩=>?_) hs hw;rw [h1];exact thn (hg pins s1 σ H1 x v _ I1 r1 q1) fun _ s2 q=>q
def zii{i:Nat}{x:Str}{e:Expr}{te:TE}{pos':Pos}(hN:X.N.Nodup)(hi:X.N[i]?=some x)(hx:Loc X.env.scope x)(he:PE X e te)(hs:autoParam (swapsWith e (some (.Name x pos')) pos.line X.env=pure false) yAW)(hf:X.fn x=true\/X.env.scope.names.lookup x=some .local) :
  PS X (.Assign [.Name x pos'] e pos) (znR te (zhz i)):=by
 intro pins s σ H D I h;refine wpAny_Assign_Name (thn (he pins s σ H _ I h) fun v s1 ⟨y,H1,I1,r1,q1⟩=>?_) hs;exact zed I1 hN hi hx r1 (fun s2 I2=>⟨_,H1,I2,q1⟩) hf
noncomputable def zwl(i j:Nat)(ta:TA):TS:=fun D σ H=>ta σ H fun vs H1=>∃v w,vs=[v,w]/\D.nx ((σ.set i (some v)).set j (some w)) H1
def zsg{i j:Nat}{x y:Str}{a b:Expr}{ta:TA}{px py pt:Pos}{kt k2 pt2}(hc:X.calm=true)(hN:X.N.Nodup)(hi:X.N[i]?=some x)(hj:X.N[j]?=some y)(hij:i≠j)
  (hx:X.env.scope.names.lookup x=some .local) (hy:X.env.scope.names.lookup y=some .local) (ha:PA X [a,b] ta)
  (hw:swappedStores [.Tuple [.Name x px,.Name y py] kt pt] (.Tuple [a,b] k2 pt2) X.env=pure (some [x,y]))
  (hs:autoParam (swapsWithSole [.Tuple [.Name x px,.Name y py] kt pt] (.Tuple [a,b] k2 pt2) pos.line X.env=pure false) yAW) :
  PS X (.Assign [.Tuple [.Name x px,.Name y py] kt pt] (.Tuple [a,b] k2 pt2) pos) (zwl i j ta):=by
 intro pins s σ H D I h;rw [exec_Assign_arm];refine yaa (yda ?_);rw [hs];refine yaa (yad ?_);rw [if_neg (by decide)];refine yaa (Tuple_ (thn (ha _ pins s σ H _ I h) fun us s1 ⟨vs,H1,I1,r1,q1⟩=>?_));obtain ⟨v,w,e1,q1⟩:=q1;subst e1
 obtain ⟨u1,u2,rfl,rv,rw'⟩:∃u1 u2,us=[u1,u2]/\zaL v u1/\zaL w u2:=by
  cases r1 with
  | cons p q =>
   cases q with
   | cons p' q' =>
    cases q';exact ⟨_,_,rfl,p,p'⟩
 refine yaZ ?_ (by show 2<=sizeLine;decide);have I2:Inv X pins σ H1 { s1 with heap:=s1.heap.push { cls:=.type "tuple",data:=.seq [u1,u2].toArray } }:=I1.kept (t':=s1.toks) fun b o e=>yaf _ e
 rw [hw];refine yaa (yad ?_);show wpAny (model X.prog X.w) X.A (do rule "assign.swapped-stores";let items ← unpackItems (.ref s1.heap.objs.size) 2 none;assignInOrder [fun v=>bindName X.env y v,fun v=>bindName X.env x v] items.reverse;pure Flow.next) _ _ _;refine yaa (yc3 (yaa (unpackItems_tuple (items:=#[u1,u2]) (I.ok.hd hc) (IsTup.new s1.heap _) fun h' hx'=>?_)));have I3:=I2.kept (h':=h') (t':=s1.toks) fun b o e=>hx' b o (yas (yak e)) e
 show wpAny _ _ (assignInOrder [fun v=>bindName X.env y v,fun v=>bindName X.env x v] [u2,u1] >>= fun _=>pure Flow.next) _ _ _;refine yaa (ycY (wpAny_bindName (zed I3 hN hj (.inl hy) rw' (fun s2 I4=>?_) (.inr hy))));refine ycY (wpAny_bindName (zed I4 hN hi (.inl hx) rv (fun s3 I5=>assignInOrder_nil (yad ?_)) (.inr hx)));rw [List.set_comm _ _ (Ne.symm hij)] at I5;exact ⟨_,H1,I5,q1⟩
end
structure It where
 go:Nat->Hp->Prop
 yld:Nat->Hp->V->Hp->Prop
 stop:Nat->Hp->Prop
noncomputable def zl7(X:Cx)(pins:Z3)(H:Hp)(b:Addr):Prop :=
 H b=none/\b≠X.env.locals/\b ∉ X.fs/\(b∈X.ex\/X.s₀.heap.objs.size<=b)/\(∀x c,X.env.cells.lookup x=some c->c≠b)/\∀p∈X.pn++pins,p.1≠b
def Inv.fpOk(I:Inv X pins σ H s)(hb:s.heap.objs.size<=b)(hn:H' b=none):zl7 X pins H' b:=by
 refine ⟨hn,yaT (yag I.lt hb),I.nofs hb,.inr (yam I.sz hb),fun x c e z=>?_,fun p hp z=>?_⟩
 ·obtain ⟨v,q⟩:=I.cell x c e;exact absurd (yag q.lt (by rw [z];exact hb)) (yaR _)
 ·exact absurd (yag (yak (I.pin p hp).1) (by rw [z];exact hb)) (yaR _)
structure Turn(P:Program)(w:World)(K:PySem.W.Frag)(tg:Expr)(J:It)(fp:List Addr)(it:Addr)(tn:Nat->Heap->Prop):Prop where
 mem:it∈fp
 obj:∀i h,tn i h->∀b∈fp,∃o,h.get? b=some o/\∀v,o.data≠.cell v
 keep:∀i h h',tn i h->(∀b∈fp,∀o,h.get? b=some o->h'.get? b=some o)->tn i h'
 item:∀(X:Cx),X.prog=P->X.w=w->X.K=K->X.calm=true->∀(i:Nat) (pins:Z3) (s:Shared) (σ:St) (H:Hp) (E:Z5),Inv X pins σ H s->(∀b∈fp,zl7 X pins H b)->tn i s.heap->J.go i H →
  wpAny (model P w) X.A (pyNext (.ref it)) (fun r s1=>∃u,r=some u ∧
   wpAny (model P w) X.A (letOwnedTupleGo tg (.ref it) u) (fun _ s2=>∃x H',Inv X pins σ H' s2/\zaL x u/\J.yld i H x H'/\tn (i+1) s2.heap/\∀b∈fp,H' b=none) E s1) E s
 done:∀(X:Cx),X.prog=P->X.w=w->X.K=K->X.calm=true->∀(i:Nat) (pins:Z3) (s:Shared) (σ:St) (H:Hp) (E:Z5),Inv X pins σ H s->(∀b∈fp,zl7 X pins H b)->tn i s.heap->J.stop i H →
  wpAny (model P w) X.A (pyNext (.ref it)) (fun r s1=>r=none/\Inv X pins σ H s1) E s
 self:∀(A:Around) (i:Nat) (s:Shared) (Q:Z5) (E:Z5),tn i s.heap->Q (.ref it) s->wpAny (model P w) A (pyIter (.ref it)) Q E s
noncomputable abbrev TI:=St->Hp->(It->Hp->Prop)->Prop
noncomputable def PIE(X:Cx)(pins:Z3)(σ:St)(tg:Expr)(R:It->Hp->Prop)(itv:Value)(s2:Shared):Prop :=
 ∃(it:Addr) (fp:List Addr) (tn:Nat->Heap->Prop) (J:It) (H':Hp),itv=.ref it/\Inv X pins σ H' s2/\Turn X.prog X.w X.K tg J fp it tn/\tn 0 s2.heap/\(∀b∈fp,zl7 X pins H' b)/\R J H'
noncomputable def PI(X:Cx)(tg iter:Expr)(wi:TI):Prop :=
 ∀(pins:Z3) (s:Shared) (σ:St) (H:Hp) (R:It->Hp->Prop),Inv X pins σ H s->wi σ H R →
  wpAny (model X.prog X.w) X.A (eval iter X.env) (fun v s1=>wpAny (model X.prog X.w) X.A (pyIter v) (PIE X pins σ tg R) X.xe s1) X.xe s
def zlx (ho : s.heap.get? it = some o) (hc : o.cls = .type n) (hd : o.data = .fields vs)
    (hn : ["enumerate", "zip", "dict_itemiterator", "dict_reverseitemiterator", "odict_iterator", "itertools.zip_longest", "itertools.pairwise"].contains n = false) (hQ : Q () s) : wpAny M A (letOwnedTupleGo tg (.ref it) u) Q E s := by
  unfold letOwnedTupleGo
  cases tg <;> first
    | exact yad hQ
    | (cases u <;> first
        | exact yad hQ
        | (refine yaa (wpAny_load ho ?_)
           rw [hc, hd];show wpAny M A (if (["enumerate", "zip", "dict_itemiterator", "dict_reverseitemiterator", "odict_iterator", "itertools.zip_longest", "itertools.pairwise"].contains n && vs[0]? == some (rawInt _)) = true then _ else _) Q E s;rw [if_neg (by intro h; rw [hn, Bool.false_and] at h; cases h)]
           exact yad hQ))
noncomputable def Itl(K:PySem.W.Frag)(a:Addr):It :=
 ⟨fun i H=>∃xs x,SqL K H a xs/\xs[i]?=some x,fun i H x H'=>H'=H/\∀xs,SqL K H a xs->xs[i]?=some x,fun i H=>∃xs,SqL K H a xs/\xs.length<=i⟩
noncomputable def Itt(K:PySem.W.Frag)(a:Addr):It :=
 ⟨fun i H=>∃xs x,SqT K H a xs/\xs[i]?=some x,fun i H x H'=>H'=H/\∀xs,SqT K H a xs->xs[i]?=some x,fun i H=>∃xs,SqT K H a xs/\xs.length<=i⟩
noncomputable def Itr(lo:Int)(n:Nat):It:=⟨fun i _=>i<n,fun i H x H'=>H'=H/\x=.int (lo+i),fun i _=>n<=i⟩
theorem zjX{P:Program}{K:PySem.W.Frag}(a it:Addr):Turn P w K tg (Itl K a) [it] it (fun i h=>h.IsListIter it a i) where
 mem:=by simp
 obj:=fun i h st b hb=>by
  have e:b=it:=by simpa using hb
  subst e;obtain ⟨o,e,c,d⟩:=st;exact ⟨o,e,fun v z=>by rw [d] at z;cases z⟩
 keep:=fun i h h' st k=>st.at fun o e=>k it (by simp) o e
 item:=by
  intro X hP hw hK hc i pins s σ H E I hf st hg;subst hP hw hK;obtain ⟨xs,x,hq,hx⟩:=hg;obtain ⟨its,rv,p,hz⟩:=I.list hq;obtain ⟨u,hu,ru⟩:=rv.get hx;obtain ⟨f0,f1,f2,f3,f4,f5⟩:=hf it (by simp);refine wpAny_pyNext_list_item st p.isList (x:=u) (by simpa using hu) fun h' st' sb=>?_
  have I1:Inv X pins σ H { s with heap:=h' }:=I.turned (t':=s.toks) (fun b o hb e=>(sb.2 b hb).trans e) f0 f1 f3 f4 f5;obtain ⟨o,e,c,d⟩:=id st';exact ⟨u,rfl,zlx (s:={ s with heap:=h' }) e c d (by decide) ⟨x,H,I1,ru,⟨rfl,fun ys hy=>by rw [I.list_inj hy hq];exact hx⟩,st',fun b hb=>(hf b hb).1⟩⟩
 done:=by
  intro X hP hw hK hc i pins s σ H E I hf st hg;subst hP hw hK;obtain ⟨xs,hq,hx⟩:=hg;obtain ⟨its,rv,p,hz⟩:=I.list hq;obtain ⟨f0,f1,f2,f3,f4,f5⟩:=hf it (by simp);have hl:=rv.length;exact wpAny_pyNext_list_end (I.ok.hd hc) st p.isList (by simp;omega) fun h' eb=>⟨rfl,I.turned (t':=s.toks) (fun b o hb e=>eb b o hb e) f0 f1 f3 f4 f5⟩
 self:=fun _ _ _ _ _ st h=>wpAny_pyIter_listiter st h
def zi1{P:Program}{K:PySem.W.Frag}(a it:Addr):Turn P w K tg (Itt K a) [it] it (fun i h=>h.IsTupleIter it a i) where
 mem:=by simp
 obj:=fun i h st b hb=>by
  have e:b=it:=by simpa using hb
  subst e;obtain ⟨o,e,c,d⟩:=st;exact ⟨o,e,fun v z=>by rw [d] at z;cases z⟩
 keep:=fun i h h' st k=>st.at fun o e=>k it (by simp) o e
 item:=by
  intro X hP hw hK hc i pins s σ H E I hf st hg;subst hP hw hK;obtain ⟨xs,x,hq,hx⟩:=hg;obtain ⟨its,rv,p,hz⟩:=I.tuple hq;obtain ⟨u,hu,ru⟩:=rv.get hx;obtain ⟨f0,f1,f2,f3,f4,f5⟩:=hf it (by simp);refine wpAny_pyNext_tuple_item st (show s.heap.IsTuple a its.toArray from p) (x:=u) (by simpa using hu) fun h' st' sb=>?_
  have I1:Inv X pins σ H { s with heap:=h' }:=I.turned (t':=s.toks) (fun b o hb e=>(sb.2 b hb).trans e) f0 f1 f3 f4 f5;obtain ⟨o,e,c,d⟩:=id st';exact ⟨u,rfl,zlx (s:={ s with heap:=h' }) e c d (by decide) ⟨x,H,I1,ru,⟨rfl,fun ys hy=>by rw [I.tuple_inj hy hq];exact hx⟩,st',fun b hb=>(hf b hb).1⟩⟩
 done:=by
  intro X hP hw hK hc i pins s σ H E I hf st hg;subst hP hw hK;obtain ⟨xs,hq,hx⟩:=hg;obtain ⟨its,rv,p,hz⟩:=I.tuple hq;obtain ⟨f0,f1,f2,f3,f4,f5⟩:=hf it (by simp);have hl:=rv.length;exact wpAny_pyNext_tuple_end (I.ok.hd hc) st (show s.heap.IsTuple a its.toArray from p) (by simp;omega) fun h' eb=>⟨rfl,I.turned (t':=s.toks) (fun b o hb e=>eb b o hb e) f0 f1 f3 f4 f5⟩
 self:=fun _ _ _ _ _ st h=>wpAny_pyIter_tupleiter st h
theorem zi2{P:Program}{K:PySem.W.Frag}(it:Addr)(lo:Int)(n:Nat):Turn P w K tg (Itr lo n) [it] it (fun i h=>IsRangeIter h it (lo+(i:Nat)*1) ((n:Int)-(i:Nat)) 1) where
 mem:=by simp
 obj:=fun i h st b hb=>by
  have e:b=it:=by simpa using hb
  subst e
  exact ⟨_,st,fun v z=>by
   have z':Data.fields _=Data.cell v:=z
   cases z'⟩
 keep:=fun i h h' st k=>k it (by simp) _ st
 item:=by
  intro X hP hw hK hc i pins s σ H E I hf st hg;subst hP hw hK;obtain ⟨f0,f1,f2,f3,f4,f5⟩:=hf it (by simp);have W:=Walks.range (prog:=X.prog) (w:=X.w) (I.ok.hd hc) it lo 1 n;refine W.item i s _ _ hg st fun v h' tk hv st' kk=>?_
  obtain ⟨t,rfl⟩:=hv;have I1:Inv X pins σ H { s with heap:=h',toks:=tk }:=I.turned (fun b o hb e=>kk b o (by simpa using hb) e) f0 f1 f3 f4 f5;refine ⟨_,rfl,zlx (s:={ s with heap:=h',toks:=tk }) (n:="range_iterator") st' rfl rfl (by decide) ⟨.int (lo+i),H,I1,⟨t,?_⟩,⟨rfl,rfl⟩,st',fun b hb=>(hf b hb).1⟩⟩;rw [Int.mul_one]
 done:=by
  intro X hP hw hK hc i pins s σ H E I hf st hg;subst hP hw hK;obtain ⟨f0,f1,f2,f3,f4,f5⟩:=hf it (by simp);exact wpAny_pyNext_range_end (I.ok.hd hc) st (by have:n<=i:=hg;omega) fun h' eb=>⟨rfl,I.turned (t':=s.toks) (fun b o hb e=>eb b o hb e) f0 f1 f3 f4 f5⟩
 self:=fun _ _ _ _ _ st h=>wpAny_pyIter_rangeiter st h
section
variable{X:Cx}{tg:Expr}
noncomputable def zvs(K:PySem.W.Frag)(tl:TE):TI:=fun σ H R=>tl σ H fun x H1=>∃a,x=.ref a/\(∃xs,SqL K H1 a xs)/\R (Itl K a) H1
noncomputable def zyq(K:PySem.W.Frag)(tl:TE):TI:=fun σ H R=>tl σ H fun x H1=>∃a,x=.ref a/\(∃xs,SqT K H1 a xs)/\R (Itt K a) H1
def zpL(hl:PE X l tl):PI X tg l (zvs X.K tl):=by
 intro pins s σ H R I h;refine thn (hl pins s σ H _ I h) fun v s1 ⟨x,H1,I1,r1,q1⟩=>?_
 obtain ⟨a,e,⟨xs,hq⟩,q⟩:=q1;subst e;cases r1;obtain ⟨its,rv,p,hz⟩:=I1.list hq;refine ycw p.isList ?_;refine ⟨s1.heap.objs.size,[s1.heap.objs.size],_,_,H1,rfl,I1.kept (t':=s1.toks) fun b o e=>yaf _ e,zjX a _,⟨_,yal _ rfl,rfl,rfl⟩,fun b hb=>?_,q⟩
 have e:b=s1.heap.objs.size:=by simpa using hb
 subst e;exact I1.fpOk (yah _) (I1.hok.fresh (yah _))
def zsk(hl:PE X l tl):PI X tg l (zyq X.K tl):=by
 intro pins s σ H R I h;refine thn (hl pins s σ H _ I h) fun v s1 ⟨x,H1,I1,r1,q1⟩=>?_
 obtain ⟨a,e,⟨xs,hq⟩,q⟩:=q1;subst e;cases r1;obtain ⟨its,rv,p,hz⟩:=I1.tuple hq;refine ycg (show s1.heap.IsTuple a its.toArray from p) ?_;refine ⟨s1.heap.objs.size,[s1.heap.objs.size],_,_,H1,rfl,I1.kept (t':=s1.toks) fun b o e=>yaf _ e,zi1 a _,⟨_,yal _ rfl,rfl,rfl⟩,fun b hb=>?_,q⟩
 have e:b=s1.heap.objs.size:=by simpa using hb
 subst e;exact I1.fpOk (yah _) (I1.hok.fresh (yah _))
theorem zid{pins:Z3}{σ:St}{H:Hp}{s:Shared}{R:It->Hp->Prop}{E:Z5}{lo hi:Int}{t u v:Tok}{tk:Nat}(I:Inv X pins σ H s)(h1:-(2 ^ 62)<=lo)(h2:lo<2 ^ 62)(h3:-(2 ^ 62)<=hi)(h4:hi<2 ^ 62)
  (q:R (Itr lo (hi-lo).toNat) H):wpAny (model X.prog X.w) X.A (pyIter (.ref s.heap.objs.size)) (PIE X pins σ tg R) E { s with heap:=s.heap.push { cls:=.type "range",data:=.fields #[.int lo t,.int hi u,.int 1 v] },toks:=tk }:=by
 refine wpAny_pyIter_range (IsRange.new ..) (small_one h1 h2 h3 h4) ?_;have I1:Inv X pins σ H { s with heap:=s.heap.push { cls:=.type "range",data:=.fields #[.int lo t,.int hi u,.int 1 v] },toks:=tk }:=I.kept fun b o e=>yaf _ e
 refine ⟨(s.heap.push { cls:=.type "range",data:=.fields #[.int lo t,.int hi u,.int 1 v] }).objs.size,[(s.heap.push { cls:=.type "range",data:=.fields #[.int lo t,.int hi u,.int 1 v] }).objs.size],_,_,H,rfl,
  I1.kept (t':=tk) fun b o e=>yaf _ e,zi2 _ lo (hi-lo).toNat,?_,fun b hb=>?_,q⟩
 ·have e1:lo+((0:Nat):Int)*1=lo:=by simp
  have e2:(((hi-lo).toNat:Nat):Int)-((0:Nat):Int)=Builtin.Range.rangeSize lo hi 1:=by rw [rangeSize_one];split<;>omega
  show IsRangeIter _ _ (lo+((0:Nat):Int)*1) ((((hi-lo).toNat:Nat):Int)-((0:Nat):Int)) 1;rw [e1,e2];exact yal _ rfl
 ·have e:b=(s.heap.push { cls:=.type "range",data:=.fields #[.int lo t,.int hi u,.int 1 v] }).objs.size:=by simpa using hb
  subst e;exact I1.fpOk (yah _) (I1.hok.fresh (yah _))
noncomputable def zvr(ta:TA):TI:=fun σ H R=>ta σ H fun vs H1=>∃j:Int,vs=[.int j]/\-(2 ^ 62)<=j/\j<2 ^ 62/\R (Itr 0 j.toNat) H1
noncomputable def zvq(ta:TA):TI:=fun σ H R=>ta σ H fun vs H1=>∃i j:Int,vs=[.int i,.int j]/\(-(2 ^ 62)<=i/\i<2 ^ 62/\-(2 ^ 62)<=j/\j<2 ^ 62)/\R (Itr i (j-i).toNat) H1
theorem zkU{a:Expr}{ta:TA}{p pos:Pos}(hg:Gl X "range")(hm:X.mg "range" = none)(ha:PA X [a] ta)(hs:autoParam (starEach [a] X.env=[(false,eval a X.env)]) yAW):PI X tg (.Call (.Name "range" p) [a] [] pos) (zvr ta):=by
 intro pins s σ H R I h;refine Call_ (zfb I hg hm boot_range (ybD (thn (ha pos pins s σ H _ I h) fun us s1 ⟨vs,H1,I1,r1,q1⟩=>?_) hs rfl));obtain ⟨j,e,q1,q2,q⟩:=q1;subst e
 cases r1 with
 | cons r rr =>
  cases rr;obtain ⟨t,rfl⟩:=r;exact call_range_1 (zid I1 (by omega) (by omega) q1 q2 (by simpa using q))
def zkT{a b:Expr}{ta:TA}{p pos:Pos}(hg:Gl X "range")(hm:X.mg "range" = none)(ha:PA X [a,b] ta)(hs:autoParam (starEach [a,b] X.env=[(false,eval a X.env),(false,eval b X.env)]) yAW)(hs2:autoParam (starEach [b] X.env=[(false,eval b X.env)]) yAW) :
  PI X tg (.Call (.Name "range" p) [a,b] [] pos) (zvq ta):=by
 intro pins s σ H R I h;refine Call_ (zfb I hg hm boot_range (ybD (thn (ha pos pins s σ H _ I h) fun us s1 ⟨vs,H1,I1,r1,q1⟩=>?_) (by rw [hs,hs2]) (by rw [hs2];rfl)));obtain ⟨i,j,e,⟨q1,q2,q3,q4⟩,q⟩:=q1;subst e
 cases r1 with
 | cons r rr =>
  cases rr with
  | cons r' rr =>
   cases rr;obtain ⟨t,rfl⟩:=r;obtain ⟨t',rfl⟩:=r';exact call_range_2 (zid I1 q1 q2 q3 q4 q)
noncomputable def zxK(wi:TI)(g:TG)(tb:TS):TS:=fun D σ H=>wi σ H fun J H1=>∃W:Nat->Nat->St->Hp->Prop,(∃m,W 0 m σ H1)/\∀i m σ H,W i m σ H →
 (J.stop i H/\D.nx σ H)\/(J.go i H/\∃N:St->Hp->Prop,(∀σ' H',N σ' H'->∃m',m'<m/\W (i+1) m' σ' H')/\∀x H',J.yld i H x H'->g x σ H' fun σ2 H2=>tb { D with nx:=N,ct:=N,bk:=D.nx } σ2 H2)
noncomputable def zgv(fp:List Addr)(h:Heap):List (Addr×Obj):=fp.filterMap fun b=>(h.get? b).map fun o=>(b,o)
def zcW(hb:b∈fp)(e:h.get? b=some o):(b,o)∈zgv fp h:=ybt.mpr ⟨b,hb,by rw [e];rfl⟩
def zk3(hp:p∈zgv fp h):p.1∈fp/\h.get? p.1=some p.2:=by
 obtain ⟨b,hb,e⟩:=ybt.mp hp
 cases q:h.get? b with
 | none=>rw [q] at e;cases e
 | some o =>
  rw [q] at e;have e':(b,o)=p:=Option.some.inj e;subst e';exact ⟨hb,q⟩
def Inv.pinned(I:Inv X pins σ H s)(hf:∀b∈fp,zl7 X pins H b)(ho:∀b∈fp,∃o,s.heap.get? b=some o/\∀v,o.data≠.cell v):Inv X (pins++zgv fp s.heap) σ H s :=
 I.pins_of fun p hp=>(ya1.mp hp).elim (fun z=>I.pin p (yaF _ z)) fun z=>by
  obtain ⟨hb,e⟩:=zk3 z;obtain ⟨f0,f1,f2,_⟩:=hf p.1 hb;obtain ⟨o,e',d⟩:=ho p.1 hb;rw [e] at e';cases e';exact ⟨e,f0,f1,f2,d⟩
def Inv.unpinned(I:Inv X (pins++pl) σ H s):Inv X pins σ H s:=I.pins_of fun p hp=>I.pin p (yaF _ (ycK _ hp))
def zsi{iter:Expr}{body:List Stmt}{wi:TI}{g:TG}{tb:TS}{pos:Pos}(hp:PassesOwn (model X.prog X.w) X.A X.env X.xe)(hc:X.calm=true)(hi:PI X tg iter wi)(hg:PG X tg g)(hb:PSs X body tb)
  (hs:autoParam (∀x,foldedSetIterable iter X.env x=pure x) yAU):PS X (.For tg iter body [] pos) (zxK wi g tb):=by
 intro pins s σ H D I h;refine wpAny_For (thn (hi pins s σ H _ I h) fun v s1 h1=>thn h1 fun itv s2 h2=>?_) hs;obtain ⟨it,fp,tn,J,H2,e,I2,T,st2,f2,W,⟨m0,w0⟩,turn⟩:=h2;subst e;have stat:∀{H':Hp},(∀b∈fp,H' b=none)->∀b∈fp,zl7 X pins H' b:=fun hn b hb=>⟨hn b hb,(f2 b hb).2⟩
 refine codeAny_forLoop_any (fun n s'=>∃i σ' H',Inv X pins σ' H' s'/\tn i s'.heap/\(∀b∈fp,H' b=none)/\W i n σ' H') ?_ m0 ⟨0,σ,H2,I2,st2,fun b hb=>(f2 b hb).1,w0⟩;rintro n s3 ⟨i,σ3,H3,I3,st3,fr3,w3⟩
 rcases turn i n σ3 H3 w3 with ⟨stop,qn⟩ | ⟨go,N,hN,step⟩
 ·refine ych hp (thn (T.done X rfl rfl rfl hc i pins s3 σ3 H3 X.xe I3 (stat fr3) st3 stop) fun r s4 ⟨hr,I4⟩=>?_);subst hr;exact wpAny_execs_nil ⟨σ3,H3,I4,qn⟩
 ·refine ych hp (thn (T.item X rfl rfl rfl hc i pins s3 σ3 H3 X.xe I3 (stat fr3) st3 go) fun r s4 ⟨u,hr,h4⟩=>?_);subst hr;refine ych hp (thn h4 fun _ s5 ⟨x,H5,I5,r5,y5,st5,fr5⟩=>?_);have I5':=I5.pinned (stat fr5) (T.obj _ _ st5);refine ych hp (thn (hg _ s5 σ3 H5 x u _ I5' r5 (step x H5 y5)) fun _ s6 ⟨σ6,H6,I6,q6⟩=>?_);refine ych hp (thn (hb _ s6 σ6 H6 _ I6 q6) fun f s7 q7=>?_)
  have again:∀{σ7:St} {H7:Hp},Inv X (pins++zgv fp s5.heap) σ7 H7 s7->N σ7 H7->∃m,m<n/\∃i σ' H',Inv X pins σ' H' s7/\tn i s7.heap/\(∀b∈fp,H' b=none)/\W i m σ' H':=fun {σ7 H7} I7 n7=>by
   obtain ⟨m',hm,w7⟩:=hN σ7 H7 n7;refine ⟨m',hm,i+1,σ7,H7,I7.unpinned,T.keep _ _ _ st5 fun b hb o e=>(I7.pin (b,o) (yaF _ (yaF _ (zcW hb e)))).1,fun b hb=>?_,w7⟩;obtain ⟨o,e,d⟩:=T.obj _ _ st5 b hb;exact (I7.pin (b,o) (yaF _ (yaF _ (zcW hb e)))).2.1
  cases f with
  | next=>obtain ⟨σ7,H7,I7,n7⟩:=q7;exact again I7 n7
  | cont=>obtain ⟨σ7,H7,I7,n7⟩:=q7;exact again I7 n7
  | brk=>obtain ⟨σ7,H7,I7,q7⟩:=q7;exact ⟨σ7,H7,I7.unpinned,q7⟩
  | ret v=>obtain ⟨x7,σ7,H7,I7,r7,q7⟩:=q7;exact ⟨x7,σ7,H7,I7.unpinned,r7,q7⟩
end
noncomputable abbrev R2:=V->V->Hp->VK->Prop
noncomputable def OpR(X:Cx)(f:Value->Value->Sem Value)(r:R2):Prop :=
 ∀(pins:Z3) (s:Shared) (σ:St) (H:Hp) (x y:V) (v u:Value) (Q:VK),Inv X pins σ H s->zaL x v->zaL y u->r x y H Q →
  wpAny (model X.prog X.w) X.A (f v u) (EP X pins σ Q) X.xe s
noncomputable def zcv(X:Cx)(f:Value)(r:List V->Hp->VK->Prop):Prop :=
 ∀(pins:Z3) (s:Shared) (σ:St) (H:Hp) (xs:List V) (us:List Value) (Q:VK),Inv X pins σ H s->Vals xs us->r xs H Q →
  wpAny (model X.prog X.w) X.A (call f us) (EP X pins σ Q) X.xe s
noncomputable def tOp(r:R2)(ta tb:TE):TE:=fun σ H Q=>ta σ H fun x H1=>tb σ H1 fun y H2=>r x y H2 Q
noncomputable def rI(C:Int->Int->Prop)(g:Int->Int->V):R2:=fun x y H Q=>∃i j,x=.int i/\y=.int j/\C i j/\Q (g i j) H
noncomputable def rI0(g:Int->Int->V):R2:=fun x y H Q=>∃i j,x=.int i/\y=.int j/\Q (g i j) H
section
variable{X:Cx}{a b c:Expr}{ta tb tc:TE}{pos:Pos}
def zvE(ha:PE X a ta)(hb:PE X b tb){pins:Z3}{s:Shared}{σ:St}{H:Hp}{R:V->V->Hp->Prop}(I:Inv X pins σ H s)
  (h:ta σ H fun x H1=>tb σ H1 fun y H2=>R x y H2) {Q:Z5} {f:Value->Value->Sem Value}
  (hf:∀v u s2 x y H2,Inv X pins σ H2 s2->zaL x v->zaL y u->R x y H2->wpAny (model X.prog X.w) X.A (f v u) Q X.xe s2) :
  wpAny (model X.prog X.w) X.A (eval a X.env) (fun v s₁=>wpAny (model X.prog X.w) X.A (eval b X.env) (fun u s₂=>wpAny (model X.prog X.w) X.A (f v u) Q X.xe s₂) X.xe s₁) X.xe s:=by
 refine thn (ha pins s σ H _ I h) fun v s1 ⟨x,H1,I1,r1,q1⟩=>?_
 refine thn (hb pins s1 σ H1 _ I1 q1) fun u s2 ⟨y,H2,I2,r2,q2⟩=>?_
 exact hf v u s2 x y H2 I2 r1 r2 q2
def zso(ho:OpR X (binaryOp op) r)(ha:PE X a ta)(hb:PE X b tb):PE X (.BinOp a op b pos) (tOp r ta tb):=by
 intro pins s σ H Q I h;exact wpAny_BinOp (zvE ha hb I h fun v u s2 x y H2 I2 rx ry q=>ho pins s2 σ H2 x y v u Q I2 rx ry q)
def opI{f:Value->Value->Sem Value}{C:Int->Int->Prop}{g:Int->Int->Int}
  (rule:∀(i j:Int) (t u:Tok) (s:Shared) (Q:Z5) (E:Z5),C i j->Q (.int (g i j) s.toks) { s with toks:=s.toks+1 }->wpAny (model X.prog X.w) X.A (f (.int i t) (.int j u)) Q E s) :
  OpR X f (rI C fun i j=>.int (g i j)):=by
 intro pins s σ H x y v u Q I rx ry h;obtain ⟨i,j,rfl,rfl,hc,q⟩:=h;obtain ⟨t,rfl⟩:=rx;obtain ⟨t',rfl⟩:=ry;exact rule i j t t' s _ _ hc ⟨.int (g i j),H,I.tok _,⟨_,rfl⟩,q⟩
def zws{f:Value->Value->Sem Value}{g:Int->Int->Int}
  (rule:∀(i j:Int) (t u:Tok) (s:Shared) (Q:Z5) (E:Z5),Q (.int (g i j) s.toks) { s with toks:=s.toks+1 }->wpAny (model X.prog X.w) X.A (f (.int i t) (.int j u)) Q E s) :
  OpR X f (rI0 fun i j=>.int (g i j)):=by
 intro pins s σ H x y v u Q I rx ry h;obtain ⟨i,j,rfl,rfl,q⟩:=h;obtain ⟨t,rfl⟩:=rx;obtain ⟨t',rfl⟩:=ry;exact rule i j t t' s _ _ ⟨.int (g i j),H,I.tok _,⟨_,rfl⟩,q⟩
def ztX{f:Value->Value->Sem Value}{g:Int->Int->Bool}
  (rule:∀(i j:Int) (t u:Tok) (s:Shared) (Q:Z5) (E:Z5),Q (.bool (g i j)) s->wpAny (model X.prog X.w) X.A (f (.int i t) (.int j u)) Q E s) :
  OpR X f (rI0 fun i j=>.bl (g i j)):=by
 intro pins s σ H x y v u Q I rx ry h;obtain ⟨i,j,rfl,rfl,q⟩:=h;obtain ⟨t,rfl⟩:=rx;obtain ⟨t',rfl⟩:=ry;exact rule i j t t' s _ _ ⟨.bl (g i j),H,I,rfl,q⟩
noncomputable def zyH(i j:Int):Prop:=0<j/\j<1073741824
noncomputable def zvQ(i j:Int):Prop:=(-(2 ^ 64)<i/\i<2 ^ 64)\/(-(2 ^ 64)<j/\j<2 ^ 64)
def zvQ.ok(h:zvQ i j):IntMulOk i j:=by
 rcases h with ⟨h1,h2⟩ | ⟨h1,h2⟩
 ·exact .of_left (intBits_le_64 h1 h2)
 ·exact .of_right (intBits_le_64 h1 h2)
def zsE:OpR X (binaryOp .Add) (rI0 fun i j=>.int (i+j)):=zws fun _ _ _ _ _ _ _ q=>add_int q
def zsx:OpR X (binaryOp .Sub) (rI0 fun i j=>.int (i-j)):=zws fun _ _ _ _ _ _ _ q=>sub_int q
def zsz:OpR X (binaryOp .Mult) (rI zvQ fun i j=>.int (i*j)):=opI fun _ _ _ _ _ _ _ hc q=>mul_int q hc.ok
theorem zpV:OpR X (binaryOp .FloorDiv) (rI zyH fun i j=>.int (i / j)):=opI fun i j _ _ _ _ _ hc q=>by
 have h1:(0:Int)<j:=hc.1;have h2:j<1073741824:=hc.2;exact floordiv_int (by omega) (by rw [Int.fdiv_eq_ediv_of_nonneg i (by omega)];exact q) (.inl (PyProof.noPylong_small (by omega)))
theorem zsA:OpR X (binaryOp .Mod) (rI (fun _ j=>0<j) fun i j=>.int (i % j)):=opI fun i j _ _ _ _ _ hc q=>by
 have h1:(0:Int)<j:=hc;exact mod_int' (by omega) (by rw [Int.fmod_eq_emod_of_nonneg i (by omega)];exact q)
end
section
variable{X:Cx}{a b c:Expr}{ta tb tc:TE}{pos:Pos}
def zoq(I:Inv X pins σ H s)(q:Q (.bl k) H)(e:k=k'):EP X pins σ Q (.bool k') s:=by
 subst e;exact ⟨.bl k,H,I,rfl,q⟩
def zu0:OpR X (compareOp .Lt) (rI0 fun i j=>.bl (decide (i<j))):=ztX fun _ _ _ _ _ _ _ q=>lt_int q
def zu1:OpR X (compareOp .LtE) (rI0 fun i j=>.bl (decide (i<=j))):=ztX fun _ _ _ _ _ _ _ q=>le_int q
def zu2:OpR X (compareOp .Gt) (rI0 fun i j=>.bl (decide (j<i))):=ztX fun _ _ _ _ _ _ _ q=>gt_int q
def zu3:OpR X (compareOp .GtE) (rI0 fun i j=>.bl (decide (j<=i))):=ztX fun _ _ _ _ _ _ _ q=>ge_int q
def zsC:OpR X (compareOp .Is) (fun x y H Q=>y=.non/\Q (.bl (decide (x=.non))) H):=by
 intro pins s σ H x y v u Q I rx ry h;obtain ⟨rfl,q⟩:=h;cases ry;refine is_none_gen (zoq I q ?_)
 cases x<;>first
  | (cases rx;rfl)
  | (obtain ⟨t,rfl⟩:=rx;rfl)
def zpU:OpR X (compareOp .IsNot) (fun x y H Q=>y=.non/\Q (.bl (!decide (x=.non))) H):=by
 intro pins s σ H x y v u Q I rx ry h;obtain ⟨rfl,q⟩:=h;cases ry;refine isnot_none_gen (zoq I q ?_)
 cases x<;>first
  | (cases rx;rfl)
  | (obtain ⟨t,rfl⟩:=rx;rfl)
def zkY(ho:OpR X (compareOp op) r)(ha:PE X a ta)(hb:PE X b tb)(hm:behindInMarks op b=false):PE X (.Compare a [op] [b] pos) (tOp r ta tb):=by
 intro pins s σ H Q I h;exact wpAny_Compare1 (zvE ha hb I h fun v u s2 x y H2 I2 rx ry q=>ho pins s2 σ H2 x y v u Q I2 rx ry q) hm
noncomputable def zoO(t:TE):TT:=fun σ H Q=>t σ H fun x H'=>∃k,x=.bl k/\Q k H'
def zpA(ho:OpR X (compareOp op) r)(ha:PE X a ta)(hb:PE X b tb)(hm:behindInMarks op b=false):PT X (.Compare a [op] [b] pos) (zoO (tOp r ta tb)):=by
 intro pins s σ H Q I h
 refine wpAny_isTrue_Compare1 (thn (ha pins s σ H _ I h) fun v s1 ⟨x,H1,I1,r1,q1⟩=>thn (hb pins s1 σ H1 _ I1 q1) fun u s2 ⟨y,H2,I2,r2,q2⟩ =>
  thn (ho pins s2 σ H2 x y v u _ I2 r1 r2 q2) fun c s3 ⟨z,H3,I3,r3,k,e,q3⟩=>?_) hm
 subst e;cases r3;exact ya6 ⟨H3,I3,q3⟩
noncomputable def zke(r r':R2)(ta tb tc:TE):TE:=fun σ H Q=>ta σ H fun x H1=>tb σ H1 fun y H2=>r x y H2 fun z H3=>∃k,z=.bl k ∧
 (if k=true then tc σ H3 fun w' H4=>r' y w' H4 Q else Q (.bl false) H3)
def zmN{op op':CmpOp}{r r':R2}(ho:OpR X (compareOp op) r)(ho':OpR X (compareOp op') r')(ha:PE X a ta)(hb:PE X b tb)(hc:PE X c tc)
  (hm:autoParam (lastMarks [op,op'] [b,c]=false) yAO):PE X (.Compare a [op,op'] [b,c] pos) (zke r r' ta tb tc):=by
 intro pins s σ H Q I h
 refine Compare_chain (thn (ha pins s σ H _ I h) fun v s1 ⟨x,H1,I1,r1,q1⟩=>chain_link (thn (hb pins s1 σ H1 _ I1 q1) fun u s2 ⟨y,H2,I2,r2,q2⟩ =>
  thn (ho pins s2 σ H2 x y v u _ I2 r1 r2 q2) fun d s3 ⟨z,H3,I3,r3,k,e,q3⟩=>?_)) hm
 subst e;cases r3;refine ya6 ?_
 cases k with
 | false=>exact ite_ff ⟨.bl false,H3,I3,rfl,q3⟩
 | true=>exact ite_tt (chain_last (thn (hc pins s3 σ H3 _ I3 q3) fun w' s4 ⟨z',H4,I4,r4,q4⟩=>ho' pins s4 σ H4 y z' u w' Q I4 r2 r4 q4))
def zmB{op op':CmpOp}{r r':R2}(ho:OpR X (compareOp op) r)(ho':OpR X (compareOp op') r')(ha:PE X a ta)(hb:PE X b tb)(hc:PE X c tc)
  (hm:autoParam (lastMarks [op,op'] [b,c]=false) yAO):PT X (.Compare a [op,op'] [b,c] pos) (zoO (zke r r' ta tb tc)):=by
 intro pins s σ H Q I h
 refine isTrue_chain (thn (ha pins s σ H _ I h) fun v s1 ⟨x,H1,I1,r1,q1⟩=>test_link (thn (hb pins s1 σ H1 _ I1 q1) fun u s2 ⟨y,H2,I2,r2,q2⟩ =>
  thn (ho pins s2 σ H2 x y v u _ I2 r1 r2 q2) fun d s3 ⟨z,H3,I3,r3,k,e,q3⟩=>?_)) hm
 subst e;cases r3;refine ya6 ?_
 cases k with
 | false =>
  obtain ⟨k',e',q'⟩:=q3;cases e';exact ite_ff ⟨H3,I3,q'⟩
 | true =>
  refine ite_tt (test_last (thn (hc pins s3 σ H3 _ I3 q3) fun w' s4 ⟨z',H4,I4,r4,q4⟩=>thn (ho' pins s4 σ H4 y z' u w' _ I4 r2 r4 q4) fun d' s5 ⟨z2,H5,I5,r5,k2,e2,q5⟩=>?_));subst e2;cases r5;exact ya6 ⟨H5,I5,q5⟩
def ziA:(sizeLine:Nat)<2 ^ 63:=by rw [ydb];decide
def zjn:OpR X (binaryOp .Add) (fun x y H Q=>∃i j,x=.str i/\y=.str j/\i.length+j.length<=sizeLine/\Q (.str (i++j)) H):=by
 intro pins s σ H x y v u Q I rx ry h;obtain ⟨i,j,rfl,rfl,hz,q⟩:=h;obtain ⟨t,rfl⟩:=rx;obtain ⟨t',rfl⟩:=ry;exact add_str (fun t' tk=>⟨.str (i++j),H,I.tok _,⟨_,rfl⟩,q⟩) hz
def zej(r:Vals [x] us):∃u,us=[u]/\zaL x u:=by
 cases r with
 | cons r1 r2=>cases r2;exact ⟨_,rfl,r1⟩
def zuc(r:Vals [x,y] us):∃u w',us=[u,w']/\zaL x u/\zaL y w':=by
 cases r with
 | cons r1 r2 =>
  cases r2 with
  | cons r3 r4=>cases r4;exact ⟨_,_,rfl,r1,r3⟩
def zlT(hc:X.calm=true):zcv X (.builtin "max") (fun xs H Q=>∃i j,xs=[.int i,.int j]/\Q (.int (if j > i then j else i)) H):=by
 intro pins s σ H xs us Q I r h;obtain ⟨i,j,rfl,q⟩:=h;obtain ⟨u,w',rfl,⟨t,rfl⟩,⟨t',rfl⟩⟩:=zuc r;refine max_two_ints (I.ok.hd hc) fun h' tk k=>⟨_,H,I.kept k,?_,q⟩
 by_cases hj:j > i
 ·rw [if_pos hj,if_pos hj];exact ⟨_,rfl⟩
 ·rw [if_neg hj,if_neg hj];exact ⟨_,rfl⟩
end
structure ObjM(h:Heap)(x dx C:Addr)(mA:Z6):Prop where
 obj:h.get? x=some (PySem.W.instObj C dx)
 ns:h.Ns1 dx mA
 ne:dx≠x
def zk8{h:Heap}{mA:Z6}(n:h.Ns1 dx mA):∃od,h.get? dx=some od/\∀name,PySem.W.lookIn name od=some (mA name):=by
 obtain ⟨o,es,ep,ho,hd,hk,_,hm⟩:=n;refine ⟨o,ho,fun name=>?_⟩;have e:=hm name;unfold nsFind findBy at e;rw [<-Array.find?_toList] at e;unfold PySem.W.lookIn;rw [hd];dsimp only;split
 ·rename_i y q;rw [q] at e;exact congrArg some e
 ·rename_i q;rw [q] at e
  have a:es.toList.any (·.refKey)=false:=by
   rw [yc4];intro y hy;obtain ⟨z,t,hkey⟩:=hk y (ybM.mp hy);simp [DictEntry.refKey,hkey]
  have a':¬ es.toList.any (·.refKey)=true:=by rw [a];exact yaP
  rw [if_neg a'];exact congrArg some e
def ObjM.look(I:ObjM h x dx C mA):∃od,PySem.W.InstAt h x (PySem.W.instObj C dx) C (some od)/\∀name,PySem.W.lookIn name od=some (mA name) :=
 let ⟨od,ho,hl⟩:=zk8 I.ns
 ⟨od,⟨I.obj,rfl,rfl,ho⟩,hl⟩
section
variable{prog:Program}{w:World}{A:Around}{E:Z5}{s:Shared}{K:PySem.W.Frag}{x dx C f:Addr}{mA:Z6}{name:Str}{v:Value}
def zqs{expr:Bool}{Q:Z5}(X:K.In s.heap)(I:ObjM s.heap x dx C mA)(hg:PySem.W.plainGet K C name=true)(hh:PySem.W.hasDictIn K C=true)
  (ha:PySem.W.findIn K (.ref C) name=some none) (hv:mA name=some v) (hv':PySem.W.handedIn v=true) (h:Q v { s with toks:=s.toks+1 }) :
  wpAny (model prog w) A (getAttr (.ref x) name expr) Q E s:=by
 obtain ⟨od,J,hl⟩:=I.look;exact PySem.W.get_value X J (ycQ hg).1 (PySem.W.findObj_own hh ha rfl (by rw [hl,hv])) hv' h
def zne(X:K.In s.heap)(I:ObjM s.heap x dx C mA)(hg:PySem.W.plainGet K C name=true)
  (hf:PySem.W.findIn K (.ref C) name=some (some (.ref f))) (ht:PySem.W.isFn K (.ref f)=true) (hv:mA name=none) (h:Q (.ref f,[.ref x]) s) :
  wpAny (model prog w) A (getMethod (.ref x) name pl) Q E s:=by
 obtain ⟨od,J,hl⟩:=I.look;exact PySem.W.method_fn X J (ycQ hg).1 (ycQ hg).2 hf (ycd.mp ht) (by show (PySem.W.lookIn name od).map (·.isSome)=some false;rw [hl,hv];rfl) h
theorem zph{ns:List Str}{Q:Unit->Shared->Prop}(X:K.In s.heap)(I:ObjM s.heap x dx C mA)
  (hs:PySem.W.findIn K (.ref C) "__setattr__" = some (some (.builtin "object.__setattr__"))) (hp:PySem.W.plainOver K C=true) (ht:PySem.W.takerIn K C name=some none) (hh:PySem.W.hasDictIn K C=true)
  (hw:PySem.Within mA ns) (hsz:ns.length<=sizeLine)
  (h:∀h',ObjM h' x dx C (fun y=>if y=name then some v else mA y)->Heap.SameBut dx s.heap h'->Q () { s with heap:=h',toks:=s.toks+2 }) :
  wpAny (model prog w) A (setAttr (.ref x) name v) Q E s:=by
 obtain ⟨od,J,hl⟩:=I.look;refine PySem.W.set_plain X J hs (PySem.W.osa_open (s:={ s with toks:=s.toks+1 }) (r:=none) X J hp ht fun b=>?_);obtain ⟨cd,hc,hd'⟩:=PySem.W.any_some hh;have hx:s.heap.get? x=some ⟨.ref C,some dx,.plain,#[]⟩:=I.obj;refine yaa (yad (yaa (yaa (wpAny_loadPart hx (yaa (PySem.W.Looks.here (s:={ s with toks:=s.toks+1 }) (PySem.W.looks_clsIn X hc) ?_))))));rw [hd'];refine yad (a:=some dx) (yaa (yad (yaa ?_)));refine wpAny_nsSet1 (s:={ s with toks:=s.toks+1 }) I.ns fun h' hn2 hs2=>?_
 obtain ⟨oD,esD,epD,hoD,hdD,hcD⟩:=hn2.count (PySem.Within.cons name v hw);refine yaa (wpAny_lookBehind hoD (by rw [hdD];exact pastItsLine_dict (yam hcD (by rw [yaj];omega))) ?_);exact yad (h _ ⟨(hs2.2 _ (Ne.symm I.ne)).trans I.obj,hn2,I.ne⟩ hs2)
def zmY{R:Result->Shared->Prop}{vs:List Value}{kw:List (Str×Value)}(X:K.In s.heap)(hm:PySem.W.makesIn K C=true)
  (hi:PySem.W.findIn K (.ref C) "__init__" = some (some (.ref f))) (hf:PySem.W.typeIn K (.ref f)=some (.type "function"))
  (h:codeAny (model prog w) (A.under (.builtin "type.__call__" ⟨.ref C::vs,kw⟩)) (.call (.ref f) ⟨.ref (s.heap.objs.size+1)::vs,kw⟩) (PySem.W.InitBack (s.heap.objs.size+1) R)
   { s with heap:=(s.heap.push PySem.W.emptyDict).push (PySem.W.instObj C s.heap.objs.size) }) :
  codeAny (model prog w) A (.call (.ref C) ⟨vs,kw⟩) R s:=by
 obtain ⟨hh,g,d,t,os⟩:=s;exact PySem.W.make_core (PySem.W.makes_of X hm) (PySem.W.looks_findIn X hi) (fun self=>PySem.W.bind_fn X self hf) (.inl rfl) h
end
noncomputable def zda(f:Str)(v:V):List (Str×V)->List (Str×V)
 | []=>[(f,v)]
 | (g,x)::r=>if g=f then (g,v)::r else (g,x)::zda f v r
theorem zeu(f g:Str)(v:V):∀fs:List (Str×V),(zda f v fs).lookup g=if g=f then some v else fs.lookup g
 | []=>by
  show List.lookup g [(f,v)]=_
  by_cases h:g=f
  ·have hb:(g == f)=true:=ycd.mpr h;simp only [List.lookup,hb,if_pos h]
  ·have hb:(g == f)=false:=ybn.mpr h;simp only [List.lookup,hb,if_neg h]
 | (k,x)::r=>by
  have ih:=zeu f g v r;rw [show zda f v ((k,x)::r)=(if k=f then (k,v)::r else (k,x)::zda f v r) from rfl]
  by_cases hk:k=f
  ·rw [if_pos hk]
   by_cases h:g=k
   ·have hb:(g == k)=true:=ycd.mpr h;simp only [List.lookup,hb,if_pos (h.trans hk)]
   ·have hb:(g == k)=false:=ybn.mpr h;simp only [List.lookup,hb,if_neg (fun e:g=f=>h (e.trans hk.symm))]
  ·rw [if_neg hk]
   by_cases h:g=k
   ·have hb:(g == k)=true:=ycd.mpr h;simp only [List.lookup,hb,if_neg (fun e:g=f=>hk (h.symm.trans e))]
   ·have hb:(g == k)=false:=ybn.mpr h;simp only [List.lookup,hb];exact ih
theorem zew(f:Str)(v:V):∀fs:List (Str×V),f∈(zda f v fs).map (·.1)/\∀g,g∈fs.map (·.1)->g∈(zda f v fs).map (·.1)
 | []=>⟨by simp [zda],fun g h=>by simp at h⟩
 | (k,x)::r=>by
  obtain ⟨i1,i2⟩:=zew f v r;rw [show zda f v ((k,x)::r)=(if k=f then (k,v)::r else (k,x)::zda f v r) from rfl]
  by_cases hk:k=f
  ·rw [if_pos hk];subst hk;exact ⟨by simp,fun g h=>by simpa using h⟩
  ·rw [if_neg hk];refine ⟨?_,fun g h=>?_⟩
   ·rw [yaz];exact yan _ i1
   ·rw [yaz] at h ⊢
    rcases yaw.mp h with e | e
    ·exact yaw.mpr (.inl e)
    ·exact yan _ (i2 g e)
theorem zev(f:Str)(v:V):∀fs:List (Str×V),(zda f v fs).length<=fs.length+1
 | []=>by simp [zda]
 | (k,x)::r=>by
  have ih:=zev f v r;rw [show zda f v ((k,x)::r)=(if k=f then (k,v)::r else (k,x)::zda f v r) from rfl]
  by_cases hk:k=f
  ·rw [if_pos hk,yaj,yaj];omega
  ·rw [if_neg hk,yaj,yaj];omega
def zfr.some_of(r:zfr (some v) o):∃u,o=some u/\zaL v u:=by
 cases o with
 | none=>exact (show False from r).elim
 | some u=>exact ⟨u,rfl,r⟩
def zfr.none_of(r:zfr none o):o=none:=by
 cases o with
 | none=>rfl
 | some u=>exact (show False from r).elim
def zlw(r:zaL v u):PySem.W.handedIn u=true:=by
 cases v with
 | non=>cases (show u=Value.none from r);rfl
 | bl b=>cases (show u=Value.bool b from r);rfl
 | int i=>obtain ⟨t,e⟩:=(show ∃t,u=Value.int i t from r);cases e;rfl
 | str x=>obtain ⟨t,e⟩:=(show ∃t,u=Value.str x t from r);cases e;rfl
 | byt b=>obtain ⟨t,e⟩:=(show ∃t,u=Value.bytes b t from r);cases e;rfl
 | flt b=>obtain ⟨t,e⟩:=(show ∃t,u=Value.float b t from r);cases e;rfl
 | ref a=>cases (show u=Value.ref a from r);rfl
 | ty n=>cases (show u=Value.type n from r);rfl
section
variable{P:Program}{w:World}{H H':Hp}{h h':Heap}{a C dx:Addr}{fs fs':List (Str×V)}
def zfN(hok:HOk P w H h)(e:H a=some (.ins C dx fs)):∃mA,ObjM h a dx C mA/\(∀f,zfr (fs.lookup f) (mA f))/\PySem.Within mA (fs.map (·.1))/\fs.length<=1000/\H dx=some (.own a):=by
 obtain ⟨d,z,ne,ob,mA,n,r,q⟩:=(show zaI P w H h a (.ins C dx fs) from hok a _ e);exact ⟨mA,⟨ob,n,ne⟩,r,q,z,d⟩
end
structure Cls(K:PySem.W.Frag)(C:Addr):Prop where
 pg:PySem.W.plainGet K C Str.empty=true
 hd:PySem.W.hasDictIn K C=true
 po:PySem.W.plainOver K C=true
 sa:PySem.W.findIn K (.ref C) "__setattr__" = some (some (.builtin "object.__setattr__"))
def Cls.get{K:PySem.W.Frag}(c:Cls K C)(f:Str):PySem.W.plainGet K C f=true:=c.pg
noncomputable def zcd(K:PySem.W.Frag)(C:Addr)(f:Str):Prop:=PySem.W.findIn K (.ref C) f=some none
def zcd.taker{K:PySem.W.Frag}(n:zcd K C f):PySem.W.takerIn K C f=some none:=by
 unfold PySem.W.takerIn;rw [show PySem.W.findIn K (.ref C) f=some none from n];rfl
structure Meth(K:PySem.W.Frag)(C:Addr)(m:Str)(f:Addr):Prop where
 at_:PySem.W.findIn K (.ref C) m=some (some (.ref f))
 fn:PySem.W.isFn K (.ref f)=true
 kp:PySem.W.keepIn K (.ref f)=true
section
variable{X:Cx}{pins:Z3}{σ:St}{H:Hp}{s:Shared}{a C dx:Addr}{fs:List (Str×V)}{f:Str}{v:V}{A:Around}{E:Z5}
def zjx(I:Inv X pins σ H s)(e:H a=some (.ins C dx fs))(c:Cls X.K C)(n:zcd X.K C f)(l:fs.lookup f=some v)
  (h:∀u s',Inv X pins σ H s'->zaL v u->Q u s'):wpAny (model X.prog X.w) A (getAttr (.ref a) f b) Q E s:=by
 obtain ⟨mA,O,r,_,_,_⟩:=zfN I.hok e;obtain ⟨u,hu,ru⟩:=zfr.some_of (v:=v) (o:=mA f) (by rw [<-l];exact r f);exact zqs I.kIn O (c.get f) c.hd n hu (zlw ru) (h u _ (I.tok _) ru)
def zfh(I:Inv X pins σ H s)(e:H a=some (.ins C dx fs))(c:Cls X.K C)(k:Meth X.K C m g)(l:fs.lookup m=none)
  (h:Q (.ref g,[.ref a]) s):wpAny (model X.prog X.w) A (getMethod (.ref a) m pl) Q E s:=by
 obtain ⟨mA,O,r,_,_,_⟩:=zfN I.hok e;have hn:mA m=none:=zfr.none_of (by rw [<-l];exact r m);exact zne I.kIn O (c.get m) k.at_ k.fn hn h
def zi7(I:Inv X pins σ H s)(e:H a=some (.ins C dx fs))(c:Cls X.K C)(n:zcd X.K C f)(hl:fs.length<1000)(ry:zaL y u)
  (h:∀s',Inv X pins σ (upd H a (.ins C dx (zda f y fs))) s'->Q () s'):wpAny (model X.prog X.w) A (setAttr (.ref a) f u) Q E s:=by
 obtain ⟨mA,O,r,wi,_,ho⟩:=zfN I.hok e
 have hz:(fs.map (·.1)).length<=sizeLine:=by rw [yae,ydb];omega
 refine zph I.kIn O c.sa c.po n.taker c.hd wi hz fun h' O' sb=>h _ ?_
 have hd:∃o,h'.get? dx=some o:=let ⟨o,_,_,e',_⟩:=O'.ns;⟨o,e'⟩
 refine I.write (x:=a) (e:=dx) (by rw [e];exact True.intro) (.inr ho) (fun b q hb z=>(sb.2 b hb).trans z) hd ?_;refine ⟨by rw [zac O.ne];exact ho,?_,O.ne,O'.obj,_,O'.ns,fun g=>?_,fun g hg=>?_⟩
 ·have:=zev f y fs;omega
 ·show zfr ((zda f y fs).lookup g) (if g=f then some u else mA g);rw [zeu]
  by_cases q:g=f
  ·rw [if_pos q,if_pos q];exact ry
  ·rw [if_neg q,if_neg q];exact r g
 ·by_cases q:g=f
  ·rw [q];exact (zew f y fs).1
  ·refine (zew f y fs).2 g (wi g fun z=>hg ?_);show (if g=f then some u else mA g)=none;rw [if_neg q];exact z
def Inv.made(I:Inv X pins σ H s):Inv X pins σ (upd (upd H s.heap.objs.size (.own (s.heap.objs.size+1))) (s.heap.objs.size+1) (.ins C s.heap.objs.size []))
  { s with heap:=(s.heap.push PySem.W.emptyDict).push (PySem.W.instObj C s.heap.objs.size) }:=by
 have e1:(s.heap.push PySem.W.emptyDict).get? s.heap.objs.size=some PySem.W.emptyDict:=yal s.heap rfl
 have e2:((s.heap.push PySem.W.emptyDict).push (PySem.W.instObj C s.heap.objs.size)).get? (s.heap.objs.size+1)=some (PySem.W.instObj C s.heap.objs.size):=by
  have:=yal (s.heap.push PySem.W.emptyDict) (o:=PySem.W.instObj C s.heap.objs.size) rfl
  rwa [ya5] at this
 have e3:(s.heap.push PySem.W.emptyDict).Ns s.heap.objs.size (fun _=>none):=⟨PySem.W.emptyDict,#[],_,e1,rfl,(fun e he=>absurd he (by simp)),fun _=>rfl⟩;have I1:=I.laid (a:=s.heap.objs.size) (o:=.own (s.heap.objs.size+1)) (h':=s.heap.push PySem.W.emptyDict) (t':=s.toks) (fun b u q=>yaf _ q) (yah _) ⟨_,e1⟩;refine I1.laid (a:=s.heap.objs.size+1) (o:=.ins C s.heap.objs.size []) (t':=s.toks) (fun b u q=>yaf _ q) (Nat.le_of_eq (ya5 _ _)) ?_;have ne:s.heap.objs.size≠s.heap.objs.size+1:=yas (ybS _);refine ⟨by rw [zac ne,zag],ya2 _,ne,e2,fun _=>none,(Heap.Ns1.of_empty e3).at fun o q=>yaf _ q,fun _=>True.intro,fun y hy=>absurd rfl hy⟩
def zqT(hb:attributeBase e f env (eval e env)=eval e env)
  (h:wpAny (model prog w) A (eval e env) (fun o s₁=>wpAny (model prog w) A (getAttr o f true) Q E s₁) E s):wpAny (model prog w) A (eval (.Attribute e f pos) env) Q E s :=
 Attribute_any_ h (by rw [arm_eval_Attribute,hb])
end
noncomputable def zur(K:PySem.W.Frag)(ta:TE)(f:Str):TE:=fun σ H Q=>ta σ H fun x H1=>∃a C dx fs v,x=.ref a/\H1 a=some (.ins C dx fs)/\Cls K C/\zcd K C f/\fs.lookup f=some v/\Q v H1
noncomputable def zxM(K:PySem.W.Frag)(ta tv:TE)(f:Str):TS:=fun D σ H=>tv σ H fun y H1=>ta σ H1 fun x H2=>∃a C dx fs,x=.ref a/\H2 a=some (.ins C dx fs)/\Cls K C/\zcd K C f/\fs.length<1000 ∧
 D.nx σ (upd H2 a (.ins C dx (zda f y fs)))
section
variable{X:Cx}{o e value:Expr}{f:Str}{pos pos' tpos:Pos}{ta tv:TE}
def zbV(he:PE X e ta)(hb:attributeBase e f X.env (eval e X.env)=eval e X.env):PE X (.Attribute e f pos) (zur X.K ta f):=by
 intro pins s σ H Q I h;refine zqT hb (thn (he pins s σ H _ I h) fun u s1 ⟨x,H1,I1,rx,a,C,dx,fs,v,ex,ea,c,n,l,q⟩=>?_);subst ex;obtain rfl:u=Value.ref a:=rx;exact zjx I1 ea c n l fun u' s2 I2 ru=>⟨v,H1,I2,ru,q⟩
def zkO(ha:PE X o ta)(hv:PE X value tv)(hs:swapsWith value (some (.Attribute o f pos')) pos.line X.env=pure false):PS X (.Assign [.Attribute o f pos'] value pos) (zxM X.K ta tv f):=by
 intro pins s σ H D I h;refine plainObj_wpAny_Assign_Attribute (thn (hv pins s σ H _ I h) fun u s1 ⟨y,H1,I1,ry,q⟩=>thn (ha pins s1 σ H1 _ I1 q) fun ov s2 ⟨x,H2,I2,rx,a,C,dx,fs,ex,ea,c,n,l,q2⟩=>?_) hs;subst ex;obtain rfl:ov=Value.ref a:=rx;exact zi7 I2 ea c n l ry fun s3 I3=>⟨σ,_,I3,q2⟩
end
section
variable{X:Cx}{pins:Z3}{σ:St}{H:Hp}{s:Shared}{A:Around}{E:Z5}{Q:Z5}{c:Value}{b:Bool}
inductive TyOf(K:PySem.W.Frag)(H:Hp):V->Value->Prop where
 | non:TyOf K H .non (.type "NoneType")
 | bl (x:Bool):TyOf K H (.bl x) (.type "bool")
 | int (i:Int):TyOf K H (.int i) (.type "int")
 | str (x:Str):TyOf K H (.str x) (.type "str")
 | flt (x:UInt64):TyOf K H (.flt x) (.type "float")
 | lst {a:Addr} {xs:List V} (e:H a=some (.lst xs)):TyOf K H (.ref a) (.type "list")
 | frz {a:Addr} {o:Obj} {xs:List V} (e:H a=some (.frz o (.lst xs))):TyOf K H (.ref a) (.type "list")
 | tup {a:Addr} {xs:List V} (e:H a=some (.tup xs)):TyOf K H (.ref a) (.type "tuple")
 | dK {a:Addr} {kvs:List (Key×V)} (e:H a=some (.dK kvs)):TyOf K H (.ref a) (.type "dict")
 | dT {a:Addr} {kvs:List (List Key×V)} (e:H a=some (.dT kvs)):TyOf K H (.ref a) (.type "dict")
 | ins {a C dx:Addr} {fs:List (Str×V)} (e:H a=some (.ins C dx fs)) (cl:Cls K C) (ha:PySem.W.findIn K (.ref C) "__class__" = some (some (.builtin "object.__class__")))
   (hn:PySem.W.specialIn K (.builtin "object.__class__") "__get__" = some (some (.builtin "getset_descriptor.__get__"))) (htk:PySem.W.takesIn K (.builtin "object.__class__")=some true)
   (hm:PySem.W.mroIn K C (.type "object")=some true):TyOf K H (.ref a) (.ref C)
def zlo{x:V}{u t:Value}(I:Inv X pins σ H s)(rx:zaL x u)(ty:TyOf X.K H x t)(e:PySem.W.kitOne X.K t c=some b)(h:∀tk,Q (.bool b) { s with toks:=tk }) :
  wpAny (model X.prog X.w) A (call (.builtin "isinstance") [u,c]) Q E s:=by
 cases ty with
 | non=>cases (show u=Value.none from rx);exact ya3 PySem.W.kitx_none I.kIn True.intro e (fun z=>nomatch z) h
 | bl y=>cases (show u=Value.bool y from rx);exact ya3 PySem.W.kitx_bool I.kIn True.intro e (fun z=>nomatch z) h
 | int i=>obtain ⟨t,q⟩:=(show ∃t,u=Value.int i t from rx);cases q;exact ya3 PySem.W.kitx_int I.kIn True.intro e (fun z=>nomatch z) h
 | str y=>obtain ⟨t,q⟩:=(show ∃t,u=Value.str y t from rx);cases q;exact ya3 PySem.W.kitx_str I.kIn True.intro e (fun z=>nomatch z) h
 | flt y=>obtain ⟨t,q⟩:=(show ∃t,u=Value.float y t from rx);cases q;exact ya3 PySem.W.kitx_float I.kIn True.intro e (fun z=>nomatch z) h
 | @lst a xs ea =>
  cases (show u=Value.ref a from rx);obtain ⟨_,_,n,_,h1⟩:=(show zaI X.prog X.w H s.heap a (.lst xs) from I.hok a _ ea);exact ya3 PySem.W.kitx_list I.kIn ⟨_,h1,rfl⟩ e (fun z=>nomatch z) h
 | @frz a ob xs ea =>
  cases (show u=Value.ref a from rx);obtain ⟨_,_,_,n,_,h1⟩:=(show zaI X.prog X.w H s.heap a (.frz ob (.lst xs)) from I.hok a _ ea);exact ya3 PySem.W.kitx_list I.kIn ⟨_,h1,rfl⟩ e (fun z=>nomatch z) h
 | @tup a xs ea =>
  cases (show u=Value.ref a from rx);obtain ⟨_,_,_,p⟩:=(show zaI X.prog X.w H s.heap a (.tup xs) from I.hok a _ ea);obtain ⟨o,h1,h2,_⟩:=p;exact ya3 PySem.W.kitx_tuple I.kIn ⟨o,h1,h2⟩ e (fun z=>nomatch z) h
 | @dK a kvs ea =>
  cases (show u=Value.ref a from rx);obtain ⟨_,_,vs,_,p⟩:=(show zaI X.prog X.w H s.heap a (.dK kvs) from I.hok a _ ea);obtain ⟨o,es,ep,h1,h2,_⟩:=p;exact ya3 PySem.W.kitx_dict I.kIn ⟨o,h1,h2.1⟩ e (fun z=>nomatch z) h
 | @dT a kvs ea =>
  cases (show u=Value.ref a from rx);obtain ⟨_,_,xs,_,o,es,ep,h1,h2,_⟩:=(show zaI X.prog X.w H s.heap a (.dT kvs) from I.hok a _ ea);exact ya3 PySem.W.kitx_dict I.kIn ⟨o,h1,h2.1⟩ e (fun z=>nomatch z) h
 | @ins a C dx fs ea cl ha hn htk hm =>
  cases (show u=Value.ref a from rx);obtain ⟨mA,O,_⟩:=zfN I.hok ea;obtain ⟨od,J,_⟩:=O.look;exact ya3 (PySem.W.kitx_own (cl.get _) cl.hd ha hn htk hm) I.kIn J e (fun z=>nomatch z) h
end
structure Room(k:Nat)(A:Around):Prop where
 hd:A.handled=none
 dp:A.depth+3*k+5<recursionLimit
 un:A.units+16*k+200<cLine
theorem Room.mono(r:Room k A)(h:j<=k):Room j A:=⟨r.hd,by have:=r.dp;omega,by have:=r.un;omega⟩
theorem Room.deeper(r:Room (k+1) A)(env:Env):Room k (A.deeper env) :=
 ⟨r.hd,by have:=r.dp;show A.depth+1+3*k+5<_;omega,by have:=r.un;show A.units+3+16*k+200<_;omega⟩
def zjr{A:Around}:(A.under (.builtin "type.__call__" ⟨.ref C::us,kw⟩)).depth=A.depth+1:=by
 first | rfl | simp [Around.under,Code.weight,Code.isCreation,Code.isGuard,Code.isCaller,Code.frames,Code.isFrame,guardIds]
def zjq{A:Around}:(A.under (.builtin "type.__call__" ⟨.ref C::us,kw⟩)).units=A.units+1:=by
 first | rfl | simp [Around.under,Code.cUnits,Code.frames,Code.isFrame]
theorem Room.make(r:Room (k+1) A)(C:Addr)(us:List Value)(kw:List (Str×Value)):Room k (A.under (.builtin "type.__call__" ⟨.ref C::us,kw⟩)) :=
 ⟨r.hd,by have:=r.dp;rw [zjr];omega,by have:=r.un;rw [zjq];omega⟩
theorem Room.depth(r:Room k A):A.depth<recursionLimit:=by have:=r.dp;omega
theorem Room.units(r:Room k A):A.units+64<cLine:=by have:=r.un;omega
noncomputable def zrj:TA:=fun _ H Q=>Q [] H
noncomputable def zmi(ta:TE)(tr:TA):TA:=fun σ H Q=>ta σ H fun x H1=>tr σ H1 fun xs H2=>Q (x::xs) H2
section
variable{X:Cx}{e:Expr}{es:List Expr}{te:TE}{t:TA}{pos:Pos}
def zbx:PA X [] zrj:=fun _ _ _ _ H Q I h=>yc5 ⟨[],H,I,.nil,h⟩
def zaF(ha:PE X e te)(hr:PA X es t)(hs:autoParam (starEach (e::es) X.env=(false,eval e X.env)::starEach es X.env) yAW):PA X (e::es) (zmi te t):=by
 intro pos pins s σ H Q I h;rw [hs];show wpAny _ _ (spliced ((false,eval e X.env)::backTo pos (starEach es X.env))) _ _ s;refine yci (thn (ha pins s σ H _ I h) fun u s1 ⟨x,H1,I1,r1,q1⟩=>?_);exact thn (hr pos pins s1 σ H1 _ I1 q1) fun us s2 ⟨xs,H2,I2,r2,q2⟩=>⟨x::xs,H2,I2,.cons r1 r2,q2⟩
noncomputable def zxG(t:TA):TE:=fun σ H Q=>t σ H fun xs H1=>xs.length<=sizeLine/\∀p,H1 p=none->Q (.ref p) (upd H1 p (.tup xs))
noncomputable def zxI(t:TA):TE:=fun σ H Q=>t σ H fun xs H1=>xs.length<=sizeLine/\∀p,H1 p=none->Q (.ref p) (upd H1 p (.lst xs))
def zn5{x1}(h:PA X es t):PE X (.Tuple es x1 pos) (zxG t):=by
 intro pins s σ H Q I hq;refine wpAny_Tuple_spliced (thn (h pos pins s σ H _ I hq) fun us s1 ⟨xs,H1,I1,r,z,q⟩=>⟨by rw [<-r.length];exact z,?_⟩);have hf:H1 s1.heap.objs.size=none:=I1.hok.fresh (yah _);refine ⟨.ref s1.heap.objs.size,upd H1 s1.heap.objs.size (.tup xs),I1.laid (t':=s1.toks) (fun b u e=>yaf _ e) (yah _) ?_,rfl,q _ hf⟩;exact ⟨z,us,r,⟨_,yal _ rfl,rfl,_,rfl,rfl⟩⟩
def zn8(h:PA X es t):PE X (.List es pos) (zxI t):=by
 intro pins s σ H Q I hq;refine wpAny_List_spliced (thn (h pos pins s σ H _ I hq) fun us s1 ⟨xs,H1,I1,r,z,q⟩=>⟨by rw [<-r.length];exact z,?_⟩);have hf:H1 s1.heap.objs.size=none:=I1.hok.fresh (yah _);refine ⟨.ref s1.heap.objs.size,upd H1 s1.heap.objs.size (.lst xs),I1.laid (t':=s1.toks) (fun b u e=>yaf _ e) (yah _) ?_,rfl,q _ hf⟩;exact ⟨z,us,0,r,yal _ rfl⟩
end
noncomputable abbrev Sp:=List V->Hp->VK->XK->Prop
noncomputable abbrev CXT:=List Env->Hp->Shared->XK->Value->Shared->Prop
structure Env0(P:Program)(w:World)(K:PySem.W.Frag)(mg:Z6)(base:Heap)(A:Around)(outer:List Env)(s:Shared)(H:Hp):Prop where
 frames:A.frames=some outer
 mod:Mod K mg base
 bs:∀b o,base.get? b=some o->s.heap.get? b=some o/\H b=none
 bsz:base.objs.size<=s.heap.objs.size
 funs:s.heap.FunFrames base outer
 frf:∀b∈frs outer,H b=none
 hok:HOk P w H s.heap
 bare:AllBare s.gens
noncomputable def CE(outer:List Env)(P:Program)(w:World)(H:Hp)(s:Shared)(Q:VK)(u:Value)(s':Shared):Prop :=
 ∃v H',s'.os=s.os/\AllBare s'.gens/\Un (frs outer) [] H H' s.heap s'.heap/\HOk P w H' s'.heap/\zaL v u/\Q v H'
noncomputable def CR(CX:CXT)(outer:List Env)(P:Program)(w:World)(H:Hp)(s:Shared)(Q:VK)(E:XK)(r:Result)(s':Shared):Prop :=
 match r with
 | .ok (.ret u)=>CE outer P w H s Q u s'
 | .ok _=>False
 | .error e=>CX outer H s E e s'
structure FnOk(P:Program)(w:World)(K:PySem.W.Frag)(mg:Z6)(base:Heap)(CX:CXT)(k:Nat)(f:Addr)(fd:FuncData)(ps:List Str)(sp:Sp):Prop where
 len:∀vs H Q E,sp vs H Q E->vs.length=ps.length
 run:∀(A:Around) (outer:List Env) (s:Shared) (H:Hp) (args:Args) (us:List Value) (vs:List V) (Q:VK) (E:XK),Room k A->Env0 P w K mg base A outer s H->BindsTo s fd args (ps.zip us)->Vals vs us->sp vs H Q E →
  codeAny (model P w) A (.call (.ref f) args) (CR CX outer P w H s Q E) s
theorem FnOk.mono{P:Program}{K:PySem.W.Frag}{j k:Nat}(F:FnOk P w K mg base CX j f fd ps sp)(h:j<=k) :
  FnOk P w K mg base CX k f fd ps sp:=⟨F.len,fun A outer s H args us vs Q E hr=>F.run A outer s H args us vs Q E (hr.mono h)⟩
def FnOk.imp{P:Program}{K:PySem.W.Frag}{k:Nat}(F:FnOk P w K mg base CX k f fd ps sp)
  (h:∀vs H Q E,sp' vs H Q E->sp vs H Q E):FnOk P w K mg base CX k f fd ps sp' :=
 ⟨fun vs H Q E q=>F.len vs H Q E (h _ _ _ _ q),fun A outer s H args us vs Q E hr he hb hv hs=>F.run A outer s H args us vs Q E hr he hb hv (h _ _ _ _ hs)⟩
def Env0.make{P:Program}{K:PySem.W.Frag}{A:Around}(e:Env0 P w K mg base A outer s H)(C:Addr)(us:List Value)(kw:List (Str×Value)) :
  Env0 P w K mg base (A.under (.builtin "type.__call__" ⟨.ref C::us,kw⟩)) outer s H:=⟨by first | exact e.frames | (simpa [Around.under,Code.envs,Code.isFrame,pushEnvs] using e.frames),e.mod,e.bs,e.bsz,e.funs,e.frf,e.hok,e.bare⟩
section
variable{X:Cx}{pins:Z3}{σ:St}{H:Hp}{s s':Shared}
def Inv.env0(I:Inv X pins σ H s):Env0 X.prog X.w X.K X.mg X.base X.A X.stack s H :=
 ⟨I.ok.frames,I.ok.mod,I.bs,yam I.ok.bsz I.sz,I.stack,I.stkFree,I.hok,I.bare⟩
def Inv.after(I:Inv X pins σ H s)(h:CE X.stack X.prog X.w H s Q u s'):EP X pins σ Q u s':=by
 obtain ⟨v,H',os,bare,un,hok,r,q⟩:=h;obtain ⟨hh,g,d,t,os'⟩:=s';obtain rfl:os'=s.os:=os;exact ⟨v,H',I.call (h':=hh) (g':=g) (d':=d) (t':=t) (ch:=[]) un hok bare (fun b z=>absurd z (by simp)),r,q⟩
end
noncomputable def zcs(K:PySem.W.Frag)(fd:FuncData)(ps:List Str)(ds:List Value):Prop :=
 ∀(s:Shared) (us:List Value),K.In s.heap->(us++ds).length=ps.length->BindsTo s fd ⟨us,[]⟩ (ps.zip (us++ds))
def zcs.all{K:PySem.W.Frag}{ps:List Str}(h:∀us:List Value,us.length=ps.length->bindArgs fd ⟨us,[]⟩=pure (ps.zip us)):zcs K fd ps []:=fun s us _ hl=>by
 rw [yaS] at hl ⊢;exact .of_eq (h us hl)
noncomputable def zoz(CX:CXT)(X:Cx)(E:XK):Prop:=∀(pins:Z3) (σ:St) (H:Hp) (s:Shared) (e:Value) (s':Shared),Inv X pins σ H s->CX X.stack H s E e s'->X.xe e s'
section
variable{X:Cx}{CX:CXT}{k:Nat}{f C:Addr}{fd:FuncData}{ps:List Str}{sp:Sp}{dvs:List V}{ds:List Value}{E:XK}{x m:Str}{p pos apos:Pos}{e o:Expr}{es:List Expr}{ta:TE}{t:TA}
structure Mk(K:PySem.W.Frag)(C f:Addr):Prop where
 makes:PySem.W.makesIn K C=true
 init:PySem.W.findIn K (.ref C) "__init__" = some (some (.ref f))
 fn:PySem.W.isFn K (.ref f)=true
 kp:PySem.W.keepIn K (.ref C)=true
end
structure FnScope(N P:List Str)(sc:Scope):Prop where
 kind:sc.kind=.function
 co:sc.isCoroutine=false
 gen:sc.isGenerator=false
 nd:N.Nodup
 pre:N.take P.length=P
 par:∀x∈P,sc.names.lookup x=some .local\/sc.names.lookup x=some .cell
 nofree:∀y∈sc.names,y.2≠.free
theorem zg6{kindOf:Str->Option NameKind}:∀{binds:List (Str×Value)} {m:Z6},(∀v,(x,v) ∉ binds)->bindL kindOf binds m x=m x
 | [],_,_=>rfl
 | (n,v)::r,m,h=>by
  unfold bindL;rw [zg6 fun w hw=>h w (yan _ hw)];split
  ·have:x≠n:=by rintro rfl;exact h v yav
   simp [this]
  ·rfl
theorem zg8{kindOf:Str->Option NameKind}:∀{binds:List (Str×Value)} {m:Z6},(∀v,(x,v) ∉ binds)->bindC kindOf binds m x=m x
 | [],_,_=>rfl
 | (n,v)::r,m,h=>by
  unfold bindC;rw [zg8 fun w hw=>h w (yan _ hw)];split
  ·rfl
  ·have:x≠n:=by rintro rfl;exact h v yav
   simp [this]
theorem zg7{kindOf:Str->Option NameKind}:∀{P:List Str} {vs:List Value} {i:Nat} {m:Z6},P.Nodup->P[i]?=some x->vs[i]?=some v->kindOf x=some .local →
  bindL kindOf (P.zip vs) m x=some v
 | [],_,_,_,_,h,_,_=>by simp at h
 | _::_,[],_,_,_,_,h,_=>by simp at h
 | p::P,w::vs,0,m,nd,h1,h2,hk=>by
  simp at h1 h2;subst h1;subst h2;show bindL kindOf ((p,w)::P.zip vs) m p=_;unfold bindL;rw [zg6 fun v hv=>(ybY.mp nd).1 (ycR hv).1,if_pos hk];simp
 | p::P,w::vs,i+1,m,nd,h1,h2,hk=>by
  show bindL kindOf ((p,w)::P.zip vs) m x=_;unfold bindL;exact zg7 (i:=i) (ybY.mp nd).2 (by simpa using h1) (by simpa using h2) hk
theorem zg9{kindOf:Str->Option NameKind}:∀{P:List Str} {vs:List Value} {i:Nat} {m:Z6},P.Nodup->P[i]?=some x->vs[i]?=some v->kindOf x≠some .local →
  bindC kindOf (P.zip vs) m x=some v
 | [],_,_,_,_,h,_,_=>by simp at h
 | _::_,[],_,_,_,_,h,_=>by simp at h
 | p::P,w::vs,0,m,nd,h1,h2,hk=>by
  simp at h1 h2;subst h1;subst h2;show bindC kindOf ((p,w)::P.zip vs) m p=_;unfold bindC;rw [zg8 fun v hv=>(ybY.mp nd).1 (ycR hv).1,if_neg hk];simp
 | p::P,w::vs,i+1,m,nd,h1,h2,hk=>by
  show bindC kindOf ((p,w)::P.zip vs) m x=_;unfold bindC;exact zg9 (i:=i) (ybY.mp nd).2 (by simpa using h1) (by simpa using h2) hk
noncomputable def zc6(N:List Str)(vs:List V):St:=vs.map some++List.replicate (N.length-vs.length) none
noncomputable def zhK(CX:CXT)(P:Program)(w:World)(K:PySem.W.Frag)(mg:Z6)(base:Heap)(N:List Str)(qual:Str)(scope:Scope)(f:Addr)(cd:Value)(A:Around)(outer:List Env)(s:Shared)(H:Hp)(E:XK):Cx where
 prog:=P
 w:=w
 K:=K
 mg:=mg
 base:=base
 A:=A.deeper (envOfC qual scope s.heap.objs.size f cd)
 N:=N
 s₀:=s
 H₀:=H
 env:=envOfC qual scope s.heap.objs.size f cd
 outer:=outer
 stack:=envOfC qual scope s.heap.objs.size f cd::outer
 ex:=[]
 calm:=true
 fn:=fun _=>true
 pn:=[]
 xe:=fun e s'=>wpAny (model P w) (A.deeper (envOfC qual scope s.heap.objs.size f cd)) (leaving (envOfC qual scope s.heap.objs.size f cd) e) (fun _ s''=>CX outer H s E e s'') (fun e' s''=>CX outer H s E e' s'') s'
def ziQ{sc:Scope}(h:sc.names.lookup x=some .cell):∃c,(cellsFrom n sc.names []).lookup x=some c:=by
 have q:=yct sc.names n [] (.inl h);exact Option.isSome_iff_exists.mp q
theorem zgH{P:Program}{K:PySem.W.Frag}{N ps:List Str}{scope:Scope}{A:Around}{s s1:Shared}{vs:List V}
  (S:FnScope N ps scope) (hd:A.handled=none) (e0:Env0 P w K mg base A outer s H) (hl:vs.length=ps.length) (r:Vals vs us)
  (x:InCallC s s.heap.objs.size (bindL (envOfC qual scope s.heap.objs.size f cd).kindOf (ps.zip us) fun _=>none) (cellsFrom (s.heap.objs.size+1) scope.names []) (bindC (envOfC qual scope s.heap.objs.size f cd).kindOf (ps.zip us) fun _=>none) s1) :
  Inv (zhK CX P w K mg base N qual scope f cd A outer s H E) [] (zc6 N vs) H s1:=by
 have hpl:ps.length<=N.length:=by have:=congrArg List.length S.pre;rw [yaI] at this;omega
 obtain ⟨h1,tk,rfl,hk⟩:=x.done;have noA:∀b:Addr,b ∉ (zhK CX P w K mg base N qual scope f cd A outer s H E).ex:=fun b z=>absurd (show b∈([]:List Addr) from z) (by simp)
 refine ⟨⟨e0.mod,S.kind,rfl,rfl,yah _,fun y z c h1 h2=>?_,fun y hy=>?_,fun y c _ h=>?_,fun _=>hd,Around.frames_deeper e0.frames,.inr ⟨rfl,rfl⟩,fun b z=>absurd z (noA b),e0.bs,e0.bsz,fun b _ _=>noA b,fun b z=>absurd z (noA b),e0.funs,e0.frf⟩,
  rfl,e0.bare,Un.kept hk,⟨_,x.toInCall.ns,fun i y v h1 h2 h3=>?_⟩,fun y c h=>⟨_,x.cell y c h⟩,e0.hok.fresh (yah _),fun y c h=>?_,fun p hp=>absurd (show p∈([]:Z3) from hp) (by simp),e0.hok.kept hk,?_⟩
 ·exact name_of_addr x.apart (yaB h1) (yaB h2)
 ·have hy:scope.names.lookup y=some .cell\/scope.names.lookup y=some .free:=hy
  rcases hy with hy | hy
  ·exact ziQ hy
  ·exact absurd rfl (S.nofree _ (yaB hy))
 ·exact ycA (x.above y c (yaB h))
 ·have hi:i<vs.length:=by
   unfold zc6 at h2
   by_cases hi:i<vs.length
   ·exact hi
   ·rw [yaA (by simpa using hi)] at h2;rw [yby] at h2
    split at h2<;>cases h2
  have ha:vs[i]?=some v:=by
   unfold zc6 at h2;rw [yaE (by simpa using hi),yaq] at h2
   cases e:vs[i]? with
   | none=>rw [e] at h2;cases h2
   | some a=>rw [e] at h2;cases h2;rfl
  obtain ⟨u,hu,rv⟩:=r.get ha
  have hp:ps[i]?=some y:=by
   rw [<-S.pre,List.getElem?_take_of_lt (by omega)];exact h1
  have ndP:ps.Nodup:=by rw [<-S.pre];exact S.nd.sublist (List.take_sublist _ _)
  refine ⟨u,rv,?_⟩
  rcases S.par y (yba hp) with k | k
  ·exact .inl ⟨k,zg7 ndP hp hu k⟩
  ·obtain ⟨c,e⟩:=ziQ (n:=s.heap.objs.size+1) k;refine .inr ⟨.inl k,c,e,?_⟩;have q:=x.cell y c e;rw [zg9 ndP hp hu (by show scope.names.lookup y≠_;rw [k];decide)] at q;exact q
 ·exact e0.hok.fresh (ycA (x.above y c (yaB h)))
 ·unfold zc6;show _=N.length;rw [yar,yae,yaJ];omega
def ztk{CX:CXT}{P:Program}{w:World}{K:PySem.W.Frag}{mg:Z6}{base:Heap}{k:Nat}{f:Addr}{name qual:Str}{params:Arguments}{body:List Stmt}{scope:Scope}{dV kV doc pm cdv ct oc:Value}{an od:Option Addr}
  {osl:Array (Option Value)} {N ps:List Str} {sp:Sp} (lk:K.lookup f=some ⟨oc,od,.func (PySem.W.fnOf name qual params body scope dV kV doc pm an cdv ct),osl⟩) (hcd:PySem.W.codeIn K cdv qual=true) (S:FnScope N ps scope)
  (len:∀vs H Q E,sp vs H Q E->vs.length=ps.length)
  (hbody:∀(A:Around) (outer:List Env) (s:Shared) (H:Hp) (vs:List V) (Q:VK) (E:XK),Room k (A.deeper (envOfC qual scope s.heap.objs.size f cdv))->sp vs H Q E →
   ∃t,PSs (zhK CX P w K mg base N qual scope f cdv A outer s H E) body t/\t { nx:=fun _ H'=>Q .non H',rt:=Q } (zc6 N vs) H) :
  FnOk P w K mg base CX (k+1) f (PySem.W.fnOf name qual params body scope dV kV doc pm an cdv ct) ps sp:=by
 refine ⟨len,fun A outer s H args us vs Q E hr e0 hb r hsp=>?_⟩;have hl:=len _ _ _ _ hsp;have KX:K.In s.heap:=e0.mod.kin.keeps fun b o e=>(e0.bs b o e).1
 have lim:s.heap.NoLimit:=e0.mod.nolimit.keeps fun b o e=>(e0.bs b o e).1
 have hkind:∀y∈ps.zip us,scope.names.lookup y.1=some .local\/(scope.names.lookup y.1=some .cell/\((cellsFrom (s.heap.objs.size+1) scope.names []).lookup y.1).isSome=true):=fun ⟨n,v⟩ hy=>by
  rcases S.par n (ycR hy).1 with q | q
  ·exact .inl q
  ·exact .inr ⟨q,yct _ _ _ (.inl q)⟩
 refine codeAny_call_function hr.depth (KX _ _ lk) rfl S.co S.gen rfl (PySem.W.codeRec_of KX hcd) (hb _ _ _ _ ?_);refine wpAny_newFunctionEnv_cells S.kind hkind fun env he s1 x=>?_
 subst he;refine ⟨lim.keeps x.toInCall.keep,codeAny_func ?_⟩;obtain ⟨t,ht,hq⟩:=hbody A outer s H vs Q E (hr.deeper _) hsp;have I:Inv (zhK CX P w K mg base N qual scope f cdv A outer s H E) [] (zc6 N vs) H s1:=zgH S hr.hd e0 hl r x;refine ybd (ht [] s1 (zc6 N vs) H _ I hq) (fun fl s' hs=>?_) fun e s' hs=>hs
 have fin:∀{σ':St} {H':Hp} {v:V} {u:Value},Inv (zhK CX P w K mg base N qual scope f cdv A outer s H E) [] σ' H' s'->zaL v u->Q v H'->CE outer P w H s Q u s' :=
  fun {σ' H' v u} J rv q=>⟨v,H',J.os,J.bare,J.base,J.hok,rv,q⟩
 cases fl with
 | ret u =>
  obtain ⟨v,σ',H',J,rv,q⟩:=hs;exact fin J rv q
 | next =>
  obtain ⟨σ',H',J,q⟩:=hs;exact fin (v:=V.non) (u:=Value.none) J rfl q
 | brk =>
  obtain ⟨_,_,_,q⟩:=hs;exact False.elim q
 | cont =>
  obtain ⟨_,_,_,q⟩:=hs;exact False.elim q
section
variable{X:Cx}{x:Str}{p pos:Pos}{e:Expr}{es:List Expr}{t:TA}{id T:String}{r:List V->Hp->VK->Prop}
noncomputable def tCB(r:List V->Hp->VK->Prop)(t:TA):TE:=fun σ H Q=>t σ H fun vs H1=>r vs H1 Q
def zcg(hc:zcv X (.builtin id) r)(hg:Gl X x)(hm:X.mg x=none)(hv:bootBuiltins x=some (.builtin id))(ha:PA X (e::es) t)(hn:autoParam (x ≠ "__name__") yAR)(hdb:autoParam ((x == ("__debug__":Str))=false) yAR)
  (he:autoParam (starEach (e::es) X.env=(false,eval e X.env)::starEach es X.env) yAW) (hpl:autoParam ((backTo pos (starEach es X.env)).any (·.1)=false) yAW):PE X (.Call (.Name x p) (e::es) [] pos) (tCB r t):=by
 intro pins s σ H Q I h;refine ybu (zfb I hg hm hv ?_ hn hdb);exact PyProof.Rows.callWith_builtin1 (thn (ha pos pins s σ H _ I h) fun us s1 ⟨vs,H1,I1,r1,q1⟩=>hc pins s1 σ H1 vs us Q I1 r1 q1) he hpl
def zdw(hc:zcv X (.type T) r)(hg:Gl X x)(hm:X.mg x=none)(hv:bootBuiltins x=some (.type T))(ha:PA X (e::es) t)(hn:autoParam (x ≠ "__name__") yAR)(hdb:autoParam ((x == ("__debug__":Str))=false) yAR)
  (he:autoParam (starEach (e::es) X.env=(false,eval e X.env)::starEach es X.env) yAW) (hpl:autoParam ((backTo pos (starEach es X.env)).any (·.1)=false) yAW):PE X (.Call (.Name x p) (e::es) [] pos) (tCB r t):=by
 intro pins s σ H Q I h;refine ybu (zfb I hg hm hv ?_ hn hdb);exact ybD (thn (ha pos pins s σ H _ I h) fun us s1 ⟨vs,H1,I1,r1,q1⟩=>hc pins s1 σ H1 vs us Q I1 r1 q1) he hpl
end
end L2
namespace HT
open PySem PyProof.Rows
section
open PySem.SeqAt
open PySem.AutoSeq1 (wpAny_loadPart')
open PySem.MeetsSeq PySem.MeetsSeq2 PySem.MeetsSeq3
end
section
variable{prog:Program}{w:World}{A:Around}{E:Z5}{s:Shared}
def zqN{t b:Addr}{vs ws:List Value}{Q:Z5}(ht:IsTup s.heap t vs.toArray)(hb:IsTup s.heap b ws.toArray)(hv:vs≠[])
  (h1:ws=[]->Q (.ref t) s) (h2:ws≠[]->Q (.ref s.heap.objs.size) { s with heap:=s.heap.push { cls:=.type "tuple",data:=.seq (vs++ws).toArray } })
  (hsz:vs.length+ws.length<=sizeLine):wpAny (model prog w) A (binaryOp .Add (.ref t) (.ref b)) Q E s:=by
 obtain ⟨⟨cls,dd,data,sl⟩,ho,hc,n,hd⟩:=id ht;obtain ⟨⟨cls2,dd2,data2,sl2⟩,ho2,hc2,n2,hd2⟩:=id hb;simp only at hc hd hc2 hd2;subst hc hd hc2 hd2
 have e:vs.toArray++ws.toArray=(vs++ws).toArray:=by simp
 by_cases hw:ws=[]
 ·exact concat_meets ⟨_,ho,rfl⟩ ⟨_,ho2,rfl⟩ noFill_tuple_add seq_tuple_add ycu ycj (yce _ _)
   (tuple_addW1 t b vs.toArray ws.toArray n n2 dd dd2 sl sl2 (by simpa using hv) (by simp [hw])) ⟨ho,ho2,h1 hw⟩
 ·refine concat_meets ⟨_,ho,rfl⟩ ⟨_,ho2,rfl⟩ noFill_tuple_add seq_tuple_add ycu ycj (yce _ _)
   (tuple_addW2 t b vs.toArray ws.toArray n n2 dd dd2 sl sl2 (by simpa using hv) (by simpa using hw) (by rw [yai,yai];exact hsz)) ⟨ho,ho2,?_⟩
  rw [e];exact h2 hw
noncomputable def sIx(n d:Nat):Option Int->Nat
 | none=>d
 | some v=>if v<0 then (v+(n:Int)).toNat else min v.toNat n
theorem zku(n d k:Nat):sIx n d (some (k:Int))=min k n:=by
 show (if (k:Int)<0 then ((k:Int)+(n:Int)).toNat else min (k:Int).toNat n)=min k n;rw [if_neg (by omega),ybe]
theorem zrX(n d:Nat)(hd:d<=n)(o:Option Int):sIx n d o<=n:=by
 cases o with
 | none=>exact hd
 | some v =>
  show (if v<0 then (v+(n:Int)).toNat else min v.toNat n)<=n
  by_cases hv:v<0
  ·rw [if_pos hv];omega
  ·rw [if_neg hv];exact Nat.min_le_right _ _
theorem zlQ(v:Int)(n d:Nat):(if v<0 then max (v+(n:Int)) 0 else min v (n:Int))=((sIx n d (some v):Nat):Int):=by
 show (if v<0 then max (v+(n:Int)) 0 else min v (n:Int))=(((if v<0 then (v+(n:Int)).toNat else min v.toNat n):Nat):Int)
 by_cases hv:v<0
 ·simp only [if_pos hv];omega
 ·simp only [if_neg hv];omega
theorem zjN(lo hi:Option Int)(n:Nat):Builtin.Slice.sliceAdjust lo hi 1 (n:Int)=(((sIx n 0 lo:Nat):Int),((sIx n n hi:Nat):Int)):=by
 have h1:¬ ((1:Int)<0):=by omega
 unfold Builtin.Slice.sliceAdjust;simp only [h1,ycN];refine Prod.ext ?_ ?_
 ·cases lo with
  | none=>rfl
  | some v=>exact zlQ v n 0
 ·cases hi with
  | none=>rfl
  | some v=>exact zlQ v n n
theorem zjl(i j:Nat):Builtin.Slice.slicePlaces (i:Int) (j:Int) 1=j-i:=by
 unfold Builtin.Slice.slicePlaces
 have h1:(1:Int) > 0:=by omega
 simp only [h1,ybU,Int.ediv_one]
 split<;>omega
def ze5(p:IsPart v o)(h:Q o s):wpAny (model prog w) A (Builtin.Slice.slicePartIndex v) Q E s:=by
 cases p with
 | none=>exact slicePart_none h
 | int i t=>exact slicePart_int h
def zct{sl:Addr}{vl vu:Value}{lo hi:Option Int}{n:Nat}{Q:Int×Int×Nat->Shared->Prop}(hs:s.heap.IsSliceOf sl vl vu .none)(pl:IsPart vl lo)(pu:IsPart vu hi)
  (h:Q (((sIx n 0 lo:Nat):Int),1,sIx n n hi-sIx n 0 lo) s):wpAny (model prog w) A (Builtin.Slice.sliceApplied (.ref sl) (pure (n:Int))) Q E s:=by
 obtain ⟨os,hos,hcs,hds⟩:=id hs;unfold Builtin.Slice.sliceApplied Builtin.Slice.sliceFields;refine yaa (yaa (ybL hos hds (x:=vl) rfl (yaa (ybL hos hds (x:=vu) rfl (yaa (ybL hos hds (x:=.none) rfl (yad ?_)))))));refine yaa (slicePart_none ?_);show wpAny _ _ (if ((1:Int) == 0)=true then _ else _) _ _ s;rw [if_neg (by decide)];refine yaa (ze5 pl (yaa (ze5 pu (yaa (yad ?_)))));show wpAny _ _ (match Builtin.Slice.sliceAdjust lo hi 1 (n:Int) with | (lo,hi)=>pure (lo,(1:Int),Builtin.Slice.slicePlaces lo hi 1)) _ _ s;rw [zjN lo hi n];show wpAny _ _ (pure (((sIx n 0 lo:Nat):Int),(1:Int),Builtin.Slice.slicePlaces ((sIx n 0 lo:Nat):Int) ((sIx n n hi:Nat):Int) 1)) _ _ s;rw [zjl];exact yad h
theorem zmE(xs:Array Value)(i k:Nat):((List.range k).filterMap fun (m:Nat)=>xs[((i:Int)+(m:Int)*1).toNat]?).toArray=((xs.toList.drop i).take k).toArray:=by
 have e:(fun (m:Nat)=>xs[((i:Int)+(m:Int)*1).toNat]?)=fun m=>xs[i+m]?:=by
  funext m
  have:((i:Int)+(m:Int)*1).toNat=i+m:=by omega
  rw [this]
 rw [e];have:=pick_run xs i k;rw [List.filterMap_map] at this;have e2:((fun x=>xs[x]?)∘fun x=>i+x)=fun m=>xs[i+m]?:=rfl
 rw [e2] at this;rw [this]
theorem zdS{t sl:Addr}{items:Array Value}{vl vu:Value}{lo hi:Option Int}{Q:Z5}(ht:IsTup s.heap t items)(hs:s.heap.IsSliceOf sl vl vu .none)(pl:IsPart vl lo)(pu:IsPart vu hi)
  (hw:¬ (sIx items.size 0 lo=0/\sIx items.size items.size hi=items.size))
  (h:Q (.ref s.heap.objs.size) { s with heap:=s.heap.push { cls:=.type "tuple",data:=.seq ((items.toList.drop (sIx items.size 0 lo)).take (sIx items.size items.size hi-sIx items.size 0 lo)).toArray } })
  (hsz:items.size<=sizeLine):wpAny (model prog w) A (getItem (.ref t) (.ref sl)) Q E s:=by
 have htake:sizeOk (.seq ((items.toList.drop (sIx items.size 0 lo)).take (sIx items.size items.size hi-sIx items.size 0 lo)).toArray):=by
  show ((items.toList.drop (sIx items.size 0 lo)).take (sIx items.size items.size hi-sIx items.size 0 lo)).toArray.size<=sizeLine;rw [yai,yaI,yca,yay];omega
 have hj:sIx items.size items.size hi<=items.size:=zrX _ _ (yah _) hi;obtain ⟨os,hos,hcs,hds⟩:=id hs;have hTs:s.TypeIs (.ref sl) "slice":=⟨os,hos,hcs⟩;unfold getItem
 try with_reducible refine yaW ?_
 first | refine yaa (yad ?_) | skip
 refine yaa (wpAny_sequenceKey ht.typeIs (by decide) ?_)
 refine yaa (yaX (name:=Str.ofString "__getitem__") ht.typeIs yaV
  (yaY yaV ht.typeIs entry_tuple_getitem ?_ (args_tuple_getitem _ _)))
 show wpAny _ _ (Builtin.Tuple.tupleItemsOf (.ref t) >>= _) _ _ s;refine yaa (tupleItemsOf_ ht ?_);refine yaa (ybZ hTs ?_);rw [if_pos (by decide)];refine yaa (zct hs pl pu ?_)
 have hno:¬ ((((sIx items.size 0 lo:Nat):Int) == 0&&(1:Int) == 1&&(sIx items.size items.size hi-sIx items.size 0 lo) == items.size)=true):=by
  intro q;rw [yab,yab] at q;have q1:((sIx items.size 0 lo:Nat):Int)=0:=eq_of_beq q.1.1;have q2:sIx items.size items.size hi-sIx items.size 0 lo=items.size:=eq_of_beq q.2;exact hw ⟨by omega,by omega⟩
 show wpAny _ _ (if (((sIx items.size 0 lo:Nat):Int) == 0&&(1:Int) == 1&&(sIx items.size items.size hi-sIx items.size 0 lo) == items.size)=true then _ else _) _ _ s;rw [if_neg hno,zmE]
 first
  | exact yaa (m:=Builtin.Tuple.tupleExact _) (yaZ (yad ⟨_,rfl,yad h⟩) htake)
  | exact yaa (m:=Builtin.Tuple.tupleExact _) (yaZ (yaa (yad (yad ⟨_,rfl,yad h⟩))) htake)
  | exact yaa (yaa (m:=Builtin.Tuple.tupleExact _) (yaZ (yad (yad ⟨_,rfl,yad h⟩)) htake))
  | exact yaa (yaa (m:=Builtin.Tuple.tupleExact _) (yaZ (yad ⟨_,rfl,yad h⟩) htake))
end
end HT
namespace L2
open PySem PySem.Spec PyProof.Rows
noncomputable abbrev TO:=St->Hp->(Option Int->Hp->Prop)->Prop
noncomputable def PO(X:Cx)(e:Option Expr)(t:TO):Prop :=
 ∀(pins:Z3) (s:Shared) (σ:St) (H:Hp) (Q:Option Int->Hp->Prop),Inv X pins σ H s->t σ H Q →
  wpAny (model X.prog X.w) X.A (evalPart e X.env) (fun u s'=>∃o H',Inv X pins σ H' s'/\IsPart u o/\Q o H') X.xe s
noncomputable def zkc:TO:=fun _ H Q=>Q none H
noncomputable def zri(t:TE):TO:=fun σ H Q=>t σ H fun x H1=>∃i,x=.int i/\Q (some i) H1
section
variable{X:Cx}{e:Expr}{te:TE}{lo hi:Option Expr}{tl th:TO}{pos p2:Pos}
def zpG:PO X none zkc:=by
 intro pins s σ H Q I h;rw [evalPart_none];exact yad ⟨none,H,I,.none,h⟩
def zpF(h:PE X e te):PO X (some e) (zri te):=by
 intro pins s σ H Q I hw;rw [evalPart_some];refine thn (h pins s σ H _ I hw) fun u s1 ⟨x,H1,I1,r1,q1⟩=>?_
 obtain ⟨i,rfl,q⟩:=q1;obtain ⟨t,rfl⟩:=r1;exact ⟨some i,H1,I1,.int i t,q⟩
noncomputable def SlR(X:Cx)(r:V->Option Int->Option Int->Hp->VK->Prop):Prop :=
 ∀(pins:Z3) (s:Shared) (σ:St) (H:Hp) (x:V) (v vl vu:Value) (lo hi:Option Int) (sl:Addr) (Q:VK),Inv X pins σ H s->zaL x v->s.heap.IsSliceOf sl vl vu .none->IsPart vl lo->IsPart vu hi->r x lo hi H Q →
  ∃T id,typeLookup (.type T) "__getitem__" = pure (some (.builtin id))/\s.TypeIs v T/\wpAny (model X.prog X.w) X.A (getItem v (.ref sl)) (EP X pins σ Q) X.xe s
noncomputable def tSl(r:V->Option Int->Option Int->Hp->VK->Prop)(te:TE)(tl th:TO):TE:=fun σ H Q=>te σ H fun x H1=>tl σ H1 fun l H2=>th σ H2 fun u H3=>r x l u H3 Q
def zmG(hr:SlR X r)(he:PE X e te)(hl:PO X lo tl)(hu:PO X hi th):PE X (.Subscript e (.Slice lo hi none p2) pos) (tSl r te tl th):=by
 intro pins s σ H Q I h;refine Subscript_ (thn (he pins s σ H _ I h) fun v s1 ⟨x,H1,I1,r1,q1⟩=>?_);refine wpAny_Slice (thn (hl pins s1 σ H1 _ I1 q1) fun vl s2 ⟨l,H2,I2,pl,q2⟩=>thn (hu pins s2 σ H2 _ I2 q2) fun vu s3 ⟨u,H3,I3,pu,q3⟩=>?_);rw [evalPart_none];refine yad ?_;have I4:Inv X pins σ H3 { s3 with heap:=s3.heap.push { cls:=.type "slice",data:=.fields #[vl,vu,.none] } }:=I3.kept (t':=s3.toks) fun b ob q=>yaf _ q
 obtain ⟨T,id,hT,ht,hg⟩:=hr pins { s3 with heap:=s3.heap.push { cls:=.type "slice",data:=.fields #[vl,vu,.none] } } σ H3 x v vl vu l u s3.heap.objs.size Q I4 r1 (Heap.IsSliceOf.new ..) pl pu q3;show wpAny (model X.prog X.w) X.A (subscriptTail e (.Slice lo hi none p2) v (.ref s3.heap.objs.size)) (EP X pins σ Q) X.xe { s3 with heap:=s3.heap.push { cls:=.type "slice",data:=.fields #[vl,vu,.none] } };exact tail_any (ops:=[.ref s3.heap.objs.size,v]) ht hT hg (by with_unfolding_all rfl)
def zou(xs:List V)(lo hi:Option Int):List V:=(xs.drop (HT.sIx xs.length 0 lo)).take (HT.sIx xs.length xs.length hi-HT.sIx xs.length 0 lo)
theorem zeO(xs:List V)(lo hi:Option Int):(zou xs lo hi).length<=xs.length:=by
 unfold zou;rw [yaI,yca];omega
noncomputable def zxN(K:PySem.W.Frag):V->Option Int->Option Int->Hp->VK->Prop:=fun x lo hi H Q=>∃a xs,x=.ref a/\SqT K H a xs ∧
 ¬ (HT.sIx xs.length 0 lo=0/\HT.sIx xs.length xs.length hi=xs.length)/\∀p,H p=none->Q (.ref p) (upd H p (.tup (zou xs lo hi)))
def zrE:SlR X (zxN X.K):=by
 intro pins s σ H x v vl vu lo hi sl Q I rx hs pl pu h;obtain ⟨a,xs,rfl,hx,hw,q⟩:=h;cases rx;obtain ⟨its,r,ht,hz⟩:=I.tuple hx
 have hlen:its.toArray.size=xs.length:=by rw [yai];exact r.length.symm
 refine ⟨"tuple",_,yaV.lookup,ht.typeIs,?_⟩;refine HT.zdS ht hs pl pu (by rw [hlen];exact hw) ?_ (by rw [hlen];exact hz);rw [hlen];refine ⟨.ref s.heap.objs.size,_,I.laid (t':=s.toks) (o:=.tup (zou xs lo hi)) (fun b ob q=>yaf _ q) (yah _) ?_,rfl,q _ (I.hok.fresh (yah _))⟩;exact ⟨yam (zeO xs lo hi) hz,_,(r.drop (HT.sIx xs.length 0 lo)).take (HT.sIx xs.length xs.length hi-HT.sIx xs.length 0 lo),zoA.new _ _⟩
noncomputable def zuO(K:PySem.W.Frag):R2:=fun x y H Q=>∃a b xs ys,x=.ref a/\y=.ref b/\SqT K H a xs/\SqT K H b ys/\xs≠[]/\xs.length+ys.length<=sizeLine ∧
 (ys=[]->Q (.ref a) H)/\(ys≠[]->∀p,H p=none->Q (.ref p) (upd H p (.tup (xs++ys))))
def Vals.nil_iff(r:Vals xs us):us=[]↔xs=[]:=by
 cases r with
 | nil=>simp
 | cons _ _=>simp
def zpW:OpR X (binaryOp .Add) (zuO X.K):=by
 intro pins s σ H x y v u Q I rx ry h;obtain ⟨a,b,xs,ys,rfl,rfl,ha,hb,hx,hz,q1,q2⟩:=h;cases rx;cases ry;obtain ⟨its,r1,p1,_⟩:=I.tuple ha;obtain ⟨its2,r2,p2,_⟩:=I.tuple hb;refine HT.zqN p1 p2 (fun z=>hx (r1.nil_iff.mp z)) (fun z=>⟨.ref a,H,I,rfl,q1 (r2.nil_iff.mp z)⟩) (fun z=>?_) (by rw [<-r1.length,<-r2.length];exact hz);refine ⟨.ref s.heap.objs.size,_,I.laid (t':=s.toks) (o:=.tup (xs++ys)) (fun b ob q=>yaf _ q) (yah _) ?_,rfl,q2 (fun w=>z (r2.nil_iff.mpr w)) _ (I.hok.fresh (yah _))⟩;exact ⟨by rw [yar];exact hz,_,r1.append r2,zoA.new _ _⟩
end
noncomputable def ixN(n:Nat)(i:Int):Option Nat:=if 0<=i then (if i<n then some i.toNat else none) else if -(n:Int)<=i then some (i+n).toNat else none
def atI{α:Type}(xs:List α)(i:Int):Option α:=(ixN xs.length i).bind fun j=>xs[j]?
theorem zql(h:ixN n i=some j):seqIndex? i n=some j/\j<n/\-(n:Int)<=i/\i<n:=by
 unfold ixN at h
 by_cases h0:0<=i
 ·rw [if_pos h0] at h
  by_cases h1:i<n
  ·rw [if_pos h1] at h;have e:i.toNat=j:=Option.some.inj h;exact ⟨by rw [seqIndex_of h0 h1,e],by omega,by omega,h1⟩
  ·rw [if_neg h1] at h;cases h
 ·rw [if_neg h0] at h
  by_cases h1:-(n:Int)<=i
  ·rw [if_pos h1] at h;have e:(i+n).toNat=j:=Option.some.inj h;exact ⟨by rw [seqIndex_neg (by omega) h1,e],by omega,h1,by omega⟩
  ·rw [if_neg h1] at h;cases h
def zl1{α:Type}{xs:List α}{v:α}(h:atI xs i=some v):∃j,seqIndex? i xs.length=some j/\xs[j]?=some v/\j<xs.length/\-(xs.length:Int)<=i/\i<xs.length:=by
 unfold atI at h
 cases e:ixN xs.length i with
 | none=>rw [e] at h;cases h
 | some j =>
  rw [e] at h;obtain ⟨h1,h2,h3,h4⟩:=zql e;exact ⟨j,h1,h,h2,h3,h4⟩
noncomputable def zhQ(b:Expr):Prop:=∀o i,subscripted b false o i=operate [o,i] (getItem o i)
noncomputable def IxR(X:Cx)(r:R2):Prop :=
 ∀(value slice:Expr) (pins:Z3) (s:Shared) (σ:St) (H:Hp) (x y:V) (v u:Value) (Q:VK),Inv X pins σ H s->zaL x v->zaL y u->r x y H Q →
  subscripted slice false v u=operate [v,u] (getItem v u)->wpAny (model X.prog X.w) X.A (subscriptTail value slice v u) (EP X pins σ Q) X.xe s
noncomputable def MtR(X:Cx)(id:String)(r:V->List V->Hp->VK->Prop):Prop :=
 ∀(pins:Z3) (s:Shared) (σ:St) (H:Hp) (x:V) (xs:List V) (v:Value) (us:List Value) (Q:VK),Inv X pins σ H s->zaL x v->Vals xs us->r x xs H Q →
  wpAny (model X.prog X.w) X.A (call (.builtin id) (v::us)) (EP X pins σ Q) X.xe s
section
variable{X:Cx}{a b:Expr}{ta tb:TE}{pos:Pos}
def zuT(hr:IxR X r)(ha:PE X a ta)(hb:PE X b tb)(hs:zhQ b):PE X (.Subscript a b pos) (tOp r ta tb):=by
 intro pins s σ H Q I h;exact Subscript_ (zvE ha hb I h fun v u s2 x y H2 I2 rx ry q=>hr a b pins s2 σ H2 x y v u Q I2 rx ry q (hs _ _))
noncomputable def zxS(K:PySem.W.Frag):R2:=fun x y H Q=>∃p xs i v,x=.ref p/\y=.int i/\SqL K H p xs/\atI xs i=some v/\Q v H
noncomputable def zxR(K:PySem.W.Frag):R2:=fun x y H Q=>∃p xs i v,x=.ref p/\y=.int i/\SqT K H p xs/\atI xs i=some v/\Q v H
theorem zlm:IxR X (zxS X.K):=by
 intro value slice pins s σ H x y v u Q I rx ry h hs;obtain ⟨p,xs,i,z,rfl,rfl,hq,he,q⟩:=h;cases rx;obtain ⟨t,rfl⟩:=ry;obtain ⟨its,r,pl,hz⟩:=I.list hq;obtain ⟨j,h1,h2,h3,h4,h5⟩:=zl1 he;obtain ⟨w,ew,rw'⟩:=r.get h2;have hl:=r.length;have hn:=ziA;have fin:EP X pins σ Q w s:=⟨z,H,I,rw',q⟩
 by_cases h0:0<=i
 ·have hj:i.toNat=j:=by
   rw [seqIndex_of h0 h5] at h1;exact Option.some.inj h1
  exact item_listR pl.isList h0 (by omega) (by rw [hj];simpa using ew) fin hs
 ·have hj:(i+(its.toArray.size:Int)).toNat=j:=by
   rw [seqIndex_neg (by omega) h4] at h1;rw [yai,<-hl];exact Option.some.inj h1
  exact subscriptTail_builtinR (x:=w) pl.isList.typeIs slot_list_getitem.lookup
   (wpAny_getItem_list_neg (Q:=fun r s'=>r=w/\EP X pins σ Q r s') pl.isList (by omega) (by rw [yai]<;>omega) (by omega) (by rw [hj];simpa using ew) ⟨rfl,fin⟩) hs
theorem ztd:IxR X (zxR X.K):=by
 intro value slice pins s σ H x y v u Q I rx ry h hs;obtain ⟨p,xs,i,z,rfl,rfl,hq,he,q⟩:=h;cases rx;obtain ⟨t,rfl⟩:=ry;obtain ⟨its,r,pl,hz⟩:=I.tuple hq;obtain ⟨j,h1,h2,h3,h4,h5⟩:=zl1 he;obtain ⟨w,ew,rw'⟩:=r.get h2;have hl:=r.length;have hn:=ziA;have fin:EP X pins σ Q w s:=⟨z,H,I,rw',q⟩
 exact subscriptTail_builtinR (x:=w) pl.typeIs slot_tuple_getitem.lookup
  (getItem_tuple (j:=j) (Q:=fun r s'=>r=w/\EP X pins σ Q r s') pl (by omega) (by omega) (by rw [yai,<-hl];exact h1) (by simpa using ew) ⟨rfl,fin⟩) hs
theorem zgi(lo hi:Option Int)(n:Nat):(sliceBounds lo hi none n).1=((HT.sIx n 0 lo:Nat):Int)/\(sliceBounds lo hi none n).2.1=((HT.sIx n n hi:Nat):Int)/\(sliceBounds lo hi none n).2.2=1:=by
 refine ⟨?_,?_,rfl⟩
 ·cases lo with
  | none=>simp [sliceBounds,HT.sIx]
  | some i =>
   simp only [sliceBounds,HT.sIx,Option.getD_none,show (1:Int) > 0 by decide,ybU]
   by_cases h:i<0
   ·simp only [h,ybU]<;>omega
   ·simp only [h,ycN]<;>omega
 ·cases hi with
  | none=>simp [sliceBounds,HT.sIx]
  | some i =>
   simp only [sliceBounds,HT.sIx,Option.getD_none,show (1:Int) > 0 by decide,ybU]
   by_cases h:i<0
   ·simp only [h,ybU]<;>omega
   ·simp only [h,ycN]<;>omega
def zfv(its:List Value)(lo hi:Option Int):slicePick its.toArray lo hi none=((its.drop (HT.sIx its.length 0 lo)).take (HT.sIx its.length its.length hi-HT.sIx its.length 0 lo)).toArray:=by
 obtain ⟨h1,h2,h3⟩:=zgi lo hi its.toArray.size;unfold slicePick;rw [h1,h2,h3]
 simp only [sliceRange_one,pick_run,yai]<;>rfl
noncomputable def zxO(K:PySem.W.Frag):V->Option Int->Option Int->Hp->VK->Prop:=fun x lo hi H Q=>∃a xs,x=.ref a/\SqL K H a xs/\∀p,H p=none->Q (.ref p) (upd H p (.lst (zou xs lo hi)))
theorem zpc:SlR X (zxO X.K):=by
 intro pins s σ H x v vl vu lo hi sl Q I rx hs pl pu h;obtain ⟨a,xs,rfl,hx,q⟩:=h;cases rx;obtain ⟨its,r,ht,hz⟩:=I.list hx;have hlen:=r.length;refine ⟨"list",_,slot_list_getitem.lookup,ht.isList.typeIs,?_⟩;refine wpAny_getItem_list_slice ht.isList hs pl pu .none (by simp) ?_ (by rw [yai]<;>omega);rw [zfv,<-hlen];refine ⟨.ref s.heap.objs.size,_,I.laid (t':=s.toks) (o:=.lst (zou xs lo hi)) (fun b ob q=>yaf _ q) (yah _) ?_,rfl,q _ (I.hok.fresh (yah _))⟩;exact ⟨yam (zeO xs lo hi) hz,_,0,(r.drop (HT.sIx xs.length 0 lo)).take (HT.sIx xs.length xs.length hi-HT.sIx xs.length 0 lo),yal _ rfl⟩
theorem zbY:zcv X (.builtin "len") (fun xs H Q=>∃p ys,xs=[.ref p]/\(SqL X.K H p ys\/SqT X.K H p ys)/\Q (.int ys.length) H):=by
 intro pins s σ H xs us Q I r h;obtain ⟨p,ys,rfl,hq,q⟩:=h;obtain ⟨u,rfl,rx⟩:=zej r;cases rx;have hn:=ziA
 rcases hq with hq | hq
 ·obtain ⟨its,r',pl,hz⟩:=I.list hq;have hlen:=r'.length;exact Calls.call_len_list pl.isList (by simp only [yai]<;>omega) ⟨.int ys.length,H,I.tok _,⟨s.toks+1,by rw [yai,hlen]⟩,q⟩
 ·obtain ⟨its,r',pl,hz⟩:=I.tuple hq;have hlen:=r'.length;exact len_tuple pl (by simp only [yai]<;>omega) ⟨.int ys.length,H,I.tok _,⟨s.toks+1,by rw [yai,hlen]⟩,q⟩
theorem zg2:zcv X (.builtin "len") (fun xs H Q=>∃z,xs=[.str z]/\z.length<=sizeLine/\Q (.int z.length) H):=by
 intro pins s σ H xs us Q I r h;obtain ⟨z,rfl,hz,q⟩:=h;obtain ⟨u,rfl,t,rfl⟩:=zej r;have hn:=ziA;exact len_str (by omega) ⟨.int z.length,H,I.tok _,⟨_,rfl⟩,q⟩
def zd7:zcv X (.type "list") (fun xs H Q=>∃p ys,xs=[.ref p]/\(SqL X.K H p ys\/SqT X.K H p ys)/\∀l,H l=none->Q (.ref l) (upd H l (.lst ys))):=by
 intro pins s σ H xs us Q I r h;obtain ⟨p,ys,rfl,hq,q⟩:=h;obtain ⟨u,rfl,rx⟩:=zej r;cases rx
 have fin:∀(its:List Value),Vals ys its->ys.length<=sizeLine->∀(h':Heap) (c':Nat),(∀b o',s.heap.get? b=some o'->h'.get? b=some o') →
   h'.get? s.heap.objs.size=some { cls:=.type "list",dict:=none,data:=.seq its.toArray c',slots:=#[] }->EP X pins σ Q (.ref s.heap.objs.size) { s with heap:=h' }:=fun its r' hz h' c' kp e =>
  ⟨.ref s.heap.objs.size,_,I.laid (t':=s.toks) kp (yah _) (show zaI X.prog X.w _ h' _ (.lst ys) from ⟨hz,its,c',r',e⟩),rfl,q _ (I.hok.fresh (yah _))⟩
 rcases hq with hq | hq
 ·obtain ⟨its,r',pl,hz⟩:=I.list hq;have hlen:=r'.length;obtain ⟨o,ho,hc,n,hd⟩:=pl.isList;exact call_list_seq p (.inl rfl) ho hc hd (fun h' c' kp e=>fin its r' hz h' c' kp e) (by simp only [yai]<;>omega)
 ·obtain ⟨its,r',pl,hz⟩:=I.tuple hq;have hlen:=r'.length;obtain ⟨o,ho,hc,n,hd⟩:=pl;exact call_list_seq p (.inr rfl) ho hc hd (fun h' c' kp e=>fin its r' hz h' c' kp e) (by simp only [yai]<;>omega)
theorem zdI:zcv X (.type "tuple") (fun xs H Q=>∃p ys,xs=[.ref p]/\((SqL X.K H p ys/\∀l,H l=none->Q (.ref l) (upd H l (.tup ys)))\/(SqT X.K H p ys/\Q (.ref p) H))):=by
 intro pins s σ H xs us Q I r h;obtain ⟨p,ys,rfl,h⟩:=h;obtain ⟨u,rfl,rx⟩:=zej r;cases rx
 rcases h with ⟨hq,q⟩ | ⟨hq,q⟩
 ·obtain ⟨its,r',pl,hz⟩:=I.list hq;have hlen:=r'.length;refine call_tuple_list pl.isList (fun h' kp=>?_) (by simp only [yai]<;>omega);have I1:Inv X pins σ H { s with heap:=h' }:=I.kept (t':=s.toks) kp
  have I2:Inv X pins σ (upd H h'.objs.size (.tup ys)) { s with heap:=h'.push { cls:=.type "tuple",data:=.seq its.toArray } } :=
   I1.laid (t':=s.toks) (fun b o e=>yaf _ e) (yah _) (show zaI X.prog X.w _ _ _ (.tup ys) from ⟨hz,its,r',zoA.new _ _⟩)
  exact ⟨.ref h'.objs.size,_,I2,rfl,q _ (I1.hok.fresh (yah _))⟩
 ·obtain ⟨its,r',pl,hz⟩:=I.tuple hq;exact call_tuple_same pl ⟨.ref p,H,I,rfl,q⟩
noncomputable def tyV(K:PySem.W.Frag)(T:String)(x:V)(H:Hp):Prop:=match x with
 | .str _=>T = "str"
 | .int _=>T = "int"
 | .ref p=>(T = "list" /\ ∃xs,SqL K H p xs)\/(T = "tuple" /\ ∃o,K.lookup p=some o/\o.cls=.type "tuple" /\ o.dict=none) ∨
   (T = "dict" /\ ((∃kvs,H p=some (.dK kvs))\/∃kvs,H p=some (.dT kvs)))\/(T = "set" /\ ∃S n,H p=some (.set S n))
 | _=>False
def znN(I:Inv X pins σ H s)(r:zaL x v)(ty:tyV X.K T x H) :
  s.TypeIs v T/\∀a,v=.ref a->∃ob,s.heap.get? a=some ob/\ob.dict=none:=by
 cases x with
 | str z =>
  obtain ⟨t,rfl⟩:=r;cases (show T = "str" from ty);exact ⟨typeIs_str s z t,fun _ e=>nomatch e⟩
 | int i =>
  obtain ⟨t,rfl⟩:=r;cases (show T = "int" from ty);exact ⟨typeIs_int s i t,fun _ e=>nomatch e⟩
 | ref p =>
  cases r
  rcases ty with ⟨rfl,xs,hq⟩ | ⟨rfl,o,hk,hc,hd⟩ | ⟨rfl,hk⟩ | ⟨rfl,S,n,hk⟩
  ·obtain ⟨its,_,pl,_⟩:=I.list hq;refine ⟨pl.isList.typeIs,fun a e=>?_⟩;cases e;obtain ⟨o,n,e,c,hd,_⟩:=pl;exact ⟨o,e,hd⟩
  ·refine ⟨⟨o,I.kIn p o hk,hc⟩,fun a e=>?_⟩;cases e;exact ⟨o,I.kIn _ o hk,hd⟩
  ·have z:∃o,s.heap.get? p=some o/\o.ExactDict:=by
    rcases hk with ⟨kvs,hk⟩ | ⟨kvs,hk⟩
    ·obtain ⟨_,_,_,_,o,_,_,e,ex,_⟩:=I.hok p _ hk;exact ⟨o,e,ex⟩
    ·obtain ⟨_,_,_,_,o,_,_,e,ex,_⟩:=I.hok p _ hk;exact ⟨o,e,ex⟩
   obtain ⟨o,e,ex⟩:=z;refine ⟨⟨o,e,ex.1⟩,fun a e2=>?_⟩;cases e2;exact ⟨o,e,ex.2.1⟩
  ·obtain ⟨o,_,_,_,e,ex,_⟩:=I.hok p _ hk;refine ⟨⟨o,e,ex.1⟩,fun a e2=>?_⟩;cases e2;exact ⟨o,e,ex.2.1⟩
 | _=>exact False.elim ty
noncomputable def zxL(K:PySem.W.Frag)(T:String)(r:V->List V->Hp->VK->Prop)(to:TE):TE:=fun σ H Q=>to σ H fun x H1=>tyV K T x H1/\r x [] H1 Q
noncomputable def tBM(K:PySem.W.Frag)(T:String)(r:V->List V->Hp->VK->Prop)(to:TE)(t:TA):TE:=fun σ H Q=>to σ H fun x H1=>tyV K T x H1/\t σ H1 fun xs H2=>r x xs H2 Q
variable{o e:Expr}{es:List Expr}{to:TE}{t:TA}{name:Str}{apos cpos:Pos}{T id:String}{r:V->List V->Hp->VK->Prop}
def zst(pa:PlainAttrs T)(slot:Slot T name id)(hty:typeOf (.builtin id)=pure (.type "method_descriptor"))(hm:MtR X id r)(ho:PE X o to)
  (hbase:autoParam (attributeBase o name X.env (eval o X.env)=eval o X.env) yAW) (hline:autoParam ((apos.endLine == cpos.line)=true) yAW):PE X (.Call (.Attribute o name apos) [] [] cpos) (zxL X.K T r to):=by
 intro pins s σ H Q I h;refine wpAny_Call_method0_late hbase hline (thn (ho pins s σ H _ I h) fun v s1 ⟨x,H1,I1,r1,ty,q1⟩=>?_);obtain ⟨h1,h2⟩:=znN I1 r1 ty;exact ⟨T,id,pa,slot,hty,h1,h2,ybV rfl (PySem.evalArgs_none (hm pins s1 σ H1 x [] v [] Q I1 r1 .nil q1))⟩
def zjm(pa:PlainAttrs T)(slot:Slot T name id)(hty:typeOf (.builtin id)=pure (.type "method_descriptor"))(hm:MtR X id r)(ho:PE X o to)(ha:PA X (e::es) t)
  (hbase:autoParam (attributeBase o name X.env (eval o X.env)=eval o X.env) yAW)
  (hfew:autoParam (((backTo cpos (starEach (e::es) X.env)).all (fun x=>!x.1)&&(backToKw cpos (keywordEach [] X.env)).all (fun x=>x.1.isSome)
   && decide ((e::es).length+([]:List Keyword).length+(if ([]:List Keyword).isEmpty then 0 else 1)<30))=true) yAW)
  (hline:autoParam ((apos.endLine == cpos.line)=true) yAW) (hs:autoParam (starEach (e::es) X.env=(false,eval e X.env)::starEach es X.env) yAW) (hplain:autoParam ((backTo cpos (starEach es X.env)).any (·.1)=false) yAW) :
  PE X (.Call (.Attribute o name apos) (e::es) [] cpos) (tBM X.K T r to t):=by
 intro pins s σ H Q I h;refine wpAny_Call_method_late hbase hfew hline rfl (thn (ho pins s σ H _ I h) fun v s1 ⟨x,H1,I1,r1,ty,q1⟩=>?_);obtain ⟨h1,h2⟩:=znN I1 r1 ty;refine ⟨T,id,pa,slot,hty,h1,h2,?_⟩;have hA:=ha cpos pins s1 σ H1 _ I1 q1;rw [hs] at hA ⊢;refine ybV (by show (false||(backTo cpos (starEach es X.env)).any (·.1))=false;rw [hplain]<;>rfl) (yb7 ?_);exact thn hA fun us s2 ⟨vs,H2,I2,r2,q2⟩=>hm pins s2 σ H2 x vs v us Q I2 r1 r2 q2
end
noncomputable def MtM(X:Cx)(id:String)(r:V->List V->Hp->VK->Prop):Prop :=
 ∀(pins:Z3) (s:Shared) (σ:St) (H:Hp) (x:V) (xs:List V) (v:Value) (us:List Value) (Q:VK),Inv X pins σ H s->zaL x v->Vals xs us->r x xs H Q →
  wpAny (model X.prog X.w) X.A (call (.builtin id) (v::us)) (EP X pins σ Q) X.xe s
theorem Vals.one:∀{x:V} {us:List Value},Vals [x] us->∃u,us=[u]/\zaL x u
 | _,_,.cons r .nil=>⟨_,rfl,r⟩
theorem Vals.zero:∀{us:List Value},Vals [] us->us=[]
 | _,.nil=>rfl
theorem Vals.dropLast{xs:List V}{us:List Value}(h:Vals xs us):Vals xs.dropLast us.dropLast:=by
 induction h with
 | nil=>exact .nil
 | cons r t ih =>
  cases t with
  | nil=>exact .nil
  | cons q t'=>exact .cons r ih
theorem Vals.rep(h:Vals xs us):∀k:Nat,Vals (List.replicate k xs).flatten (List.replicate k us).flatten
 | 0=>.nil
 | k+1=>by
  rw [ybo,ybo,ybN,ybN];exact Vals.append h (Vals.rep h k)
def zjz{α:Type}(l:List α):l.eraseIdx (l.length-1)=l.dropLast:=by
 induction l with
 | nil=>rfl
 | cons a r ih =>
  cases r with
  | nil=>rfl
  | cons b r =>
   have e:(a::b::r).length-1=((b::r).length-1)+1:=by
    have h1:(a::b::r).length=r.length+2:=rfl;have h2:(b::r).length=r.length+1:=rfl;omega
   rw [e,List.eraseIdx_cons_succ,ih]
   all_goals rfl
theorem zgM(its:List Value):∀(k:Nat) (acc:List Value),
  List.foldl (fun x1 x2=>x1++x2) acc.toArray (List.replicate k its.toArray)=(acc++(List.replicate k its).flatten).toArray
 | 0,acc=>by simp
 | k+1,acc=>by
  have e:acc.toArray++its.toArray=(acc++its).toArray:=by simp
  have e2:(acc++its)++(List.replicate k its).flatten=acc++(List.replicate (k+1) its).flatten:=by
   rw [ybo,ybN,yb3]
  rw [<-e2,<-zgM its k (acc++its),<-e,ybo,yck]
section
variable{X:Cx}{pins:Z3}{σ:St}{H:Hp}{s:Shared}{l b:Addr}{xs ys zs:List V}
def Inv.lset{its its':List Value}{n:Nat}{f:Array Value->Array Value}{t':Nat}(I:Inv X pins σ H s)(hH:H l=some (.lst xs))
  (e:s.heap.get? l=some { cls:=.type "list",data:=.seq its.toArray n }) (hf:f its.toArray=its'.toArray) (hv:Vals ys its') (hz:ys.length<=sizeLine) :
  Inv X pins σ (upd H l (.lst ys)) { s with heap:=s.heap.update l (Obj.mapSeq f),toks:=t' }:=by
 have q:=PySem.IsL.update e f;rw [hf] at q;refine I.write (x:=l) (e:=l) (by rw [hH];exact trivial) (.inl rfl) (fun b' u hb hu=>(Heap.get?_update_other s.heap (Obj.mapSeq f) (Ne.symm hb)).trans hu) ⟨_,q⟩ ?_;exact ⟨hz,its',_,hv,q⟩
def Inv.lnew(I:Inv X pins σ H s)(hv:Vals ys its)(hz:ys.length<=sizeLine) :
  Inv X pins σ (upd H s.heap.objs.size (.lst ys)) { s with heap:=s.heap.push { cls:=.type "list",data:=.seq its.toArray },toks:=t' } :=
 I.laid (fun _ _ q=>yaf _ q) (yah _) ⟨hz,its,0,hv,yal _ rfl⟩
theorem Inv.fresh(I:Inv X pins σ H s):H s.heap.objs.size=none:=I.hok.fresh (yah _)
def Inv.lstM(I:Inv X pins σ H s)(hH:H l=some (.lst xs)):xs.length<=sizeLine/\∃(its:List Value) (n:Nat),Vals xs its/\xs.length=its.length/\s.heap.get? l=some { cls:=.type "list",data:=.seq its.toArray n }:=by
 obtain ⟨z,its,n,r,e⟩:=I.hok l _ hH;exact ⟨z,its,n,r,r.length,e⟩
theorem ziw(h:n<=sizeLine):Builtin.List.listTooLong n=false:=by
 unfold Builtin.List.listTooLong;exact ybc (by omega)
end
section
variable{X:Cx}
noncomputable def zkK:V->List V->Hp->VK->Prop:=fun x vs H Q=>∃l xs y,x=.ref l/\vs=[y]/\H l=some (.lst xs)/\xs.length<sizeLine/\Q .non (upd H l (.lst (xs++[y])))
theorem zdx:MtM X "list.append" zkK:=by
 intro pins s σ H x vs v us Q I rx rv h;obtain ⟨l,xs,y,rfl,rfl,hH,hz,q⟩:=h;cases rx;obtain ⟨u,rfl,ru⟩:=rv.one;obtain ⟨z,its,n,r,hl,e⟩:=I.lstM hH;refine ycP F.slot_list_append ⟨_,e,rfl⟩ F.entry_list_append (F.args_list_append_2 _ _) (PySem.list_append l its.toArray n u (by rw [yai];omega)) ⟨e,?_⟩;refine ⟨.non,_,I.lset (its':=its++[u]) hH e (by simp) (r.append (.cons ru .nil)) ?_,rfl,q⟩;rw [yar,List.length_singleton];omega
noncomputable def zxQ:V->List V->Hp->VK->Prop:=fun x vs H Q=>∃l xs y,x=.ref l/\vs=[]/\H l=some (.lst xs)/\xs[xs.length-1]?=some y/\Q y (upd H l (.lst xs.dropLast))
theorem zsV:MtM X "list.pop" zxQ:=by
 intro pins s σ H x vs v us Q I rx rv h;obtain ⟨l,xs,y,rfl,rfl,hH,hy,q⟩:=h;cases rx;have hus:=rv.zero;subst hus;obtain ⟨z,its,n,r,hl,e⟩:=I.lstM hH;obtain ⟨u,hu,ru⟩:=r.get hy
 have hy':its.toArray[its.toArray.size-1]?=some u:=by
  show its.toArray[its.length-1]?=some u;rw [<-yaM,<-hl];exact hu
 refine ycP F.slot_list_pop ⟨_,e,rfl⟩ F.entry_list_pop (F.args_list_pop_1 _) (MeetsSeq.list_pop_last l its.toArray n u hy' (by rw [yai];omega)) ⟨e,?_⟩;refine ⟨y,_,I.lset (its':=its.dropLast) hH e ?_ r.dropLast ?_,ru,q⟩
 ·show its.toArray.eraseIdxIfInBounds (its.toArray.size-1)=its.dropLast.toArray;rw [yai,List.eraseIdxIfInBounds_toArray,zjz]
 ·rw [List.length_dropLast];omega
noncomputable def zxT:R2:=fun x y H Q=>∃l b xs zs,x=.ref l/\y=.ref b/\H l=some (.lst xs)/\H b=some (.lst zs)/\xs.length+zs.length<=sizeLine/\∀p,H p=none->Q (.ref p) (upd H p (.lst (xs++zs)))
theorem zsD:OpR X (binaryOp .Add) zxT:=by
 intro pins s σ H x y v u Q I rx ry h;obtain ⟨l,b,xs,zs,rfl,rfl,hH,hB,hz,q⟩:=h;cases rx;cases ry;obtain ⟨z,its,n,r,hl,e⟩:=I.lstM hH;obtain ⟨z2,its2,n2,r2,hl2,e2⟩:=I.lstM hB;refine PySem.P.add_list e e2 ?_ (by rw [yai,yai];omega)
 have ea:its.toArray++its2.toArray=(its++its2).toArray:=by simp
 rw [ea];exact ⟨.ref _,_,I.lnew (t':=s.toks) (r.append r2) (by rw [yar];omega),rfl,q _ I.fresh⟩
noncomputable def zxP:R2:=fun x y H Q=>∃l k xs,x=.ref l/\y=.int k/\H l=some (.lst xs)/\-(2 ^ 63)<=k/\k<2 ^ 63/\xs.length*k.toNat<=sizeLine ∧
 ∀p,H p=none->Q (.ref p) (upd H p (.lst (List.replicate k.toNat xs).flatten))
def zp7{α:Type}(xs:List α)(k:Nat):(List.replicate k xs).flatten.length=k*xs.length:=by
 induction k with
 | zero=>simp
 | succ k ih=>rw [ybo,ybN,yar,ih,Nat.succ_mul,Nat.add_comm]
theorem zsy:OpR X (binaryOp .Mult) zxP:=by
 intro pins s σ H x y v u Q I rx ry h;obtain ⟨l,k,xs,rfl,rfl,hH,h1,h2,hz,q⟩:=h;cases rx;obtain ⟨t,rfl⟩:=ry;obtain ⟨z,its,n,r,hl,e⟩:=I.lstM hH
 have hlen:its.toArray.size*k.toNat<=sizeLine:=by rw [yai,<-hl];exact hz
 have hcap:¬ its.toArray.size*k.toNat > (2 ^ 63-1) / 8:=by
  have:(sizeLine:Nat)<=(2 ^ 63-1) / 8:=by decide
  omega
 have hfit:¬ (!Builtin.List.listFitsIndex k)=true:=by
  rw [fitsIndex_both h1 h2];exact yaP
 have hlong:¬ Builtin.List.listTooLong (its.toArray.size*k.toNat)=true:=by
  rw [ziw hlen];exact yaP
 have hnew:List.foldl (fun x1 x2=>x1++x2) #[] (List.replicate (if its.toArray.isEmpty=true then 0 else k.toNat) its.toArray)=(List.replicate k.toNat its).flatten.toArray:=by
  have f0:∀m:Nat,List.foldl (fun x1 x2=>x1++x2) #[] (List.replicate m its.toArray)=(List.replicate m its).flatten.toArray:=fun m=>by
   have:=zgM its m [];rwa [List.nil_append] at this
  rw [f0]
  cases its with
  | nil=>simp
  | cons a r'=>rw [if_neg (by simp)]
 refine wpAny_binaryOp_repeat_ref (T:="list") (U:="int") (by decide) ⟨_,e,rfl⟩ (fun s'=>typeIs_int s' k t) noFill_list_mul F.fills_int_mul F.slot_int_rmul repeat_list F.slot_int_index.lookup
  (ycP F.slot_int_rmul (typeIs_int s k t) F.entry_int_rmul (F.args_int_rmul_2 _ _) (int___rmul___int_list k t l its.toArray n)
   ⟨e,rfl,⟨_,e,rfl⟩,ycP F.slot_list_mul ⟨_,e,rfl⟩ F.entry_list_mul (F.args_list_mul_2 _ _) (AutoListH.list___mul___list_int_3 l its.toArray n k t hfit hcap hlong) ⟨e,?_⟩⟩)
 rw [hnew];exact ⟨.ref _,_,I.lnew (t':=s.toks) (r.rep k.toNat) (by rw [zp7,Nat.mul_comm];exact hz),rfl,q _ I.fresh⟩
end
end L2
namespace Att
open PySem PySem.W PySem.Calls PyProof.Rows
def zeA:∀(ns:List Int) (vs:List Value),WellAll P h vs (ns.map WData.int)->IntsAre vs ns:=by
 intro ns
 induction ns with
 | nil =>
  intro vs w;rw [List.map_nil] at w;cases w;exact .nil
 | cons n ns ih =>
  intro vs w;rw [yaz] at w
  cases w with
  | cons a b =>
   cases a;exact .cons _ _ (ih _ b)
theorem zkt{l:OpenLaw}(hn:l.most=some n){P:Params}{h:Heap}
  (hpre:l.row.toRowW.claim.pre args=true) (hwl:WellAll P h vals args) :
  ∃a vs ns,vals=[Value.ref a]/\args=[WData.list (ns.map WData.int)]/\h.get? a=some { cls:=.type "list",data:=.seq vs.toArray }/\IntsAre vs ns/\ns.length<=n:=by
 have hsh:WShape.hasAll [] args [.list .int]=true:=(pre_splitW hpre).1;have hc:l.pre.holds [] { args:=args }=true:=(pre_splitW hpre).2;obtain ⟨d,r,rfl,h1,h2⟩:=hasAllW_cons hsh;obtain rfl:=hasAllW_nil h2;obtain ⟨xs,rfl,h3⟩:=hasW_list h1;obtain ⟨ns,rfl⟩:=items_int h3
 have hlen:ns.length<=n:=by
  unfold OpenLaw.pre at hc
  have h4:(WTm.not (.lt (.lit (.int (n:Int))) (.len (.arg 0)))).holds [] { args:=[.list (ns.map .int)] }=true:=by
   have h4:=(holds_andW hc).1;rwa [hn] at h4
  have h5:=condW_of h4 (w_not (w_lt w_lit (w_len_list (w_arg rfl))));rw [yae] at h5;refine Nat.le_of_not_lt fun q=>?_
  have q':(n:Int)<((ns.length:Nat):Int):=by omega
  first
   | (rw [yaQ q'] at h5;exact absurd h5 (by decide))
   | (simp at h5;omega)
 cases hwl with
 | cons w1 w2 =>
  cases w2
  cases w1 with
  | list ho hall=>exact ⟨_,_,ns,rfl,rfl,ho,zeA ns _ hall,hlen⟩
def zkP(l:OpenLaw)(args:List WData):l.row.toRowW.claim.post args (.bool true) args=true :=
 postW_of (r:=l.row.toRowW) (X:=(true == true))
  (show WShape.has [] (.bool true) .bool=true by first | rfl | decide | simp [WShape.has,WShape.arms,WShape.armsAll])
  (show (WTm.eq .res (.lit (.bool true))).value [] { args:=args,res:=some (.bool true),after:=args }=some (.bool (true == true)) from w_eq_bool (w_res rfl) w_lit) rfl
def zhP{l:OpenLaw}{n:Nat}{q:Program}{loose:List Str}{XP:(Str->Option Value)->Heap->Prop}{YP:World->Heap->Prop}{d:DefRec}
  (hn:l.most=some n) (hdf:d.params.defaults=[])
  (call:∀(w:World) (s₀ s₁:Shared) (mg mb:Z6) (fa:Addr) (o:Obj) (pm cd doc:Value) (a:Addr) (vs:List Value) (ns:List Int),
   Ground q loose [] XP w s₀ mg mb s₁.heap->YP w s₁.heap →
   s₁.heap.get? fa=some o->o.data=.func (docDef d.name d.params d.body d.scope pm cd doc)->s₁.heap.CodeRec cd d.name->mg d.name=some (.ref fa) →
   s₁.heap.get? a=some { cls:=.type "list",data:=.seq vs.toArray }->IntsAre vs ns->ns.length<=n->s₁.gens=#[] →
   codeAny (model l.prog w) callerA (.call (.ref fa) ⟨[.ref a],[]⟩) (fun r s'=>r=.ok (.ret (.bool true))/\OldK s₁.heap s'.heap/\s'.os=s₁.os/\AllBare s'.gens) s₁) :
  WalkO q loose XP YP l.row.toRowW d [] (fun f vs=>PySem.call f vs):=by
 intro w s₀ s₁ mg mb G Y fa o pm cd doc dV kV ho hd hcd hD hmg hg args vals as hpre hlay hrd hwl hlo;obtain rfl:dV=.none:=Dflts.none hD hdf;obtain rfl:kV=.none:=Dflts.noKw hD;obtain ⟨a,vs,ns,rfl,rfl,hobj,hints,hlen⟩:=zkt hn hpre hwl;refine enter_call (ybK (call w s₀ s₁ mg mb fa o pm cd doc a vs ns G Y ho (fd_plain hd) hcd hmg hobj hints hlen hg) fun r s' hq=>?_);obtain ⟨rfl,h2,h3,h4⟩:=hq;exact ⟨.inl ⟨.bool true,.bool true,[],rfl,fun _=>rfl,.bool true,zkP l _,fun _=>⟨List.Pairwise.nil,fun _ hm=>(nomatch hm)⟩⟩,h2,h3,h4⟩
end Att
namespace L2
open PySem PySem.Spec PyProof.Rows
theorem zga:∀{vs:List Value} {ns:List Int},IntsAre vs ns->Vals (ns.map V.int) vs
 | _,_,.nil=>.nil
 | _,_,.cons n t h=>.cons ⟨t,rfl⟩ (zga h)
noncomputable def zbk(s:Stmt):Arguments:=match s with
 | .FunctionDef _ a _ _ _ _ _ _ _ _=>a
 | _=>{ posonlyargs:=[],args:=[],vararg:=none,kwonlyargs:=[],kw_defaults:=[],kwarg:=none,defaults:=[] }
noncomputable def zaM(s:Stmt):List Stmt:=match s with
 | .FunctionDef _ _ b _ _ _ _ _ _ _=>b
 | _=>[]
noncomputable def zad(s:Stmt):Scope:=match s with
 | .FunctionDef _ _ _ _ _ _ sc _ _ _=>sc
 | _=>{ kind:=.function,names:=[],isGenerator:=false,isCoroutine:=false }
structure Fun(K:PySem.W.Frag)(x qual:Str)(st:Stmt)(f:Addr)(fd:FuncData):Prop where
 ex:∃(oc:Value) (od:Option Addr) (kV doc pm:Value) (an:Option Addr) (cdv ct:Value) (osl:Array (Option Value)),
  fd=PySem.W.fnOf x qual (zbk st) (zaM st) (zad st) .none kV doc pm an cdv ct/\K.lookup f=some ⟨oc,od,.func fd,osl⟩/\PySem.W.codeIn K cdv qual=true
 kp:PySem.W.keepIn K (.ref f)=true
section
variable{P:Program}{w:World}{K:PySem.W.Frag}{mg:Z6}{base:Heap}
def Fun.binds{x qual:Str}{st:Stmt}{f:Addr}{fd:FuncData}{ps:List Str}(F:Fun K x qual st f fd)
  (h:∀(kV doc pm:Value) (an:Option Addr) (cdv ct:Value) (us:List Value),us.length=ps.length->bindArgs (PySem.W.fnOf x qual (zbk st) (zaM st) (zad st) .none kV doc pm an cdv ct) ⟨us,[]⟩=pure (ps.zip us)):zcs K fd ps []:=by
 obtain ⟨oc,od,kV,doc,pm,an,cdv,ct,osl,rfl,lk,hcd⟩:=F.ex;exact .all (h kV doc pm an cdv ct)
def zom{x qual:Str}{st:Stmt}{f:Addr}{oc:Value}{od an:Option Addr}{osl:Array (Option Value)}{kV doc pm cdv ct:Value}(l:K.lookup f=some ⟨oc,od,.func (PySem.W.fnOf x qual (zbk st) (zaM st) (zad st) .none kV doc pm an cdv ct),osl⟩)
  (c:PySem.W.codeIn K cdv qual=true) (k:PySem.W.keepIn K (.ref f)=true):Fun K x qual st f (PySem.W.fnOf x qual (zbk st) (zaM st) (zad st) .none kV doc pm an cdv ct):=⟨⟨oc,od,kV,doc,pm,an,cdv,ct,osl,rfl,l,c⟩,k⟩
end
def zoi{A B:Prop}(h:B):if false=true then A else B:=by
 rw [if_neg yaP];exact h
def zoh{A B:Prop}(h:A):if true=true then A else B:=by
 rw [if_pos rfl];exact h
noncomputable def Its(x:Str):It:=⟨fun i _=>i<x.cps.size,fun i H v H'=>H'=H/\∃c,x.cps[i]?=some c/\v=.str ⟨#[c]⟩,fun i _=>i=x.cps.size⟩
def zhV{P:Program}{w:World}{K:PySem.W.Frag}{tg:Expr}(it:Addr)(x:Str)(t:Tok)(ty:String)(ht:["enumerate","zip","dict_itemiterator","dict_reverseitemiterator","odict_iterator","itertools.zip_longest","itertools.pairwise"].contains ty=false)
  (W:∀A:Around,A.handled=none->Walks P w A it [it] [it] x.cps.size (SignAt x) (fun i h=>h.IsStrIter it ty x t i))
  (Ws:∀(A:Around) (i:Nat) (s:Shared) (Q:Z5) (E:Z5),s.heap.IsStrIter it ty x t i->Q (.ref it) s->wpAny (model P w) A (pyIter (.ref it)) Q E s):Turn P w K tg (Its x) [it] it (fun i h=>h.IsStrIter it ty x t i) where
 mem:=by simp
 obj:=fun i h st b hb=>by
  have e:b=it:=by simpa using hb
  subst e;obtain ⟨o,e,c,d⟩:=st;exact ⟨o,e,fun v z=>by rw [d] at z;cases z⟩
 keep:=fun i h h' st k=>by
  obtain ⟨o,e,r⟩:=st;exact ⟨o,k it (by simp) o e,r⟩
 item:=by
  intro X hP hw hK hc i pins s σ H E I hf st hg;subst hP hw hK;obtain ⟨f0,f1,f2,f3,f4,f5⟩:=hf it (by simp);refine (W X.A (I.ok.hd hc)).item i s _ _ hg st fun v h' tk hv st' kk=>?_
  obtain ⟨c,u,hx,rfl⟩:=hv;have I1:Inv X pins σ H { s with heap:=h',toks:=tk }:=I.turned (fun b o hb e=>kk b o (by simpa using hb) e) f0 f1 f3 f4 f5;obtain ⟨o,e,c',d⟩:=id st';exact ⟨_,rfl,zlx (s:={ s with heap:=h',toks:=tk }) e c' d ht ⟨.str ⟨#[c]⟩,H,I1,⟨u,rfl⟩,⟨rfl,c,hx,rfl⟩,st',fun b hb=>(hf b hb).1⟩⟩
 done:=by
  intro X hP hw hK hc i pins s σ H E I hf st hg;subst hP hw hK;obtain ⟨f0,f1,f2,f3,f4,f5⟩:=hf it (by simp);have hi:i=x.cps.size:=hg;subst hi;exact (W X.A (I.ok.hd hc)).done s _ _ st fun h' tk kk=>⟨rfl,I.turned (fun b o hb e=>kk b o (by simpa using hb) e) f0 f1 f3 f4 f5⟩
 self:=fun A i s Q E st h=>Ws A i s Q E st h
noncomputable def zyr(tl:TE):TI:=fun σ H R=>tl σ H fun v H1=>∃x,v=.str x/\R (Its x) H1
def zsl{X:Cx}{tg l:Expr}{tl:TE}(hl:PE X l tl):PI X tg l (zyr tl):=by
 intro pins s σ H R I h;refine thn (hl pins s σ H _ I h) fun v s1 ⟨x,H1,I1,r1,q1⟩=>?_
 obtain ⟨z,e,q⟩:=q1;subst e;obtain ⟨t,rfl⟩:=r1
 have fp:∀b∈[s1.heap.objs.size],zl7 X pins H1 b:=fun b hb=>by
  have e:b=s1.heap.objs.size:=by simpa using hb
  subst e;exact I1.fpOk (yah _) (I1.hok.fresh (yah _))
 cases ha:z.cps.all (·<128)
 ·exact wpAny_pyIter_wide ha ⟨s1.heap.objs.size,[s1.heap.objs.size],_,_,H1,rfl,I1.kept (t':=s1.toks) fun b o e=>yaf _ e,zhV _ z t "str_iterator" (by decide) (fun A hA=>Walks.strWide hA _ z t) (fun A i s Q E st h=>wpAny_pyIter_striter_wide st h),⟨_,yal _ rfl,rfl,rfl⟩,fp,q⟩
 ·exact wpAny_pyIter_ascii ha ⟨s1.heap.objs.size,[s1.heap.objs.size],_,_,H1,rfl,I1.kept (t':=s1.toks) fun b o e=>yaf _ e,zhV _ z t "str_ascii_iterator" (by decide) (fun A hA=>Walks.strAscii hA _ z t) (fun A i s Q E st h=>wpAny_pyIter_striter_ascii st h),⟨_,yal _ rfl,rfl,rfl⟩,fp,q⟩
def zsB{X:Cx}:OpR X (compareOp .LtE) (fun x y H Q=>∃a b,x=.str a/\y=.str b/\Q (.bl (!decide (b.cps.toList<a.cps.toList))) H):=by
 intro pins s σ H x y v u Q I rx ry h;obtain ⟨a,b,rfl,rfl,q⟩:=h;obtain ⟨t,rfl⟩:=rx;obtain ⟨t',rfl⟩:=ry;exact PySem.P.le_str ⟨.bl (!decide (b.cps.toList<a.cps.toList)),H,I,rfl,q⟩
def zfo(h:∀y∈scope.names,y.2=.free->∃c,env.cells.lookup y.1=some c) :
  ∃cl,closureFor scope env=pure cl/\(∀y c,cl.lookup y=some c->env.cells.lookup y=some c)/\∀y,(y,NameKind.free)∈scope.names->∃c,cl.lookup y=some c:=by
 unfold closureFor
 have key:∀(l:List (Str×NameKind)) (cs:List (Str×Addr)),(∀y∈l,y.2=.free->∃c,env.cells.lookup y.1=some c)->(∀y c,cs.lookup y=some c->env.cells.lookup y=some c) →
   ∃cl,(forIn l cs fun (x:Str×NameKind) (r:List (Str×Addr))=>(if (x.2 == NameKind.free)=true then (do let c ← cellOf env x.1;pure (ForInStep.yield ((x.1,c)::r))) else pure (ForInStep.yield r):Sem (ForInStep (List (Str×Addr)))))=pure cl ∧
    (∀y c,cl.lookup y=some c->env.cells.lookup y=some c)/\(∀y,(y,NameKind.free)∈l->∃c,cl.lookup y=some c)/\(∀y c,cs.lookup y=some c->∃c',cl.lookup y=some c'):=by
  intro l
  induction l with
  | nil=>intro cs _ hc;exact ⟨cs,rfl,hc,fun y hy=>by simp at hy,fun y c e=>⟨c,e⟩⟩
  | cons p l ih =>
   intro cs hl hc;obtain ⟨n,k⟩:=p
   by_cases hk:(k == NameKind.free)=true
   ·have ek:k=.free:=eq_of_beq hk;obtain ⟨c,ec⟩:=hl (n,k) yav ek
    obtain ⟨cl,e1,e2,e3,e4⟩:=ih ((n,c)::cs) (fun y hy=>hl y (yan _ hy)) (fun y c' e=>by
     rw [yaD] at e
     cases hq:y == n with
     | true=>rw [hq] at e;cases e;rw [eq_of_beq hq];exact ec
     | false=>rw [hq] at e;exact hc y c' e)
    refine ⟨cl,?_,e2,fun y hy=>?_,fun y c' e=>?_⟩
    ·rw [yb0];show ((if (k == NameKind.free)=true then _ else _) >>= _)=_;rw [if_pos hk]
     have ecell:cellOf env n=pure c:=by unfold cellOf;rw [ec]
     show (cellOf env n >>= _) >>= _=_;rw [ecell];simpa using e1
    ·rcases yaw.mp hy with z | hy
     ·cases z;exact e4 n c (by rw [yaD];simp)
     ·exact e3 y hy
    ·cases hq:y == n with
     | true=>exact e4 y c (by rw [yaD,hq])
     | false=>exact e4 y c' (by rw [yaD,hq];exact e)
   ·obtain ⟨cl,e1,e2,e3,e4⟩:=ih cs (fun y hy=>hl y (yan _ hy)) hc;refine ⟨cl,?_,e2,fun y hy=>?_,e4⟩
    ·rw [yb0];show ((if (k == NameKind.free)=true then _ else _) >>= _)=_;rw [if_neg hk];simpa using e1
    ·rcases yaw.mp hy with z | hy
     ·cases z;exact absurd rfl hk
     ·exact e3 y hy
 obtain ⟨cl,e1,e2,e3,_⟩:=key scope.names [] h (fun y c e=>by simp at e);refine ⟨cl,?_,e2,e3⟩;show ((forIn scope.names [] _:Sem (List (Str×Addr))) >>= _)=_;have e1':=congrArg (fun m=>m >>= (pure:List (Str×Addr)->Sem (List (Str×Addr)))) e1;simpa using e1
noncomputable def PIf(X:Cx)(ifs:List Expr)(t:TT):Prop :=
 ∀(pins:Z3) (s:Shared) (σ:St) (H:Hp) (Q:Bool->Hp->Prop),Inv X pins σ H s->t σ H Q →
  wpAny (model X.prog X.w) X.A (forIn ifs true fun c r=>if r=true then do let ok ← isTrue c X.env (eval c X.env);pure (ForInStep.yield ok) else pure (ForInStep.yield r)) (TP X pins σ Q) X.xe s
noncomputable def zxF:TT:=fun _ H Q=>Q true H
def zpK:PIf X [] zxF:=fun _ _ _ H _ I h=>wpAny_tests_nil ⟨H,I,h⟩
def zpJ(h:PT X c t):PIf X [c] t:=fun pins s σ H Q I hw=>wpAny_tests_one (h pins s σ H Q I hw)
theorem zd2{scope:Scope}{env:Env}:∀{names:List (Str×NameKind)} {y:Str},(y,NameKind.free)∈names->(∀z∈names,z.1=y->z.2=.free) →
  (names.map fun (n,k)=>if (k == NameKind.free&&env.scope.kind == .function&&env.kindOf n == some .cell) then (n,NameKind.cell) else (n,k)).lookup y=some .cell ∨
  (names.map fun (n,k)=>if (k == NameKind.free&&env.scope.kind == .function&&env.kindOf n == some .cell) then (n,NameKind.cell) else (n,k)).lookup y=some .free
 | [],_,h,_=>by simp at h
 | (n,k)::r,y,h,u=>by
  rw [yaz];show List.lookup y ((if (k == NameKind.free&&env.scope.kind == .function&&env.kindOf n == some .cell)=true then (n,NameKind.cell) else (n,k))::_)=_\/List.lookup y ((if (k == NameKind.free&&env.scope.kind == .function&&env.kindOf n == some .cell)=true then (n,NameKind.cell) else (n,k))::_)=_
  cases hq:y == n with
  | true =>
   have e:n=y:=(eq_of_beq hq).symm;have ek:k=.free:=u (n,k) yav e
   by_cases hc:(k == NameKind.free&&env.scope.kind == .function&&env.kindOf n == some .cell)=true
   ·rw [if_pos hc];left;simp [yaD,hq]
   ·rw [if_neg hc];right;simp [yaD,hq,ek]
  | false =>
   have hy:(y,NameKind.free)∈r:=by
    rcases yaw.mp h with z | z
    ·cases z;simp at hq
    ·exact z
   have ih:=zd2 (scope:=scope) (env:=env) hy fun z hz=>u z (yan _ hz)
   by_cases hc:(k == NameKind.free&&env.scope.kind == .function&&env.kindOf n == some .cell)=true
   ·rw [if_pos hc];simpa [yaD,hq] using ih
   ·rw [if_neg hc];simpa [yaD,hq] using ih
def Inv.track(I:Inv X pins σ H s)(hn:H D=none)(h1:X.s₀.heap.objs.size<=D)(h2:D≠X.env.locals)(h3:∀x c,X.env.cells.lookup x=some c->c≠D)(h4:∀p∈X.pn++pins,p.1≠D)
  (new:zaI X.prog X.w (upd H D o) s.heap D o):Inv X pins σ (upd H D o) s:=by
 have nD:∀b u,H b=some u->b≠D:=fun b u e=>zam e hn
 obtain ⟨h',g',d',t',o'⟩:=s;refine I.step (h':=h') (g':=g') (d':=d') (t':=t') (ch:=[D]) (fun b hb=>?_) (fun b o _ _ _ e _=>e) (fun b o _ _ _ e _=>⟨o.slots,e⟩) (fun b o hc e n=>?_) (fun b o _ e=>⟨o,e⟩) (fun b xs e=>?_) (fun b o u e=>?_) (fun b ps e=>?_) (fun m hm=>hm) (fun b u e=>?_) I.bare
 ·have e:b=D:=by simpa using hb
  subst e;exact ⟨.inr h1,h2,h3,h4⟩
 ·rw [zac (fun z=>hc (by simp [z]))];exact n
 ·rw [zac (nD _ _ e)];exact e
 ·rw [zac (nD _ _ e)];exact e
 ·exact ⟨#[],by rw [zac (nD _ _ e),e];simp⟩
 ·by_cases hb:b=D
  ·subst hb;rw [zag] at e;cases e;exact new
  ·rw [zac hb] at e
   exact (I.hok b u e).stay (fun _ _ _ q=>q) (fun c q=>by rw [zac (nD _ _ q)];exact q) fun c xs q=>by rw [zac (nD _ _ q)];exact q
section
variable{X:Cx}{elt iter:Expr}{x:Str}{px pos:Pos}{ifs:List Expr}{scope:Scope}{caps:List (Str×Nat)}{wi:TI}{tt:TT}{te:TE}
noncomputable abbrev lob(its:List Value)(k:Nat):Obj:={ cls:=.type "list",data:=.seq its.toArray k }
end
section
variable{prog:Program}{w:World}{A:Around}{R:Result->Shared->Prop}{s:Shared}
theorem zmZ(I:Nat->Shared->Prop)
  (turn:∀n s,I n s->wpAny (model prog w) A (pyNext it) (fun r s₁=>match r with
   | none=>R (.ok .next) s₁
   | some v=>wpAny (model prog w) A (letOwnedTupleGo target it v) (fun _ s₀=>wpAny (model prog w) A (assign target env v) (fun _ s₂ =>
     wpAny (model prog w) A (forIn ifs true fun c r=>if r=true then do let ok ← isTrue c env (eval c env);pure (ForInStep.yield ok) else pure (ForInStep.yield r)) (fun ok s₃ =>
      if ok=true then wpAny (model prog w) A (eval elt env) (fun x s₄ =>
       wpAny (model prog w) A (call (.builtin "list.append") [acc,x]) (fun _ s₅=>∃m,m<n/\I m s₅) (notedBy (model prog w) A env fun e s'=>R (.error e) s') s₄) (notedBy (model prog w) A env fun e s'=>R (.error e) s') s₃
      else ∃m,m<n/\I m s₃) (notedBy (model prog w) A env fun e s'=>R (.error e) s') s₂) (notedBy (model prog w) A env fun e s'=>R (.error e) s') s₀) (notedBy (model prog w) A env fun e s'=>R (.error e) s') s₁) (notedBy (model prog w) A env fun e s'=>R (.error e) s') s)
  (n:Nat) (h:I n s):codeAny (model prog w) A (.compLoop (.ListComp elt [⟨target,iter,ifs,0⟩] scope pos) 0 it acc env) R s:=by
 refine codeAny_loop rfl I (fun n s hI=>?_) n h;show wpAny _ A ((compTurn (.ListComp elt [⟨target,iter,ifs,0⟩] scope pos) 0 it acc env).onRaise (fun x=>do noteFrame x env;theTreesLotGoes x)) _ _ s;refine wpAny_noted ?_;rw [compTurn_list];refine yaa (yda (yaa (ybd (turn n s hI) (fun r s₁ h₁=>?_) fun _ _ h'=>h')))
 cases r with
 | none=>exact yad h₁
 | some v =>
  refine yaa (ybd h₁ (fun _ s₀ h₀=>?_) fun _ _ h'=>h');refine yaa (ybd h₀ (fun _ s₂ h₂=>yaa (ybd h₂ (fun ok s₃ h₃=>?_) fun _ _ h'=>h')) fun _ _ h'=>h')
  cases ok with
  | false=>exact yad ⟨rfl,h₃⟩
  | true =>
   exact yaa (yaa (ybd h₃ (fun x s₄ h₄=>yaa (ybd h₄ (fun _ s₅ h₅=>yad (yad ⟨rfl,h₅⟩)) fun _ _ h'=>h')) fun _ _ h'=>h'))
end
theorem zaV:∀(names:List (Str×NameKind)) (n:Nat) (acc:List (Str×Addr)),cellsFrom n names acc=cellsFrom n names []++acc
 | [],_,_=>rfl
 | (x,k)::r,n,acc=>by
  unfold cellsFrom;split
  ·rw [zaV r (n+1) ((x,n)::acc),zaV r (n+1) [(x,n)]];simp
  ·exact zaV r n acc
theorem zcm:∀(names:List (Str×NameKind)) (n:Nat) {x:Str} {c:Addr},(x,c)∈cellsFrom n names []->(x,NameKind.cell)∈names
 | [],_,_,_,h=>by cases h
 | (y,k)::r,n,x,c,h=>by
  unfold cellsFrom at h;split at h
  ·rename_i hk;rw [zaV] at h
   rcases ya1.mp h with h | h
   ·exact yan _ (zcm r _ h)
   ·rw [yaH] at h;cases h;rw [ycd.mp hk];exact yav
  ·exact yan _ (zcm r _ h)
theorem zbL{α:Type}:∀{l m:List (Str×α)},(l++m).lookup x=(l.lookup x).or (m.lookup x)
 | [],m=>rfl
 | (y,a)::l,m=>by
  rw [List.cons_append,yaD,yaD]
  cases x == y with
  | true=>rfl
  | false=>exact zbL
theorem zbJ:∀(names:List (Str×NameKind)) (n:Nat) {x:Str},(x,NameKind.cell)∈names->∃c,(cellsFrom n names []).lookup x=some c
 | [],_,_,h=>by cases h
 | (y,k)::r,n,x,h=>by
  unfold cellsFrom;split
  ·rename_i hk;rw [zaV,zbL]
   rcases yaw.mp h with e | h
   ·cases e
    cases hq:(cellsFrom (n+1) r []).lookup y with
    | some c=>exact ⟨c,rfl⟩
    | none=>exact ⟨n,by simp [yaD]⟩
   ·obtain ⟨c,e⟩:=zbJ r (n+1) h;rw [e];exact ⟨c,rfl⟩
  ·rename_i hk
   rcases yaw.mp h with e | h
   ·cases e;exact absurd rfl hk
   ·exact zbJ r n h
def zbZ{M:Model}{A:Around}{E:Z5}{s:Shared}{scope:Scope}{globals:Addr}{closure:List (Str×Addr)}{qual:Str}{func:Option Addr}{code:Value}{outer:Env}{builtins:Addr}{Q:Env->Shared->Prop}
  (hQ:∀h',h'.Ns s.heap.objs.size (fun _=>none)->(∀b o,s.heap.get? b=some o->h'.get? b=some o)->CellsOk h' (s.heap.objs.size+1) (cellsFrom (s.heap.objs.size+1) scope.names []) →
   Q (newEnv scope s.heap.objs.size globals (cellsFrom (s.heap.objs.size+1) scope.names []++closure) qual func code (some outer) builtins) { s with heap:=h' }) :
  wpAny M A (newFunctionEnv scope globals closure [] qual func code (some outer) builtins) Q E s:=by
 simp only [newFunctionEnv,ycZ,ybU];refine yaa (wpAny_alloc ?_);refine yaa (wpAny_layCells _ (fun name kind cells=>by cases hkc:kind == NameKind.cell<;>simp [hkc]) _ _ _ _ ?_);have ok:=cellsFrom_ok scope.names (s.heap.push { cls:=.type "dict",data:=.dict #[] }) (s.heap.objs.size+1) [] ⟨fun _ _ hm=>(nomatch hm),List.Pairwise.nil⟩ (by rw [ya5];exact yah _);rw [ya5] at ok;rw [show ({ s with heap:=s.heap.push { cls:=.type "dict",data:=.dict #[] } }:Shared).heap.objs.size=s.heap.objs.size+1 from ya5 ..];rw [zaV];simp only [List.forIn_nil];refine yaa (yad (yad ?_));exact hQ _ ((Heap.Ns.new s.heap (.type "dict")).keeps (pushCells_keeps _ _)) (fun b o e=>pushCells_keeps _ _ b o (yaf _ e)) ok
structure CompScopeG(sc scope:Scope)(N:List Str)(xs:List Str)(caps:List (Str×Nat)):Prop where
 nd:(scope.names.map (·.1)).Nodup
 kind:scope.kind=.function
 names:∀y∈scope.names,y.2=.local->scope.names.lookup y.1=some .local
 free:∀y∈scope.names,y.2=.free->sc.names.lookup y.1=some .cell\/sc.names.lookup y.1=some .free
 cap:∀p∈caps,N[p.2]?=some p.1/\(p.1,NameKind.free)∈scope.names/\sc.names.lookup p.1≠some .local
 uniq:∀p∈caps,∀z∈scope.names,z.1=p.1->z.2=.free
noncomputable def zaY(X:Cx)(xs:List Str)(caps:List (Str×Nat))(scope:Scope)(cl:List (Str×Addr))(C:Addr)(s:Shared)(H:Hp)(ex:List Addr):Cx :=
 { X with N:=xs++caps.map (·.1),s₀:=s,H₀:=H,env:=compEnvC scope cl C X.env,outer:=X.stack,ex:=ex,fn:=fun x=>decide (scope.names.lookup x=some .cell),pn:=[],xe:=fun _ _=>False }
noncomputable abbrev capσ(σ:St)(n:Nat)(caps:List (Str×Nat)):St:=List.replicate n none++caps.map fun p=>(σ[p.2]?).join
noncomputable def zh2(wi:TI)(g:TG)(tt:TT)(te:TE)(n:Nat)(caps:List (Str×Nat)):TE:=fun σ H Q=>wi σ H fun J H1=>∃W:Nat->Nat->List V->St->Hp->Prop,(∃m,W 0 m [] (capσ σ n caps) H1)/\∀i m ys σ' H,W i m ys σ' H →
 ys.length<=sizeLine/\((J.stop i H/\∀p,H p=none->Q (.ref p) (upd H p (.lst ys))) ∨
 (J.go i H/\∀x H',J.yld i H x H'->g x σ' H' fun σ2 H2=>tt σ2 H2 fun ok H3=>if ok=true then te σ2 H3 fun y H4=>∃m',m'<m/\W (i+1) m' (ys++[y]) σ2 H4 else ∃m',m'<m/\W (i+1) m' ys σ2 H3))
section
variable{X:Cx}{elt iter tg:Expr}{xs:List Str}{pos:Pos}{ifs:List Expr}{scope:Scope}{caps:List (Str×Nat)}{wi:TI}{g:TG}{tt:TT}{te:TE}
structure OwnC(X:Cx)(scope:Scope)(lo:Nat)(h:Heap)(cl:List (Str×Addr)):Prop where
 sort:∀y c,cl.lookup y=some c->X.env.cells.lookup y=some c\/(h.IsCell c none/\lo<=c)
 inj:∀y z c,cl.lookup y=some c->cl.lookup z=some c->y=z
 has:∀y,((y,NameKind.free)∈scope.names\/(y,NameKind.cell)∈scope.names)->∃c,cl.lookup y=some c
 own:∀y c,scope.names.lookup y=some .cell->cl.lookup y=some c->lo<=c
 free:∀y,(y,NameKind.free)∈scope.names->∃c,cl.lookup y=some c/\X.env.cells.lookup y=some c
def zgq(h:(relabel scope env).names.lookup y=some .cell\/(relabel scope env).names.lookup y=some .free):(y,NameKind.free)∈scope.names\/(y,NameKind.cell)∈scope.names:=by
 have go:∀k,(relabel scope env).names.lookup y=some k->(k=.cell\/k=.free)->(y,NameKind.free)∈scope.names\/(y,NameKind.cell)∈scope.names:=fun k e hk=>by
  have hm:=yaB e;obtain ⟨⟨n,k0⟩,hp,e2⟩:=yau.mp hm
  by_cases hq:(k0 == .free&&env.scope.kind == .function&&env.kindOf n == some .cell)=true
  ·have e3:(n,NameKind.cell)=(y,k):=by rw [<-e2];show _=if _ then _ else _;rw [if_pos hq]
   cases e3
   have:k0=.free:=by simp only [yab] at hq;exact eq_of_beq hq.1.1
   subst this;exact .inl hp
  ·have e3:(n,k0)=(y,k):=by rw [<-e2];show _=if _ then _ else _;rw [if_neg hq]
   cases e3
   rcases hk with rfl | rfl
   ·exact .inr hp
   ·exact .inl hp
 rcases h with h | h
 ·exact go _ h (.inl rfl)
 ·exact go _ h (.inr rfl)
theorem zgz:∀{l:List (Str×NameKind)},(l.map (·.1)).Nodup->∀{x:Str} {a b:NameKind},(x,a)∈l->(x,b)∈l->a=b
 | [],_,_,_,_,h,_=>by cases h
 | p::l,nd,x,a,b,h,h'=>by
  rw [yaz,ybY] at nd
  rcases yaw.mp h with h | h<;>rcases yaw.mp h' with h' | h'
  ·rw [<-h'] at h;exact (Prod.mk.inj h).2
  ·exact absurd (yau.mpr ⟨_,h',by rw [<-h]⟩) nd.1
  ·exact absurd (yau.mpr ⟨_,h,by rw [<-h']⟩) nd.1
  ·exact zgz nd.2 h h'
def zk1{X:Cx}{scope:Scope}{lo n:Nat}{h:Heap}{cl:List (Str×Addr)}(nd:(scope.names.map (·.1)).Nodup)(hn:lo<=n)(hinj:∀x y c,X.env.cells.lookup x=some c->X.env.cells.lookup y=some c->x=y)
  (hcl:∀y c,cl.lookup y=some c->X.env.cells.lookup y=some c) (hlo:∀y c,X.env.cells.lookup y=some c->c<lo) (hhas:∀y,(y,NameKind.free)∈scope.names->∃c,cl.lookup y=some c) (ok:CellsOk h n (cellsFrom n scope.names [])) :
  OwnC X scope lo h (cellsFrom n scope.names []++cl):=by
 have sort:∀y c,(cellsFrom n scope.names []++cl).lookup y=some c->((cellsFrom n scope.names []).lookup y=some c)\/((cellsFrom n scope.names []).lookup y=none/\cl.lookup y=some c):=fun y c e=>by
  rw [zbL] at e
  cases hq:(cellsFrom n scope.names []).lookup y with
  | some c'=>rw [hq] at e;exact .inl e
  | none=>rw [hq] at e;exact .inr ⟨rfl,e⟩
 refine ⟨fun y c e=>?_,fun y z c e e'=>?_,fun y hy=>?_,fun y c hy e=>?_,fun y hy=>?_⟩
 ·rcases sort y c e with z | ⟨_,z⟩
  ·have:=ok.empty y c (yaB z);exact .inr ⟨this.1,yam hn this.2⟩
  ·exact .inl (hcl y c z)
 ·rcases sort y c e with a | ⟨_,a⟩<;>rcases sort z c e' with b | ⟨_,b⟩
  ·exact name_of_addr ok.apart (yaB a) (yaB b)
  ·have h1:=(ok.empty y c (yaB a)).2;have h2:=hlo z c (hcl z c b);exact absurd (yag h2 (yam hn h1)) (yaR _)
  ·have h1:=(ok.empty z c (yaB b)).2;have h2:=hlo y c (hcl y c a);exact absurd (yag h2 (yam hn h1)) (yaR _)
  ·exact hinj y z c (hcl y c a) (hcl z c b)
 ·rw [zbL]
  cases hq:(cellsFrom n scope.names []).lookup y with
  | some c=>exact ⟨c,rfl⟩
  | none =>
   rcases hy with hy | hy
   ·exact hhas y hy
   ·obtain ⟨c,e⟩:=zbJ scope.names n hy;rw [hq] at e;cases e
 ·obtain ⟨c',e'⟩:=zbJ scope.names n (yaB hy);rw [zbL,e'] at e;have:c'=c:=Option.some.inj e;subst this;exact yam hn (ok.empty y c' (yaB e')).2
 ·obtain ⟨c,e⟩:=hhas y hy;refine ⟨c,?_,hcl y c e⟩;rw [zbL]
  cases hq:(cellsFrom n scope.names []).lookup y with
  | some c' =>
   have:=zcm scope.names n (yaB hq);cases zgz nd hy this
  | none=>exact e
theorem zlO(S:CompScopeG X.env.scope scope X.N xs caps)(hu:∀p∈caps,∀z∈scope.names,z.1=p.1->z.2=.free)
  (I:Inv X pins σ H s) (hcl:OwnC X scope s.heap.objs.size s'.heap cl)
  (hf:∀b∈fp,zl7 X pins H b) (hlt:∀b∈fp,b<s.heap.objs.size) (hC:s.heap.objs.size<=C) (ho:s'.os=s.os) (hg:s'.gens=s.gens) (hk:∀b o,s.heap.get? b=some o->s'.heap.get? b=some o) (hn:s'.heap.Ns C (fun _=>none)) :
  Inv (zaY X xs caps scope cl C s H fp) [] (capσ σ xs.length caps) H s':=by
 have cellK:∀y c,cl.lookup y=some c->∃v,s'.heap.IsCell c v:=fun y c e=>by
  rcases hcl.sort y c e with z | z
  ·obtain ⟨v,o,q,d⟩:=I.cell y c z;exact ⟨v,o,hk _ _ q,d⟩
  ·exact ⟨none,z.1⟩
 refine ⟨⟨I.ok.mod,S.kind,I.ok.glob,I.ok.blt,hC,hcl.inj,fun y hy=>hcl.has y (zgq hy),fun y c z e=>hcl.own y c (yao z) e,I.ok.hd,I.ok.frames,.inl rfl,fun b hb=>⟨yas (yag (hlt b hb) hC),fun y c e=>(hcl.sort y c e).elim (fun z=>(hf b hb).2.2.2.2.1 y c z) fun z=>yaT (yag (hlt b hb) z.2)⟩,
  I.bs,yam I.ok.bsz I.sz,fun b o e hb=>?_,fun b hb hm=>?_,I.stack,I.stkFree⟩,ho,by rw [hg];exact I.bare,Un.kept hk,⟨_,hn,fun i y v h1 h2 h3=>?_⟩,fun y c e=>cellK y c e,I.hok.fresh hC,fun y c e=>(hcl.sort y c e).elim (I.freeC y c) fun z=>I.hok.fresh z.2,fun p hp=>absurd (show p∈([]:Z3) from hp) (by simp),I.hok.kept hk,?_⟩
 ·rcases (hf b hb).2.2.2.1 with z | z
  ·exact I.ok.noex b o e z
  ·exact absurd (yag (yak e) (yam I.ok.bsz z)) (yaR _)
 ·rcases yaw.mp (I.stkSub b hm) with z | z
  ·exact (hf b hb).2.1 z
  ·exact (hf b hb).2.2.1 z
 ·have hi:¬ i<xs.length:=fun hi=>by
   have h2':(capσ σ xs.length caps)[i]?=some (some v):=h2;rw [yaE (by rw [yaJ];exact hi),yby] at h2'
   split at h2'<;>cases h2'
  ·have h1':(caps.map (·.1))[i-xs.length]?=some y:=by
    have h1':(xs++caps.map (·.1))[i]?=some y:=h1;rwa [yaA (by omega)] at h1'
   rw [yaq] at h1'
   have h2':(caps.map fun p=>(σ[p.2]?).join)[i-xs.length]?=some (some v):=by
    have h2':(capσ σ xs.length caps)[i]?=some (some v):=h2;rw [yaA (by rw [yaJ];omega),yaJ] at h2';exact h2'
   rw [yaq] at h2'
   cases hp:caps[i-xs.length]? with
   | none=>rw [hp] at h1';cases h1'
   | some p =>
    rw [hp] at h1' h2';have ey:p.1=y:=Option.some.inj h1';have ev:(σ[p.2]?).join=some v:=Option.some.inj h2';subst ey;have hmem:p∈caps:=yba hp;obtain ⟨c1,c2,c3⟩:=S.cap p hmem
    have eσ:σ[p.2]?=some (some v):=by
     cases q:σ[p.2]? with
     | none=>rw [q] at ev;cases ev
     | some w=>rw [q] at ev;have:w=some v:=ev;rw [this]
    have hfr:=S.free _ c2 rfl;have hv:Vis X.env.scope p.1:=hfr.elim (fun z=>.inr (.inl z)) (fun z=>.inr (.inr z));obtain ⟨m,_,hl⟩:=I.loc;obtain ⟨u,r,l⟩:=hl p.2 p.1 v c1 eσ hv;refine ⟨u,r,.inr ⟨zd2 (scope:=scope) (env:=X.env) c2 (hu p hmem),?_⟩⟩;obtain ⟨c,ec,ec2⟩:=hcl.free p.1 c2;refine ⟨c,ec,?_⟩
    rcases l with ⟨z,_⟩ | ⟨_,c',ec',hcell⟩
    ·exact absurd z c3
    ·have:c'=c:=by rw [ec2] at ec';exact (Option.some.inj ec').symm
     subst this;obtain ⟨o,q,d⟩:=hcell;exact ⟨o,hk _ _ q,d⟩
 ·simp [zaY,capσ]
theorem zg0{use:Option (Value->Sem Unit)}{Qf:Z5}{R:VK}{pins:Z3}{s:Shared}{σ:St}{H:Hp}(hc:X.calm=true)(S:CompScopeG X.env.scope scope X.N xs caps)(hi:PI X tg iter wi)(hg:∀cl C s H fp,PG (zaY X xs caps scope cl C s H fp) tg g)
  (ht:∀cl C s H fp,PIf (zaY X xs caps scope cl C s H fp) ifs tt) (he:∀cl C s H fp,PE (zaY X xs caps scope cl C s H fp) elt te)
  (hs:∀v,foldedSetIterable iter X.env v=pure v) (I:Inv X pins σ H s) (h:zh2 wi g tt te xs.length caps σ H R)
  (fin:∀(D C:Addr) (s4:Shared) (m4:Z6) (H6:Hp) (r:Flow),s4.heap.Ns C m4->(∀{σ':St} {H7:Hp} {s5:Shared} {h':Heap},Inv X pins σ' H7 s5->Heap.SameBut C s5.heap h'->H7 C=none->Inv X pins σ' H7 { s5 with heap:=h' })->H6 C=none->C≠X.env.locals->(∀y c,X.env.cells.lookup y=some c->C≠c)->Inv X pins σ H6 s4->R (.ref D) H6->compPost (model X.prog X.w) X.A X.xe use Qf (.ref D) C (.ok r) s4) :
  wpAny (model X.prog X.w) X.A (comprehension (.ListComp elt [⟨tg,iter,ifs,0⟩] scope pos) scope X.env (firstIterPos [⟨tg,iter,ifs,0⟩] pos) (newList []) false (eval iter X.env) use) Qf X.xe s:=by
 obtain ⟨cl,hclos,hcl,hhas⟩:=zfo (scope:=scope) (env:=X.env) fun y hy hf=>I.ok.has y.1 (S.free y hy hf)
 refine wpAny_comprehension_free (use:=use) rfl hs hclos S.kind S.names (thn (hi pins s σ H _ I h) fun v s1 h1=>thn h1 fun itv s2 h2=>?_);obtain ⟨it,fp,tn,J,H2,rfl,I2,T,st2,f2,W,⟨m0,w0⟩,turn⟩:=h2;refine yaZ (zbZ (fun h₁ hns₁ hsb₁ hok₁=>?_));dsimp only at hns₁ hsb₁ hok₁ ⊢;generalize hHp:s2.heap.push { cls:=.type "list",dict:=none,data:=.seq ([]:List Value).toArray }=Hq at hns₁ hsb₁ hok₁ ⊢
 have hCe:Hq.objs.size=s2.heap.objs.size+1:=by rw [<-hHp,ya5]
 have hDC:s2.heap.objs.size≠Hq.objs.size:=by rw [hCe];exact yas (ybS _)
 have hC:s2.heap.objs.size<=Hq.objs.size:=by rw [hCe];exact ybE _
 have old:∀b o,s2.heap.get? b=some o->h₁.get? b=some o:=fun b o e=>hsb₁ b o (hHp ▸ yaf _ e)
 have hacc:h₁.get? s2.heap.objs.size=some (lob [] 0):=hsb₁ _ _ (hHp ▸ yal _ rfl)
 have cellX:∀y c,X.env.cells.lookup y=some c->c<s2.heap.objs.size:=fun y c e=>by obtain ⟨v,q⟩:=I2.cell y c e;exact q.lt
 have oc:=zk1 (X:=X) (lo:=s2.heap.objs.size+1) S.nd (by rw [hCe];exact ybE _) I.ok.inj hcl (fun y c e=>ybf (cellX y c e)) hhas hok₁;generalize hcl2:cellsFrom (Hq.objs.size+1) scope.names []++cl=cl2 at oc ⊢;have oc':OwnC X scope s2.heap.objs.size h₁ cl2:=⟨fun y c e=>(oc.sort y c e).imp id fun z=>⟨z.1,yc6 z.2⟩,oc.inj,oc.has,fun y c a e=>yc6 (oc.own y c a e),oc.free⟩
 have hlt:∀b∈fp,b<s2.heap.objs.size:=fun b hb=>by obtain ⟨o,e,_⟩:=T.obj 0 _ st2 b hb;exact yak e
 generalize hY:zaY X xs caps scope cl2 Hq.objs.size s2 H2 fp=Y;have PEY:PE Y elt te:=hY ▸ he cl2 _ s2 H2 fp;have PIY:PIf Y ifs tt:=hY ▸ ht cl2 _ s2 H2 fp;have PGY:PG Y tg g:=hY ▸ hg cl2 _ s2 H2 fp
 have I3:Inv Y [] (capσ σ xs.length caps) H2 { s2 with heap:=h₁ }:=by
  rw [<-hY];exact zlO S S.uniq I2 oc' f2 hlt hC rfl rfl old hns₁
 have eYenv:Y.env=compEnvC scope cl2 Hq.objs.size X.env:=by rw [<-hY];rfl
 have eYloc:Y.env.locals=Hq.objs.size:=by rw [eYenv];rfl
 have eYfs:Y.fs=frs X.stack:=by rw [<-hY];rfl
 have eYprog:Y.prog=X.prog:=by rw [<-hY];rfl
 have eYw:Y.w=X.w:=by rw [<-hY];rfl
 have eYK:Y.K=X.K:=by rw [<-hY];rfl
 have eYA:Y.A=X.A:=by rw [<-hY];rfl
 have eYc:Y.calm=true:=by rw [<-hY];exact hc
 have eYex:Y.ex=fp:=by rw [<-hY];rfl
 have eYs:Y.s₀=s2:=by rw [<-hY];rfl
 have eYH:Y.H₀=H2:=by rw [<-hY];rfl
 have eYpn:Y.pn=[]:=by rw [<-hY];rfl
 have eYcell:∀y c,Y.env.cells.lookup y=some c->X.env.cells.lookup y=some c\/s2.heap.objs.size+1<=c:=fun y c e=>(oc.sort y c (by rwa [eYenv] at e)).imp id (·.2)
 have eYxe:∀e s',¬ Y.xe e s':=fun e s' z=>by rwa [<-hY] at z
 have stkX:∀b∈frs X.stack,b<s2.heap.objs.size:=fun b hb=>by
  rcases yaw.mp (I2.stkSub b hb) with z | z
  ·rw [z];exact I2.lt
  ·refine Nat.not_le.mp fun hle=>I2.nofs hle z
 have pinX:∀p∈X.pn++pins,p.1<s2.heap.objs.size:=fun p hp=>yak (I2.pin p hp).1
 have fpY:∀{H':Hp} {its:List Value} {k:Nat},(∀b∈fp,H' b=none)->∀b∈fp,zl7 Y [(s2.heap.objs.size,lob its k)] H' b:=fun {H' its k} hn b hb=>by
  refine ⟨hn b hb,by rw [eYloc];exact yas (yag (hlt b hb) hC),?_,.inl (by rw [eYex];exact hb),fun y c e=>(eYcell y c e).elim (fun z=>(f2 b hb).2.2.2.2.1 y c z) fun z=>yaT (yag (hlt b hb) (yc6 z)),fun p hp=>?_⟩
  ·rw [eYfs];intro hm
   rcases yaw.mp (I2.stkSub b hm) with z | z
   ·exact (f2 b hb).2.1 z
   ·exact (f2 b hb).2.2.1 z
  ·rw [eYpn] at hp
   have e:p=(s2.heap.objs.size,lob its k):=by simpa using hp
   rw [e];exact yaT (hlt b hb)
 have pinD:∀{H':Hp} {σ':St} {s':Shared} {its:List Value} {k:Nat},Inv Y [] σ' H' s'->s'.heap.get? s2.heap.objs.size=some (lob its k)->H' s2.heap.objs.size=none->Inv Y [(s2.heap.objs.size,lob its k)] σ' H' s':=fun {H' σ' s' its k} I' e n =>
  I'.pins_of fun p hp=>by
   have ep:p=(s2.heap.objs.size,lob its k):=by simpa using hp
   subst ep;refine ⟨e,n,by rw [eYloc];exact hDC,?_,fun v z=>?_⟩
   ·rw [eYfs];exact fun hm=>yaR _ (stkX _ hm)
   ·have z':Data.seq its.toArray k=Data.cell v:=z;cases z'
 have loop:codeAny (model X.prog X.w) X.A (.compLoop (.ListComp elt [⟨tg,iter,ifs,0⟩] scope pos) 0 (.ref it) (.ref s2.heap.objs.size) (compEnvC scope cl2 Hq.objs.size X.env))
   (compPost (model X.prog X.w) X.A X.xe use Qf (.ref s2.heap.objs.size) Hq.objs.size) { s2 with heap:=h₁ }:=by
  refine zmZ (fun n s'=>∃i σx H' ys its k,Inv Y [(s2.heap.objs.size,lob its k)] σx H' s'/\tn i s'.heap/\(∀b∈fp,H' b=none)/\Vals ys its/\W i n ys σx H') ?_ m0
   ⟨0,capσ σ xs.length caps,H2,[],[],0,pinD I3 hacc (I2.hok.fresh (yah _)),T.keep _ _ _ st2 fun b hb o e=>old b o e,fun b hb=>(f2 b hb).1,.nil,w0⟩
  rintro n s3 ⟨i,σx,H3,ys,its,k,J3,st3,fr3,rv,w3⟩;obtain ⟨hz,hcase⟩:=turn i n ys σx H3 w3
  rcases hcase with ⟨stop,q⟩ | ⟨go,step⟩
  ·have hd:=T.done Y eYprog eYw eYK eYc i _ s3 _ H3 (notedBy (model X.prog X.w) X.A (compEnvC scope cl2 Hq.objs.size X.env) fun e s'=>compPost (model X.prog X.w) X.A X.xe use Qf (.ref s2.heap.objs.size) Hq.objs.size (.error e) s') J3 (fpY fr3) st3 stop;rw [eYA] at hd;refine thn hd fun r s4 ⟨hr,J4⟩=>?_
   subst hr;obtain ⟨m4,hn4,_⟩:=J4.loc
   have hn4':s4.heap.Ns Hq.objs.size m4:=by rw [<-eYloc];exact hn4
   have hnC:H3 Hq.objs.size=none:=by rw [<-eYloc];exact J4.free
   have hk5:HOk X.prog X.w H3 s4.heap:=by rw [<-eYprog,<-eYw];exact J4.hok
   have u5:Un (frs X.stack) fp H2 H3 s2.heap s4.heap:=by
    have ub:=J4.base;rwa [eYfs,eYex,eYH,eYs] at ub
   have J5:Inv X pins σ H3 s4:=I2.call' (s':=s4) (ch:=fp) (by have:=J4.os;rwa [eYs] at this) u5 hk5 J4.bare fun b hb=>⟨(f2 b hb).2.2.2.1,(f2 b hb).2.1,(f2 b hb).2.2.2.2.1,(f2 b hb).2.2.2.2.2⟩
   have hp4:=J4.pin (s2.heap.objs.size,lob its k) (yaF _ yav);have hD5:s4.heap.get? s2.heap.objs.size=some (lob its k):=hp4.1;have J6:Inv X pins σ (upd H3 s2.heap.objs.size (.lst ys)) s4:=J5.track hp4.2.1 I2.sz (yaT I2.lt) (fun y c e=>yas (cellX y c e)) (fun p hp=>yas (pinX p hp)) (show zaI X.prog X.w _ s4.heap _ (.lst ys) from ⟨hz,its,k,rv,hD5⟩);have hCloc:Hq.objs.size≠X.env.locals:=yaT (yag I2.lt hC);exact fin _ Hq.objs.size s4 m4 _ _ hn4' (fun {σ'} {H7} {s5} {h'} J sb' hn=>J.turned (t':=s5.toks) (it:=Hq.objs.size) (fun b o hb e=>(sb'.2 b hb).trans e) hn hCloc (.inr (yam I2.sz hC)) (fun y c e=>yas (yag (cellX y c e) hC)) (fun p hp=>yas (yag (pinX p hp) hC))) (by rw [zac (Ne.symm hDC)];exact hnC) hCloc (fun y c e=>yaT (yag (cellX y c e) hC)) J6 (q _ hp4.2.1)
  ·have hd:=T.item Y eYprog eYw eYK eYc i _ s3 _ H3 (notedBy (model X.prog X.w) X.A (compEnvC scope cl2 Hq.objs.size X.env) fun e s'=>compPost (model X.prog X.w) X.A X.xe use Qf (.ref s2.heap.objs.size) Hq.objs.size (.error e) s') J3 (fpY fr3) st3 go;rw [eYA] at hd;refine thn hd fun r s4 ⟨u,hr,h4⟩=>?_
   subst hr;refine thn h4 fun _ s5 ⟨v4,H4,J4,r4,y4,st5,fr4⟩=>?_
   have J4':=J4.pinned (fp:=fp) (fpY fr4) (T.obj _ _ st5);have ha:=PGY _ s5 σx H4 v4 u _ J4' r4 (step v4 H4 y4);rw [eYprog,eYw,eYA,eYenv] at ha;refine ybd ha (fun _ s5' ⟨σ5,H5,J5',q5⟩=>?_) fun e s' z=>(eYxe _ _ z).elim
   have ht5:=PIY _ s5' σ5 H5 _ J5' q5;rw [eYprog,eYw,eYA,eYenv] at ht5;refine ybd ht5 (fun ok s6 ⟨H6,J6,q6⟩=>?_) fun e s' z=>(eYxe _ _ z).elim
   have back:∀{H7:Hp} {s7:Shared},Inv Y ([(s2.heap.objs.size,lob its k)]++zgv fp s5.heap) σ5 H7 s7->tn (i+1) s7.heap/\∀b∈fp,H7 b=none:=fun {H7 s7} J7 =>
    ⟨T.keep _ _ _ st5 fun b hb o e=>(J7.pin (b,o) (yaF _ (yaF _ (zcW hb e)))).1,fun b hb=>by
     obtain ⟨o,e,d⟩:=T.obj _ _ st5 b hb
     exact (J7.pin (b,o) (yaF _ (yaF _ (zcW hb e)))).2.1⟩
   cases ok with
   | false =>
    rw [if_neg yaP] at q6;rw [if_neg yaP];obtain ⟨m',hm',w6⟩:=q6;exact ⟨m',hm',i+1,σ5,H6,ys,its,k,J6.unpinned,(back J6).1,(back J6).2,rv,w6⟩
   | true =>
    rw [if_pos rfl] at q6;rw [if_pos rfl];have he6:=PEY _ s6 _ H6 _ J6 q6;rw [eYprog,eYw,eYA,eYenv] at he6;refine ybd he6 (fun u7 s7 ⟨v7,H7,J7,r7,m',hm',w7⟩=>?_) fun e s' z=>(eYxe _ _ z).elim
    obtain ⟨st7,fr7⟩:=back J7;have hp7:=(J7.unpinned).pin (s2.heap.objs.size,lob its k) (yaF _ yav);have hl:=rv.length;refine append_at (hsz:=by show its.toArray.size<=sizeLine;rw [yai];omega) hp7.1 fun h8 sb8 hD8=>?_
    have J7':Inv Y [] σ5 H7 s7:=J7.unpinned.pins_of fun p hp=>absurd hp (by simp)
    have J8:Inv Y [] σ5 H7 { s7 with heap:=h8 }:=J7'.turned (t':=s7.toks) (it:=s2.heap.objs.size) (fun b o hb e=>(sb8.2 b hb).trans e) hp7.2.1 (by rw [eYloc];exact hDC) (.inr (by rw [eYs];exact yah _)) (fun y c e=>(eYcell y c e).elim (fun z=>yas (cellX y c z)) fun z=>yaT z) (fun p hp=>by rw [eYpn] at hp;simp at hp)
    have hD8':h8.get? s2.heap.objs.size=some (lob (its++[u7]) (k+1)):=by rw [hD8];simp [lob]
    exact ⟨m',hm',i+1,σ5,H7,ys++[v7],its++[u7],k+1,pinD J8 hD8' hp7.2.1,T.keep _ _ _ st7 fun b hb o e=>(sb8.2 b (yas (hlt b hb))).trans e,fr7,rv.append (.cons r7 .nil),w7⟩
 exact codeAny_compStart_list loop (T.self X.A 0 _ _ _ (T.keep _ _ _ st2 fun b hb o e=>old b o e) loop)
def zmM(hc:X.calm=true)(S:CompScopeG X.env.scope scope X.N xs caps)(hi:PI X tg iter wi)(hg:∀cl C s H fp,PG (zaY X xs caps scope cl C s H fp) tg g)
  (ht:∀cl C s H fp,PIf (zaY X xs caps scope cl C s H fp) ifs tt) (he:∀cl C s H fp,PE (zaY X xs caps scope cl C s H fp) elt te)
  (hs:autoParam (∀v,foldedSetIterable iter X.env v=pure v) yAU):PE X (.ListComp elt [⟨tg,iter,ifs,0⟩] scope pos) (zh2 wi g tt te xs.length caps):=by
 intro pins s σ H Q I h;rw [eval_ListComp];exact zg0 (use:=none) hc S hi hg ht he hs I h fun D C s4 m4 H6 r hn tr hC _ _ J6 q=>⟨m4,hn,fun h5 sb=>⟨.ref D,H6,tr J6 sb hC,rfl,q⟩⟩
def zmC(hc:X.calm=true)(S:CompScopeG X.env.scope scope X.N xs caps)(hN0:X.N.Nodup)(hi0:X.N[k0]?=some y0)(hx0:Loc X.env.scope y0)(hi:PI X tg iter wi)(hg:∀cl C s H fp,PG (zaY X xs caps scope cl C s H fp) tg g)
  (ht:∀cl C s H fp,PIf (zaY X xs caps scope cl C s H fp) ifs tt) (he:∀cl C s H fp,PE (zaY X xs caps scope cl C s H fp) elt te)
  (hsw:swapsWith (.ListComp elt [⟨tg,iter,ifs,0⟩] scope pos) (some (.Name y0 py)) spos.line X.env=pure true)
  (hf0:X.fn y0=true\/X.env.scope.names.lookup y0=some .local)
  (hs:∀v,foldedSetIterable iter X.env v=pure v):PS X (.Assign [.Name y0 py] (.ListComp elt [⟨tg,iter,ifs,0⟩] scope pos) spos) (znR (zh2 wi g tt te xs.length caps) (zhz k0)):=by
 intro pins s σ H DD I h;rw [exec_Assign_Name_used _ _ _ _ hsw];refine yaa (yda (yaa ?_));show wpAny _ X.A (do let _ ← comprehension (.ListComp elt [⟨tg,iter,ifs,0⟩] scope pos) scope X.env _ (newList []) false (eval iter X.env) (some (assign (.Name y0 py) X.env))) _ _ s;refine yaa (ybd (zg0 (use:=some (assign (.Name y0 py) X.env)) (Qf:=fun _ s'=>SP X pins DD .next s') hc S hi hg ht he hs I h fun D C s4 m4 H6 r hn tr hC hl hce J6 q=>?_) (fun _ s' hq=>yad (yad hq)) fun _ _ e=>e);show wpAny _ X.A (assign (.Name y0 py) X.env (.ref D)) _ X.xe s4;refine wpAny_assign_Name (zge (i:=k0) J6 hN0 hi0 hx0 (v:=.ref D) rfl (fun s5 J7 ⟨a,sb,ha⟩=>?_) hf0);have haC:C≠a:=ha.elim (fun z=>by rw [z];exact hl) fun z=>hce _ _ z
 exact ⟨m4,hn.sameBut sb haC,fun h' sb'=>⟨_,_,tr J7 sb' hC,q⟩⟩
end
section
variable{κ:Type}[DecidableEq κ]
noncomputable def zek(kvs:List (κ×V))(k:κ):Option V:=(kvs.find? fun kv=>decide (kv.1=k)).map (·.2)
noncomputable def zfD(kvs:List (κ×V))(k:κ)(v:V):List (κ×V) :=
 if (kvs.any fun kv=>decide (kv.1=k))=true then kvs.map (fun kv=>if kv.1=k then (kv.1,v) else kv) else kvs++[(k,v)]
noncomputable def zeM(kvs:List (κ×V))(k:κ):List (κ×V):=kvs.filter fun kv=>decide (kv.1≠k)
def zcQ{p:κ×V}{r:List (κ×V)}{k:κ}(e:p.1=k):zek (p::r) k=some p.2:=by simp [zek,yb1,e]
def zcR{p:κ×V}{r:List (κ×V)}{k:κ}(e:¬ p.1=k):zek (p::r) k=zek r k:=by simp [zek,yb1,e]
theorem zec(k:κ):∀kvs:List (κ×V),(kvs.any fun kv=>decide (kv.1=k))=(zek kvs k).isSome
 | []=>rfl
 | p::r=>by
  rw [ydc]
  by_cases e:p.1=k
  ·simp only [zcQ e,yaQ e,Bool.true_or,ycZ]
  ·rw [zcR e,ybc e,Bool.false_or];exact zec k r
theorem zde(kvs:List (κ×V))(k:κ)(v:V):(zfD kvs k v).length<=kvs.length+1:=by
 unfold zfD;split
 ·rw [yae];omega
 ·rw [yar,yaj,List.length_nil];omega
def zmA{kvs:List (κ×V)}{k:κ}(v:V)(h:zek kvs k=none):zfD kvs k v=kvs++[(k,v)]:=by
 unfold zfD;rw [zec,h];exact if_neg (by decide)
def zfr.isSome_eq{o:Option V}{u:Option Value}(r:zfr o u):o.isSome=u.isSome:=by
 cases o with
 | none=>cases u with
  | none=>rfl
  | some _=>exact (show False from r).elim
 | some _=>cases u with
  | none=>exact (show False from r).elim
  | some _=>rfl
theorem zfr.getD{o:Option V}{u:Option Value}{d:V}{d':Value}(r:zfr o u)(rd:zaL d d'):zaL (o.getD d) (u.getD d'):=by
 cases o with
 | none=>cases u with
  | none=>exact rd
  | some _=>exact (show False from r).elim
 | some _=>cases u with
  | none=>exact (show False from r).elim
  | some _=>exact r
def KV.val{kvs:List (κ×V)}{vs:List (κ×Value)}(r:KV kvs vs)(k:κ):zfr (zek kvs k) (valueAt vs k):=by
 unfold KV at r
 induction r with
 | nil=>exact True.intro
 | @cons p q ps qs h t ih =>
  obtain ⟨h1,h2⟩:=h
  by_cases e:p.1=k
  ·have e':q.1=k:=h1.symm.trans e
   have b:valueAt (q::qs) k=some q.2:=by simp [valueAt,yb1,e']
   rw [zcQ e,b];exact h2
  ·have e':¬ q.1=k:=fun z=>e (h1.trans z)
   have b:valueAt (q::qs) k=valueAt qs k:=by simp [valueAt,yb1,e']
   rw [zcR e,b];exact ih
theorem KV.any{kvs:List (κ×V)}{vs:List (κ×Value)}(r:KV kvs vs)(k:κ):(kvs.any fun kv=>decide (kv.1=k))=vs.any fun kv=>decide (kv.1=k):=by
 unfold KV at r
 induction r with
 | nil=>rfl
 | cons h t ih=>rw [ydc,ydc,ih,h.1]
def KV.repl{kvs:List (κ×V)}{vs:List (κ×Value)}(r:KV kvs vs)(k:κ){y:V}{u:Value}(ry:zaL y u) :
  KV (kvs.map fun kv=>if kv.1=k then (kv.1,y) else kv) (vs.map fun kv=>if kv.1=k then (kv.1,u) else kv):=by
 unfold KV at r ⊢
 induction r with
 | nil=>exact .nil
 | @cons p q ps qs h t ih =>
  rw [yaz,yaz];refine .cons ?_ ih;obtain ⟨h1,h2⟩:=h
  by_cases e:p.1=k
  ·rw [if_pos e,if_pos (h1.symm.trans e)];exact ⟨h1,ry⟩
  ·rw [if_neg e,if_neg (fun z=>e (h1.trans z))];exact ⟨h1,h2⟩
def KV.put{kvs:List (κ×V)}{vs:List (κ×Value)}(r:KV kvs vs)(k:κ){y:V}{u:Value}(ry:zaL y u):KV (zfD kvs k y) (stored vs k u):=by
 unfold zfD stored;rw [r.any k]
 by_cases e:(vs.any fun kv=>decide (kv.1=k))=true
 ·rw [if_pos e,if_pos e];exact r.repl k ry
 ·rw [if_neg e,if_neg e];exact Paired.snoc r ⟨rfl,ry⟩
def KV.drop{kvs:List (κ×V)}{vs:List (κ×Value)}(r:KV kvs vs)(k:κ):KV (zeM kvs k) (without vs k):=by
 unfold KV at r ⊢;unfold zeM without
 induction r with
 | nil=>exact .nil
 | @cons p q ps qs h t ih =>
  obtain ⟨h1,h2⟩:=h;rw [ybI,ybI]
  by_cases e:p.1=k
  ·have a:¬ decide (p.1≠k)=true:=by simp [e]
   have b:¬ decide (q.1≠k)=true:=by simp [h1.symm.trans e]
   rw [if_neg a,if_neg b];exact ih
  ·have e':¬ q.1=k:=fun z=>e (h1.trans z)
   have a:decide (p.1≠k)=true:=by simp [e]
   have b:decide (q.1≠k)=true:=by simp [e']
   rw [if_pos a,if_pos b];exact .cons ⟨h1,h2⟩ ih
def KV.keys{kvs:List (κ×V)}{vs:List (κ×Value)}(r:KV kvs vs):kvs.map (·.1)=vs.map (·.1):=by
 unfold KV at r
 induction r with
 | nil=>rfl
 | cons h t ih=>rw [yaz,yaz,ih,h.1]
theorem KV.length{kvs:List (κ×V)}{vs:List (κ×Value)}(r:KV kvs vs):kvs.length=vs.length:=Paired.length r
def zno(kvs:List (κ×V))(k:κ):(zeM kvs k).length<=kvs.length:=yaN _ _
end
def zfK{P:Program}{w:World}{k:Key}{u:Value}(r:zaL (kV k) u):(zav P w).is k u=true:=by
 cases k with
 | inl i=>obtain ⟨t,e⟩:=(show ∃t,u=Value.int i t from r);subst e;exact zhx P w i t
 | inr x=>obtain ⟨t,e⟩:=(show ∃t,u=Value.str x t from r);subst e;exact zhw P w x t
theorem zgF{P:Program}{w:World}:∀{ks:List Key} {us:List Value},Vals (ks.map kV) us->ItemsAre (zav P w) ks us
 | [],_,r=>by rw [List.map_nil] at r;cases r;exact .nil
 | k::ks,_,r=>by
  rw [yaz] at r
  cases r with
  | cons h t=>exact .cons (zfK h) (zgF t)
noncomputable abbrev KT(H:Hp):List (List Key×V)->List (List Key×Addr×Value)->Prop:=Paired fun p q=>p.1=q.1/\H q.2.1=some (.tup (p.1.map kV))/\zaL p.2 q.2.2
def KT.val{H:Hp}{kvs:List (List Key×V)}{xs:List (List Key×Addr×Value)}(r:KT H kvs xs)(k:List Key):zfr (zek kvs k) ((atKey xs k).map (·.2)):=by
 induction r with
 | nil=>exact True.intro
 | @cons p q ps qs h t ih =>
  obtain ⟨h1,_,h2⟩:=h
  by_cases e:p.1=k
  ·have e':q.1=k:=h1.symm.trans e
   have b:atKey (q::qs) k=some q.2:=by simp [atKey,yb1,e']
   rw [zcQ e,b];exact h2
  ·have e':¬ q.1=k:=fun z=>e (h1.trans z)
   have b:atKey (q::qs) k=atKey qs k:=by simp [atKey,yb1,e']
   rw [zcR e,b];exact ih
def KT.repl{H:Hp}{kvs:List (List Key×V)}{xs:List (List Key×Addr×Value)}(r:KT H kvs xs)(k:List Key){y:V}{u:Value}(ry:zaL y u) :
  KT H (kvs.map fun kv=>if kv.1=k then (kv.1,y) else kv) (xs.map (putAt k u)):=by
 induction r with
 | nil=>exact .nil
 | @cons p q ps qs h t ih =>
  rw [yaz,yaz];refine .cons ?_ ih;obtain ⟨h1,h2,h3⟩:=h;unfold putAt
  by_cases e:p.1=k
  ·rw [if_pos e,if_pos (h1.symm.trans e)];exact ⟨h1,h2,ry⟩
  ·rw [if_neg e,if_neg (fun z=>e (h1.trans z))];exact ⟨h1,h2,h3⟩
def KT.put{H:Hp}{kvs:List (List Key×V)}{xs:List (List Key×Addr×Value)}(r:KT H kvs xs)(k:List Key){b:Addr}{y:V}{u:Value}(hb:H b=some (.tup (k.map kV)))(ry:zaL y u) :
  KT H (zfD kvs k y) (storedH xs k b u):=by
 have e:(kvs.any fun kv=>decide (kv.1=k))=(atKey xs k).isSome:=by
  rw [zec,(r.val k).isSome_eq,yc7]
 unfold zfD storedH;rw [e]
 by_cases q:(atKey xs k).isSome=true
 ·rw [if_pos q,if_pos q];exact r.repl k ry
 ·rw [if_neg q,if_neg q];exact Paired.snoc r ⟨rfl,hb,ry⟩
def KT.keeps{H H':Hp}{kvs:List (List Key×V)}{xs:List (List Key×Addr×Value)}(r:KT H kvs xs)(ht:∀b ys,H b=some (.tup ys)->H' b=some (.tup ys)):KT H' kvs xs :=
 Paired.mapP r fun _ _ z=>⟨z.1,ht _ _ z.2.1,z.2.2⟩
section
variable{P:Program}{w:World}{H:Hp}{h:Heap}{a:Addr}
def zr3{u:HO}(ok:HOk P w H h)(e:Rd H a u):zaI P w H h a u:=e.ok ok
def zeZ{kvs:List (Key×V)}(ok:HOk P w H h)(e:Rd H a (.dK kvs)):kvs.length<=sizeLine/\(a == sysModules)=false/\∃vs,KV kvs vs/\h.DictOf (zav P w) a vs :=
 show zaI P w H h a (.dK kvs) from zr3 ok e
def zqF{kvs:List (Key×V)}(ok:HOk P w H h)(e:H a=some (.dK kvs)):kvs.length<=sizeLine/\(a == sysModules)=false/\∃vs,KV kvs vs/\h.DictOf (zav P w) a vs:=zeZ ok (.inl e)
def zfd{ks:List Key}(ok:HOk P w H h)(e:H a=some (.tup (ks.map kV))):(tupleKind (zav P w)).is h ks a:=by
 obtain ⟨_,its,r,o,h1,h2,n,h3,_⟩:=(show zaI P w H h a (.tup (ks.map kV)) from ok a _ e);exact ⟨o,its.toArray,n,h1,h2,h3,by simpa using zgF r⟩
def zhH{kvs:List (List Key×V)}(ok:HOk P w H h)(e:Rd H a (.dT kvs)):kvs.length<=sizeLine/\(a == sysModules)=false ∧
  ∃xs,KT H kvs xs/\h.DictOfH (tupleKind (zav P w)) a xs:=by
 obtain ⟨z,y,xs,r,o,es,ep,h1,h2,h3,h4,h5⟩:=(show zaI P w H h a (.dT kvs) from zr3 ok e);refine ⟨z,y,xs,r,o,es,ep,h1,h2,h3,h4,fun x hx=>?_,h5⟩
 have all:∀{l:List (List Key×V)} {m:List (List Key×Addr×Value)},KT H l m->∀x∈m,(tupleKind (zav P w)).is h x.1 x.2.1:=by
  intro l m q
  induction q with
  | nil=>intro x hx;exact nomatch hx
  | @cons p q ps qs hq t ih =>
   intro x hx
   rcases yaw.mp hx with e | hx
   ·subst e;exact zfd ok (by rw [<-hq.1];exact hq.2.1)
   ·exact ih x hx
 exact all r x hx
def zvz{kvs:List (List Key×V)}(ok:HOk P w H h)(e:H a=some (.dT kvs)):kvs.length<=sizeLine/\(a == sysModules)=false ∧
  ∃xs,KT H kvs xs/\h.DictOfH (tupleKind (zav P w)) a xs:=zhH ok (.inl e)
end
noncomputable def zhS(H:Hp)(a:Addr)(y:V)(r:Option V):Prop :=
 (∃kvs k,Rd H a (.dK kvs)/\y=kV k/\r=zek kvs k)\/∃kvs k b,Rd H a (.dT kvs)/\y=.ref b/\H b=some (.tup (k.map kV))/\r=zek kvs k
noncomputable def zq1(H:Hp)(a:Addr)(y v:V)(H':Hp):Prop :=
 (∃kvs k,H a=some (.dK kvs)/\y=kV k/\kvs.length<sizeLine/\H'=upd H a (.dK (zfD kvs k v))) ∨
 ∃kvs k b,H a=some (.dT kvs)/\y=.ref b/\H b=some (.tup (k.map kV))/\kvs.length<sizeLine/\H'=upd H a (.dT (zfD kvs k v))
theorem zhS.k{H:Hp}{a:Addr}{kvs:List (Key×V)}{k:Key}(e:H a=some (.dK kvs)):zhS H a (kV k) (zek kvs k):=.inl ⟨kvs,k,.inl e,rfl,rfl⟩
theorem zq1.k{H:Hp}{a:Addr}{kvs:List (Key×V)}{k:Key}{v:V}(e:H a=some (.dK kvs))(hl:kvs.length<sizeLine):zq1 H a (kV k) v (upd H a (.dK (zfD kvs k v))):=.inl ⟨kvs,k,e,rfl,hl,rfl⟩
section
variable{X:Cx}{pins:Z3}{σ:St}{H:Hp}{s:Shared}{a:Addr}{y v:V}{u r:Value}{o:Option V}{A:Around}{E:Z5}
def Inv.big(I:Inv X pins σ H s):sysModules<s.heap.objs.size:=by
 have h:mainGlobals<s.heap.objs.size:=(I.mod.glob.keeps I.bk).lt;exact Nat.lt_trans (by decide) h
def zgX{Q:Z5}(hu:A.units+1<cLine)(I:Inv X pins σ H s)(g:zhS H a y (some v))(ry:zaL y u)(h:∀w' s',Inv X pins σ H s'->zaL v w'->Q w' s') :
  wpAny (model X.prog X.w) A (getItem (.ref a) u) Q E s:=by
 rcases g with ⟨kvs,k,e,ey,l⟩ | ⟨kvs,k,b,e,ey,eb,l⟩
 ·subst ey;obtain ⟨z,hd,vs,rel,dd⟩:=zeZ I.hok e;obtain ⟨w',hw,rw'⟩:=zfr.some_of (v:=v) (o:=valueAt vs k) (by rw [l];exact rel.val k);exact wpAny_getItem_of (zfK ry) dd.mapOf hw (h w' _ (I.tok _) rw')
 ·subst ey;cases (show u=Value.ref b from ry);obtain ⟨z,hd,xs,rel,dd⟩:=zhH I.hok e;obtain ⟨w',hw,rw'⟩:=zfr.some_of (v:=v) (o:=(atKey xs k).map (·.2)) (by rw [l];exact rel.val k);obtain ⟨p,hp,hp2⟩:=yat.mp hw;refine wpAny_getItem_heap (ybW hu) (zfd I.hok eb) dd hp ?_;rw [hp2];exact h w' _ (I.tok _) rw'
def zxa{Q:Z5}(hu:A.units+1<cLine)(I:Inv X pins σ H s)(g:zhS H a y o)(ry:zaL y u)(h:∀s',Inv X pins σ H s'->Q (.bool o.isSome) s') :
  wpAny (model X.prog X.w) A (compareOp .In u (.ref a)) Q E s:=by
 rcases g with ⟨kvs,k,e,ey,l⟩ | ⟨kvs,k,b,e,ey,eb,l⟩
 ·subst ey;obtain ⟨z,hd,vs,rel,dd⟩:=zeZ I.hok e;refine wpAny_in_of (zfK ry) hd dd.mapOf ?_;rw [<-(rel.val k).isSome_eq,<-l];exact h _ (I.tok _)
 ·subst ey;cases (show u=Value.ref b from ry);obtain ⟨z,hd,xs,rel,dd⟩:=zhH I.hok e;refine wpAny_in_heap (ybW hu) (zfd I.hok eb) hd dd ?_;have q:=(rel.val k).isSome_eq;rw [yc7] at q;rw [<-q,<-l];exact h _ (I.tok _)
def zlL{Q:Z5}(hu:A.units+1<cLine)(I:Inv X pins σ H s)(g:zhS H a y o)(ry:zaL y u)(h:∀s',Inv X pins σ H s'->Q (.bool (!o.isSome)) s') :
  wpAny (model X.prog X.w) A (compareOp .NotIn u (.ref a)) Q E s:=by
 rcases g with ⟨kvs,k,e,ey,l⟩ | ⟨kvs,k,b,e,ey,eb,l⟩
 ·subst ey;obtain ⟨z,hd,vs,rel,dd⟩:=zeZ I.hok e;refine wpAny_notIn_of (zfK ry) hd dd.mapOf ?_;rw [<-(rel.val k).isSome_eq,<-l];exact h _ (I.tok _)
 ·subst ey;cases (show u=Value.ref b from ry);obtain ⟨z,hd,xs,rel,dd⟩:=zhH I.hok e;refine wpAny_notIn_heap (ybW hu) (zfd I.hok eb) hd dd ?_;have q:=(rel.val k).isSome_eq;rw [yc7] at q;rw [<-q,<-l];exact h _ (I.tok _)
def zhJ{h':Heap}{t':Nat}{ob:HO}(I:Inv X pins σ H s)(mu:Mut (H a))(hs:Heap.SameBut a s.heap h')(he:∃q,h'.get? a=some q)(new:zaI X.prog X.w (upd H a ob) h' a ob) :
  Inv X pins σ (upd H a ob) { s with heap:=h',toks:=t' } :=
 I.write (x:=a) (e:=a) mu (.inl rfl) (fun b q hb z=>(hs.2 b hb).trans z) he new
def zos{P:Program}{w:World}{H':Hp}{h':Heap}{kvs:List (Key×V)}{vs:List (Key×Value)}(z:kvs.length<=sizeLine)(hd:(a == sysModules)=false)(rel:KV kvs vs)(dd:h'.DictOf (zav P w) a vs) :
  zaI P w H' h' a (.dK kvs):=⟨z,hd,vs,rel,dd⟩
def zgW{H':Hp}{Q:Unit->Shared->Prop}(hu:A.units+1<cLine)(I:Inv X pins σ H s)(g:zq1 H a y v H')(ry:zaL y u)(rv:zaL v r)(h:∀s',Inv X pins σ H' s'->Q () s') :
  wpAny (model X.prog X.w) A (setItem (.ref a) u r) Q E s:=by
 rcases g with ⟨kvs,k,e,ey,l,eH⟩ | ⟨kvs,k,b,e,ey,eb,l,eH⟩
 ·subst ey eH;obtain ⟨z,hd,vs,rel,dd⟩:=zqF I.hok e
  have hz:vs.length<=sizeLine:=by rw [<-rel.length];exact z
  have hl:(zfD kvs k v).length<=sizeLine:=by have:=zde kvs k v;omega
  refine wpAny_setItem_pairs (hsz:=hz) (zfK ry) dd fun h' dd' hs=>h _ ?_
  have he:∃q,h'.get? a=some q:=let ⟨q,_,_,hq,_⟩:=dd';⟨q,hq⟩
  exact zhJ I (by rw [e];exact True.intro) hs he (zos hl hd (rel.put k rv) dd')
 ·subst ey eH;cases (show u=Value.ref b from ry);obtain ⟨z,hd,xs,rel,dd⟩:=zvz I.hok e
  have hz:xs.length<=sizeLine:=by rw [<-Paired.length rel];exact z
  have hl:(zfD kvs k v).length<=sizeLine:=by have:=zde kvs k v;omega
  refine wpAny_setItem_heap (hsz:=hz) (ybW hu) (zfd I.hok eb) dd fun h' dd' hs=>h _ ?_
  obtain ⟨q,es,ep,hq,h2,h3,h4,_,h5⟩:=dd';refine zhJ I (by rw [e];exact True.intro) hs ⟨q,hq⟩ ⟨hl,hd,_,(rel.put k eb rv).keeps fun c ys ec=>?_,q,es,ep,hq,h2,h3,h4,h5⟩;rw [zac (zu8 ec e (fun z=>nomatch z))];exact ec
end
section
variable{X:Cx}{pins:Z3}{σ:St}{H:Hp}{s:Shared}{a:Addr}{kvs:List (Key×V)}{k:Key}{u:Value}{A:Around}{E:Z5}
def zvA{v:V}{more:List Value}{Q:Z5}(I:Inv X pins σ H s)(e:H a=some (.dK kvs))(ry:zaL (kV k) u)(l:zek kvs k=some v)(hm:more=[]\/∃x,more=[x])
  (h:∀w' s',Inv X pins σ (upd H a (.dK (zeM kvs k))) s'->zaL v w'->Q w' s'):wpAny (model X.prog X.w) A (call (.builtin "dict.pop") (.ref a::u::more)) Q E s:=by
 obtain ⟨z,hd,vs,rel,dd⟩:=zqF I.hok e;obtain ⟨w',hw,rw'⟩:=zfr.some_of (v:=v) (o:=valueAt vs k) (by rw [<-l];exact rel.val k)
 have hp:(keyPart u).isSome=true:=by
  cases k with
  | inl i=>obtain ⟨t,q⟩:=(show ∃t,u=Value.int i t from ry);subst q;rfl
  | inr x=>obtain ⟨t,q⟩:=(show ∃t,u=Value.str x t from ry);subst q;rfl
 have ha:argsOk "dict.pop" ⟨.ref a::u::more,[]⟩:=by
  rcases hm with q | ⟨x,q⟩
  ·subst q;exact PySem.F.args_dict_pop_2 _ _
  ·subst q;exact PySem.F.args_dict_pop_3 _ _ _
 refine call_meetsIn ycB dd.typeIs PySem.F.entry_dict_pop ha (meets_dict_pop_there (zav X.prog X.w) a (zfK ry) more hm hp)
  ⟨vs,w',dd,by rw [<-rel.length];exact z,hw,fun h' dd' hs=>h w' _ ?_ rw'⟩
 have he:∃q,h'.get? a=some q:=let ⟨q,_,_,hq,_⟩:=dd';⟨q,hq⟩
 exact zhJ I (by rw [e];exact True.intro) hs he (zos (yam (zno kvs k) z) hd (rel.drop k) dd')
def ztu{r:Value}{Q:Z5}(I:Inv X pins σ H s)(e:H a=some (.dK kvs))(ry:zaL (kV k) u)(l:zek kvs k=none)(h:∀s',Inv X pins σ H s'->Q r s') :
  wpAny (model X.prog X.w) A (call (.builtin "dict.pop") [.ref a,u,r]) Q E s:=by
 obtain ⟨z,hd,vs,rel,dd⟩:=zqF I.hok e;have hn:valueAt vs k=none:=zfr.none_of (by rw [<-l];exact rel.val k)
 have hp:(keyPart u).isSome=true:=by
  cases k with
  | inl i=>obtain ⟨t,q⟩:=(show ∃t,u=Value.int i t from ry);subst q;rfl
  | inr x=>obtain ⟨t,q⟩:=(show ∃t,u=Value.str x t from ry);subst q;rfl
 exact call_meetsIn ycB dd.typeIs PySem.F.entry_dict_pop (PySem.F.args_dict_pop_3 _ _ _) (meets_dict_pop_default (zav X.prog X.w) a (zfK ry) hd hp r) ⟨vs,dd,hn,h _ (I.tok _)⟩
end
noncomputable def zvO(i:Expr):Prop:=∀ov iv,subscripted i false ov iv=operate [ov,iv] (getItem ov iv)
def zoT{prog:Program}{w:World}{A:Around}{E:Z5}{s:Shared}{env:Env}{value slice:Expr}{pos:Pos}{T id:String}{Q:Z5}
  (hl:typeLookup (.type T) "__getitem__" = pure (some (.builtin id))) (hs:zvO slice)
  (h:wpAny (model prog w) A (eval value env) (fun o s₁=>wpAny (model prog w) A (eval slice env) (fun i s₂=>s₂.TypeIs o T/\wpAny (model prog w) A (getItem o i) Q E s₂) E s₁) E s) :
  wpAny (model prog w) A (eval (.Subscript value slice pos) env) Q E s:=by
 refine Subscript_ (ybd h (fun o s₁ h₁=>ybd h₁ (fun i s₂ h₂=>?_) fun _ _ x=>x) fun _ _ x=>x);obtain ⟨hT,h₂⟩:=h₂;unfold subscriptTail;refine yaa ?_;rw [getitemInPython_of_ne hT.not_modules];refine yaa (ycS hT hl ?_)
 have fin:wpAny (model prog w) A (subscripted slice false o i) (fun r s₃=>wpAny (model prog w) A (letTemporaryGo value o r >>= fun _=>pure r) Q E s₃) E s₂:=by
  rw [hs o i];exact wpAny_operating (ybd h₂ (fun r s₃ h₃=>yaa (wpAny_letTemporaryGo (yad h₃))) fun _ _ x=>x)
 first
  | exact yad (yaa fin)
  | exact yaa (yad (yaa fin))
  | exact yaa fin
def zeN{X:Cx}{pins:Z3}{σ:St}{H:Hp}{s:Shared}{a:Addr}{y:V}{o:Option V}(I:Inv X pins σ H s)(g:zhS H a y o):s.TypeIs (.ref a) "dict":=by
 rcases g with ⟨kvs,k,e,_,_⟩ | ⟨kvs,k,b,e,_,_,_⟩
 ·obtain ⟨_,_,vs,_,dd⟩:=zeZ I.hok e;exact dd.typeIs
 ·obtain ⟨_,_,xs,_,dd⟩:=zhH I.hok e;exact dd.typeIs
noncomputable def zut(td ty:TE):TE:=fun σ H Q=>td σ H fun x H1=>ty σ H1 fun y H2=>∃a v,x=.ref a/\zhS H2 a y (some v)/\Q v H2
noncomputable def zwn(ty td:TE):TE:=fun σ H Q=>ty σ H fun y H1=>td σ H1 fun x H2=>∃a o,x=.ref a/\zhS H2 a y o/\Q (.bl o.isSome) H2
noncomputable def zkd(ty td:TE):TE:=fun σ H Q=>ty σ H fun y H1=>td σ H1 fun x H2=>∃a o,x=.ref a/\zhS H2 a y o/\Q (.bl (!o.isSome)) H2
noncomputable def zuM(td ty tv:TE):TS:=fun D σ H=>tv σ H fun v H1=>td σ H1 fun x H2=>ty σ H2 fun y H3=>∃a H4,x=.ref a/\zq1 H3 a y v H4/\D.nx σ H4
section
variable{X:Cx}{o i e value:Expr}{pos pos' tpos:Pos}{td ty tv:TE}
def zpO(hu:X.A.units+1<cLine)(ho:PE X o td)(hi:PE X i ty)(hs:zvO i):PE X (.Subscript o i pos) (zut td ty):=by
 intro pins s σ H Q I h;refine zoT PySem.F.slot_dict_getitem.lookup hs (thn (ho pins s σ H _ I h) fun u s1 ⟨x,H1,I1,rx,q1⟩=>thn (hi pins s1 σ H1 _ I1 q1) fun iv s2 ⟨y,H2,I2,ry,a,v,ex,g,q2⟩=>?_);subst ex;obtain rfl:u=Value.ref a:=rx;exact ⟨zeN I2 g,zgX hu I2 g ry fun w' s3 I3 rw'=>⟨v,H2,I3,rw',q2⟩⟩
def zoa(hu:X.A.units+1<cLine)(hi:PE X i ty)(ho:PE X o td):PC X .In i o (zwn ty td):=by
 intro pins s σ H Q I h;refine thn (hi pins s σ H _ I h) fun iv s1 ⟨y,H1,I1,ry,q1⟩=>thn (ho pins s1 σ H1 _ I1 q1) fun u s2 ⟨x,H2,I2,rx,a,ov,ex,g,q2⟩=>?_
 subst ex;obtain rfl:u=Value.ref a:=rx;exact zxa hu I2 g ry fun s3 I3=>⟨.bl ov.isSome,H2,I3,rfl,q2⟩
def zgw(hu:X.A.units+1<cLine)(hi:PE X i ty)(ho:PE X o td):PC X .NotIn i o (zkd ty td):=by
 intro pins s σ H Q I h;refine thn (hi pins s σ H _ I h) fun iv s1 ⟨y,H1,I1,ry,q1⟩=>thn (ho pins s1 σ H1 _ I1 q1) fun u s2 ⟨x,H2,I2,rx,a,ov,ex,g,q2⟩=>?_
 subst ex;obtain rfl:u=Value.ref a:=rx;exact zlL hu I2 g ry fun s3 I3=>⟨.bl (!ov.isSome),H2,I3,rfl,q2⟩
def zpD(hu:X.A.units+1<cLine)(ho:PE X o td)(hi:PE X i ty)(hv:PE X value tv)(hs:swapsWith value (some (.Subscript o i pos')) pos.line X.env=pure false) :
  PS X (.Assign [.Subscript o i pos'] value pos) (zuM td ty tv):=by
 intro pins s σ H D I h;refine wpAny_Assign_Subscript (thn (hv pins s σ H _ I h) fun r s1 ⟨v,H1,I1,rv,q1⟩=>thn (ho pins s1 σ H1 _ I1 q1) fun u s2 ⟨x,H2,I2,rx,q2⟩=>thn (hi pins s2 σ H2 _ I2 q2) fun iv s3 ⟨y,H3,I3,ry,a,H4,ex,g,q3⟩=>?_) hs;subst ex;obtain rfl:u=Value.ref a:=rx;exact zgW hu I3 g ry rv fun s4 I4=>⟨σ,H4,I4,q3⟩
end
def znp{P:Program}{w:World}{H:Hp}(h:Heap)(hb:sysModules<h.objs.size):zaI P w H (h.push { cls:=.type "dict",data:=.dict #[] }) h.objs.size (.dK []) :=
 ⟨ya2 _,ybn.mpr (Ne.symm (yas hb)),[],.nil,Heap.DictOf.new h⟩
noncomputable def zrm:TE:=fun _ H Q=>∀p,H p=none->Q (.ref p) (upd H p (.dK []))
section
variable{X:Cx}{pos:Pos}
def zil:PE X (.Dict [] [] pos) zrm:=fun pins s σ H Q I h =>
 wpAny_Dict_empty ⟨.ref s.heap.objs.size,_,I.laid (a:=s.heap.objs.size) (o:=.dK []) (t':=s.toks) (fun _ _ q=>yaf _ q) (yah _) (znp s.heap I.big),rfl,h _ (I.hok.fresh (yah _))⟩
end
structure M1(X:Cx)(o:Expr)(m:Str)(apos:Pos)(e:Expr)(cpos:Pos):Prop where
 base:attributeBase o m X.env (eval o X.env)=eval o X.env
 few:((backTo cpos (starEach [e] X.env)).all (fun x=>!x.1)&&(backToKw cpos (keywordEach [] X.env)).all (fun x=>x.1.isSome)
  && decide (([e]:List Expr).length+([]:List Keyword).length+(if ([]:List Keyword).isEmpty then 0 else 1)<30))=true
 line:(apos.endLine == cpos.line)=true
 trees:backTo cpos (starEach [e] X.env)=[(false,eval e X.env)]
structure M2(X:Cx)(o:Expr)(m:Str)(apos:Pos)(e f:Expr)(cpos:Pos):Prop where
 base:attributeBase o m X.env (eval o X.env)=eval o X.env
 few:((backTo cpos (starEach [e,f] X.env)).all (fun x=>!x.1)&&(backToKw cpos (keywordEach [] X.env)).all (fun x=>x.1.isSome)
  && decide (([e,f]:List Expr).length+([]:List Keyword).length+(if ([]:List Keyword).isEmpty then 0 else 1)<30))=true
 line:(apos.endLine == cpos.line)=true
 trees:backTo cpos (starEach [e,f] X.env)=[(false,eval e X.env),(false,eval f X.env)]
noncomputable def IsD(H:Hp)(a:Addr):Prop:=(∃kvs,Rd H a (.dK kvs))\/∃kvs,Rd H a (.dT kvs)
def zoj{X:Cx}{pins:Z3}{σ:St}{H:Hp}{s:Shared}{a:Addr}(I:Inv X pins σ H s)(d:IsD H a) :
  s.TypeIs (.ref a) "dict" /\ (∀b,Value.ref a=.ref b->∃ob,s.heap.get? b=some ob/\ob.dict=none)/\(a == sysModules)=false:=by
 rcases d with ⟨kvs,e⟩ | ⟨kvs,e⟩
 ·obtain ⟨_,hd,vs,_,dd⟩:=zeZ I.hok e;refine ⟨dd.typeIs,fun b q=>?_,hd⟩;cases q;obtain ⟨ob,_,_,h1,h2,_⟩:=dd;exact ⟨ob,h1,h2.2.1⟩
 ·obtain ⟨_,hd,xs,_,dd⟩:=zhH I.hok e;refine ⟨dd.typeIs,fun b q=>?_,hd⟩;cases q;obtain ⟨ob,_,_,h1,h2,_⟩:=dd;exact ⟨ob,h1,h2.2.1⟩
section
variable{X:Cx}{pins:Z3}{σ:St}{H:Hp}{s:Shared}{a:Addr}{y d:V}{u r:Value}{o:Option V}{A:Around}{E:Z5}
def ztv{Q:Z5}(hu:A.units+1<cLine)(I:Inv X pins σ H s)(g:zhS H a y o)(ry:zaL y u)(h:∀w' s',Inv X pins σ H s'->zaL (o.getD .non) w'->Q w' s') :
  wpAny (model X.prog X.w) A (call (.builtin "dict.get") [.ref a,u]) Q E s:=by
 rcases g with ⟨kvs,k,e,ey,l⟩ | ⟨kvs,k,b,e,ey,eb,l⟩
 ·subst ey;obtain ⟨z,hd,vs,rel,dd⟩:=zeZ I.hok e;refine call_meetsIn ycC dd.typeIs PySem.F.entry_dict_get (PySem.F.args_dict_get_2 _ _) (meets_dict_get (zav X.prog X.w) a (zfK ry) hd) ⟨_,dd.mapOf,h _ _ (I.tok _) ?_⟩;rw [l];exact (rel.val k).getD rfl
 ·subst ey;cases (show u=Value.ref b from ry);obtain ⟨z,hd,xs,rel,dd⟩:=zhH I.hok e;refine call_meetsIn ycC dd.typeIs PySem.F.entry_dict_get (PySem.F.args_dict_get_2 _ _) (meetsH_dict_get (tupleKind (zav X.prog X.w)) a b hd) ⟨ybW hu,k,xs,zfd I.hok eb,dd,h _ _ (I.tok _) ?_⟩;rw [l];exact (rel.val k).getD rfl
end
noncomputable def zrn(td ty:TE):TE:=fun σ H Q=>td σ H fun x H1=>∃a,x=.ref a/\IsD H1 a/\ty σ H1 fun y H2=>∃o,zhS H2 a y o/\Q (o.getD .non) H2
noncomputable def zrl(td ty tx:TE):TE:=fun σ H Q=>td σ H fun x H1=>∃a,x=.ref a/\IsD H1 a/\ty σ H1 fun y H2=>tx σ H2 fun z H3=>∃kvs k,H3 a=some (.dK kvs)/\y=kV k ∧
 (∀v,zek kvs k=some v->Q v (upd H3 a (.dK (zeM kvs k))))/\(zek kvs k=none->Q z H3)
section
variable{X:Cx}{o e f:Expr}{apos cpos:Pos}{td ty tx:TE}
def zmK(hu:X.A.units+1<cLine)(ho:PE X o td)(he:PE X e ty)(m:M1 X o "get" apos e cpos):PE X (.Call (.Attribute o "get" apos) [e] [] cpos) (zrn td ty):=by
 intro pins s σ H Q I h;refine wpAny_Call_method m.base m.few m.line PySem.F.plainAttrs_dict ycC PySem.F.type_dict_get (thn (ho pins s σ H _ I h) fun u s1 ⟨x,H1,I1,rx,a,ex,d,q1⟩=>?_);subst ex;obtain rfl:u=Value.ref a:=rx;obtain ⟨t1,t2,_⟩:=zoj I1 d;refine ⟨t1,t2,?_⟩;rw [m.trees];refine ybV rfl (yb7 (yci (thn (he pins s1 σ H1 _ I1 q1) fun iv s2 ⟨y,H2,I2,ry,ov,g,q2⟩=>yc5 ?_)));exact ztv hu I2 g ry fun w' s3 I3 rw'=>⟨_,H2,I3,rw',q2⟩
def zmJ(ho:PE X o td)(he:PE X e ty)(hf:PE X f tx)(m:M2 X o "pop" apos e f cpos):PE X (.Call (.Attribute o "pop" apos) [e,f] [] cpos) (zrl td ty tx):=by
 intro pins s σ H Q I h;refine wpAny_Call_method m.base m.few m.line PySem.F.plainAttrs_dict ycB PySem.F.type_dict_pop (thn (ho pins s σ H _ I h) fun u s1 ⟨x,H1,I1,rx,a,ex,d,q1⟩=>?_);subst ex;obtain rfl:u=Value.ref a:=rx;obtain ⟨t1,t2,_⟩:=zoj I1 d;refine ⟨t1,t2,?_⟩;rw [m.trees]
 refine ybV rfl (yb7 (yci (thn (he pins s1 σ H1 _ I1 q1) fun iv s2 ⟨y,H2,I2,ry,q2⟩ =>
  yci (thn (hf pins s2 σ H2 _ I2 q2) fun fv s3 ⟨z,H3,I3,rz,kvs,k,ea,ey,q3,q4⟩=>yc5 ?_))))
 subst ey
 cases l:zek kvs k with
 | some v=>exact zvA I3 ea ry l (.inr ⟨fv,rfl⟩) fun w' s4 I4 rw'=>⟨v,_,I4,rw',q3 v l⟩
 | none=>exact ztu I3 ea ry l fun s4 I4=>⟨z,H3,I4,rz,q4 l⟩
end
noncomputable def zgY(CX:CXT)(P:Program)(w:World)(K:PySem.W.Frag)(mg:Z6)(base:Heap)(N:List Str)(qual:Str)(scope:Scope)(f:Addr)(cd:Value)(clos:List (Str×Addr))(A:Around)(outer:List Env)(s:Shared)(H:Hp)(E:XK):Cx where
 prog:=P
 w:=w
 K:=K
 mg:=mg
 base:=base
 A:=A.deeper (PySem.W.envX qual scope s.heap.objs.size f cd clos)
 N:=N
 s₀:=s
 H₀:=H
 env:=PySem.W.envX qual scope s.heap.objs.size f cd clos
 outer:=outer
 stack:=PySem.W.envX qual scope s.heap.objs.size f cd clos::outer
 ex:=[]
 calm:=true
 fn:=fun _=>false
 pn:=[]
 xe:=fun e s'=>wpAny (model P w) (A.deeper (PySem.W.envX qual scope s.heap.objs.size f cd clos)) (leaving (PySem.W.envX qual scope s.heap.objs.size f cd clos) e) (fun _ s''=>CX outer H s E e s'') (fun e' s''=>CX outer H s E e' s'') s'
structure LamSc(N:List Str)(sc:Scope):Prop where
 kind:sc.kind=.function
 co:sc.isCoroutine=false
 gen:sc.isGenerator=false
 nocell:∀y∈sc.names,y.2≠.cell
 free:∀x∈N,sc.names.lookup x=some .free
structure LamAt(h:Heap)(H:Hp)(f:Addr)(params:Arguments)(qual:Str)(body:Expr)(sc:Scope)(N:List Str)(vs:List V)(clos:List (Str×Addr))(c:Addr)(pm ctv:Value):Prop where
 fn:h.get? f=some (PySem.W.kla_obj "<lambda>" qual params body sc clos pm c ctv)
 code:h.CodeRec (.ref c) qual
 inj:∀x y a,clos.lookup x=some a->clos.lookup y=some a->x=y
 has:∀x,sc.names.lookup x=some .free->∃a,clos.lookup x=some a
 cell:∀x a,clos.lookup x=some a->H a=none/\∃v,h.IsCell a v
 val:∀(i:Nat) (x:Str) (v:V),N[i]?=some x->vs[i]?=some v->∃u a,zaL v u/\clos.lookup x=some a/\h.IsCell a (some u)
 len:vs.length=N.length
def LamAt.keep{h h':Heap}{H H':Hp}{f:Addr}{params:Arguments}{qual:Str}{body:Expr}{sc:Scope}{N:List Str}{vs:List V}{clos:List (Str×Addr)}{c:Addr}{pm ctv:Value}
  (L:LamAt h H f params qual body sc N vs clos c pm ctv) (kf:∀o,h.get? f=some o->h'.get? f=some o) (kc:∀o,h.get? c=some o->h'.get? c=some o) (k:∀x a o,clos.lookup x=some a->h.get? a=some o->h'.get? a=some o/\H' a=none):LamAt h' H' f params qual body sc N vs clos c pm ctv:=by
 obtain ⟨f1,⟨c',oc,us,t,ec,c1,c2⟩,i,hs,ce,vl,ln⟩:=L;cases ec;refine ⟨kf _ f1,⟨_,oc,us,t,rfl,kc _ c1,c2⟩,i,hs,fun x a e=>?_,fun j x v e1 e2=>?_,ln⟩
 ·obtain ⟨h1,v,o,h3,h4⟩:=ce x a e;exact ⟨(k _ _ _ e h3).2,v,o,(k _ _ _ e h3).1,h4⟩
 ·obtain ⟨u,a,r,e,o,h3,h4⟩:=vl j x v e1 e2;exact ⟨u,a,r,e,o,(k _ _ _ e h3).1,h4⟩
def zld{CX:CXT}{P:Program}{w:World}{K:PySem.W.Frag}{mg:Z6}{base:Heap}{N:List Str}{qual:Str}{params:Arguments}{body:Expr}{sc:Scope}{f c:Addr}{clos:List (Str×Addr)}{A:Around}{outer:List Env}{s:Shared}{h1:Heap}{tk:Nat}{H:Hp}{E:XK}{vs:List V}{pm ctv:Value}
  (S:LamSc N sc) (hd:A.handled=none) (e0:Env0 P w K mg base A outer s H) (L:LamAt s.heap H f params qual body sc N vs clos c pm ctv) (hn:h1.Ns s.heap.objs.size (fun _=>none)) (hk:∀b o,s.heap.get? b=some o->h1.get? b=some o) :
  Inv (zgY CX P w K mg base N qual sc f (.ref c) clos A outer s H E) [] (vs.map some) H { s with heap:=h1,toks:=tk }:=by
 have noA:∀b:Addr,b ∉ (zgY CX P w K mg base N qual sc f (.ref c) clos A outer s H E).ex:=fun b z=>absurd (show b∈([]:List Addr) from z) (by simp)
 refine ⟨⟨e0.mod,S.kind,rfl,rfl,yah _,fun y z a h1 h2=>L.inj y z a h1 h2,fun y hy=>?_,(fun y a h _=>by cases h),fun _=>hd,Around.frames_deeper e0.frames,.inr ⟨rfl,rfl⟩,fun b z=>absurd z (noA b),e0.bs,e0.bsz,fun b _ _=>noA b,fun b z=>absurd z (noA b),e0.funs,e0.frf⟩,
  rfl,e0.bare,Un.kept hk,⟨_,hn,fun i y v h1 h2 h3=>?_⟩,fun y a h=>?_,e0.hok.fresh (yah _),fun y a h=>(L.cell y a h).1,fun p hp=>absurd (show p∈([]:Z3) from hp) (by simp),e0.hok.kept hk,?_⟩
 ·rcases (hy:sc.names.lookup y=some .cell\/sc.names.lookup y=some .free) with hy | hy
  ·exact absurd rfl (S.nocell _ (yaB hy))
  ·exact L.has y hy
 ·rw [yaq] at h2
  cases e:vs[i]? with
  | none=>rw [e] at h2;cases h2
  | some x =>
   rw [e] at h2;cases h2;obtain ⟨u,a,r,e1,o,h3,h4⟩:=L.val i y v h1 e;exact ⟨u,r,.inr ⟨.inr (S.free y (yba h1)),a,e1,o,hk _ _ h3,h4⟩⟩
 ·obtain ⟨_,v,o,h3,h4⟩:=L.cell y a h;exact ⟨v,o,hk _ _ h3,h4⟩
 ·show (vs.map some).length=N.length;rw [yae,L.len]
def zqa{CX:CXT}{P:Program}{w:World}{K:PySem.W.Frag}{mg:Z6}{base:Heap}{k:Nat}{N:List Str}{qual:Str}{params:Arguments}{body:Expr}{sc:Scope}{f c:Addr}{clos:List (Str×Addr)}{A:Around}{outer:List Env}{s:Shared}{H:Hp}{E:XK}{Q:VK}{vs:List V}{pm ctv:Value}{te:TE}
  (S:LamSc N sc) (hr:Room (k+1) A) (e0:Env0 P w K mg base A outer s H) (L:LamAt s.heap H f params qual body sc N vs clos c pm ctv) (hb:bindArgs (PySem.W.kla_fn "<lambda>" qual params body sc clos pm (.ref c) ctv) ⟨[],[]⟩=pure [])
  (hp:Room k (A.deeper (PySem.W.envX qual sc s.heap.objs.size f (.ref c) clos))->PE (zgY CX P w K mg base N qual sc f (.ref c) clos A outer s H E) body te) (hq:te (vs.map some) H Q) :
  codeAny (model P w) A (.call (.ref f) ⟨[],[]⟩) (CR CX outer P w H s Q E) s:=by
 have lim:s.heap.NoLimit:=e0.mod.nolimit.keeps fun b o e=>(e0.bs b o e).1
 refine PySem.W.kla_callFunE hr.depth L.fn rfl S.co S.gen rfl L.code ?_;rw [hb];refine yad (wpAny_newFunctionEnv S.nocell (fun _ z=>by cases z) (fun h₁ hns hsb=>⟨lim.fresh _ hsb,?_⟩) S.kind);have hk:∀b o,s.heap.get? b=some o->h₁.get? b=some o:=fun b o e=>hsb.extBut b o (yas (yak e)) (yaf _ e)
 show codeAny _ _ (.expr body (PySem.W.envX qual sc s.heap.objs.size f (.ref c) clos)) _ _;have I:=zld (CX:=CX) (E:=E) (tk:=s.toks+0) S hr.hd e0 L hns hk;refine PySem.W.kla_codeExpr (ybd (hp (hr.deeper _) [] _ _ H Q I hq) (fun u s' ⟨v,H',J,rv,q⟩=>?_) fun e s' hs=>hs);exact ⟨v,H',J.os,J.bare,J.base,J.hok,rv,q⟩
section
variable{X:Cx}{CX:CXT}{k:Nat}{N:List Str}{qual x:Str}{params:Arguments}{body:Expr}{sc:Scope}{f c:Addr}{clos:List (Str×Addr)}{E:XK}{vs:List V}{pm ctv:Value}{of oc:Obj}{uf uc:HO}{te:TE}{p pos:Pos}{i:Nat}
def Inv.lamAt{pins:Z3}{σ:St}{H:Hp}{s:Shared}(I:Inv X pins σ H s)(L:LamAt X.s₀.heap X.H₀ f params qual body sc N vs clos c pm ctv)(hf:X.H₀ f=some (.frz of uf))(hc:X.H₀ c=some (.frz oc uc))(h0:HOk X.prog X.w X.H₀ X.s₀.heap)
  (hx:∀x a,clos.lookup x=some a->a ∉ X.fs/\a ∉ X.ex):LamAt s.heap H f params qual body sc N vs clos c pm ctv:=by
 have fz:∀b ob u,X.H₀ b=some (.frz ob u)->∀o,X.s₀.heap.get? b=some o->s.heap.get? b=some o:=fun b ob u e o g=>by
  have e1:=(h0 b _ e).1;have e2:=(I.hok b _ (I.base.frzs b ob u e)).1;rw [e1] at g;cases g;exact e2
 exact L.keep (fz f of uf hf) (fz c oc uc hc) fun y a o e g=>⟨I.base.keep a o g (L.cell y a e).1 (hx y a e).1 (hx y a e).2,I.base.free a o g (L.cell y a e).1 (hx y a e).2⟩
end
section
variable{X:Cx}{pins:Z3}{σ:St}{H:Hp}{s:Shared}{P c:Addr}{ps more:Array Value}{h':Heap}{t':Nat}
def Inv.tblUp(I:Inv X pins σ H s)(hP:H P=some (.tbl ps))(hx:Heap.ExtBut P s.heap h')(ht:h'.get? P=some (PySem.W.tabObj (ps++more))):Inv X pins σ (upd H P (.tbl (ps++more))) { s with heap:=h',toks:=t' }:=by
 have ne:∀b,H b=none->b≠P:=fun b e z=>by rw [z,hP] at e;cases e
 refine I.un ⟨fun b o e n _ _=>hx b o (ne b n) e,fun b o e n _ _=>⟨o.slots,hx b o (ne b n) e⟩,fun b o e n _=>by rw [zac (ne b n)];exact n,fun b o e _=>?_,fun b xs e=>?_,fun b o u e=>?_,fun b qs e=>?_⟩ fun b u q=>?_
 ·by_cases hb:b=P
  ·exact ⟨_,hb ▸ ht⟩
  ·exact ⟨o,hx b o hb e⟩
 ·rw [zac (fun z=>by rw [z,hP] at e;cases e)];exact e
 ·rw [zac (fun z=>by rw [z,hP] at e;cases e)];exact e
 ·by_cases hb:b=P
  ·subst hb;rw [hP] at e;cases e;exact ⟨more,zag⟩
  ·exact ⟨#[],by rw [zac hb,e];simp⟩
 ·by_cases hb:b=P
  ·subst hb;rw [zag] at q;cases q;exact ht
  ·rw [zac hb] at q
   refine (I.hok b u q).stay (fun d v hd r=>hx d v ?_ r) (fun d r=>by rw [zac (fun z=>by rw [z,hP] at r;cases r)];exact r) fun d xs r=>by rw [zac (fun z=>by rw [z,hP] at r;cases r)];exact r
   rcases hd with rfl | hd
   ·exact hb
   ·exact fun z=>by rw [z,hP] at hd;cases hd
end
noncomputable def zi0(qual:Str)(oc:Obj):Prop:=∃us t,oc.data=.fields us/\us[1]?=some (.str qual t)
noncomputable def znM(mg:Z6)(h:Heap):Prop:=∃bm ob,mg "__builtins__" = some (.ref bm)/\bm≠builtinsNs/\h.get? bm=some ob/\ob.cls=.type "module" /\ ob.dict=some builtinsNs/\ob.data=.plain
noncomputable def zxJ(P:Addr)(pos:Pos)(fo:Addr->Value->Obj)(qual:Str):TE:=fun σ H Q=>∃ps,H P=some (.tbl ps)/\TriplesOk ps.toList ∧
 (codeAmong pos ps.toList=none->∀f c oc ctv,H f=none->H c=none->f≠c->zi0 qual oc →
  Q (.ref f) (upd (upd (upd H P (.tbl (ps++#[rawInt pos.line,rawInt pos.col,.ref c]))) c (.frz oc (.own c))) f (.frz (fo c ctv) (.own f)))) ∧
 ∀cv,codeAmong pos ps.toList=some cv->∃c oc,cv=.ref c/\H c=some (.frz oc (.own c))/\zi0 qual oc/\∀f ctv,H f=none->Q (.ref f) (upd H f (.frz (fo c ctv) (.own f)))
def zsr{X:Cx}{params:Arguments}{body:Expr}{sc:Scope}{pos:Pos}{cd P:Addr}{clos:List (Str×Addr)}(hcd:X.env.code=.ref cd)(hC:PySem.W.CodeHd X.base cd P)(hB:znM X.mg X.base)(hcl:closureFor sc X.env=pure clos)(hdef:defaultsOf params X.env=([],[])) :
  PE X (.Lambda params body sc pos) (zxJ P pos (fun c ctv=>PySem.W.kla_obj "<lambda>" (X.env.qual ++ "<lambda>") params body sc clos ((X.mg "__name__").getD .none) c ctv) (X.env.qual ++ "<lambda>")):=by
 intro pins s σ H Q I h;obtain ⟨ps,hP,ht,hmiss,hhit⟩:=h;have gP:s.heap.get? P=some (PySem.W.tabObj ps):=I.hok P _ hP;have hg:s.heap.Ns mainGlobals X.mg:=I.mod.glob.keeps I.bk;obtain ⟨bm,ob,b1,b2,b3,b4,b5,b6⟩:=hB
 have hgP:mainGlobals≠P:=fun q=>by
  obtain ⟨o,es,ep,e,hd,_⟩:=hg;rw [q,gP] at e;cases e;cases hd
 have hbP:bm≠P:=fun q=>by
  have e:=I.bk _ _ b3;rw [q,gP] at e;cases e;cases b4
 have hbG:bm≠mainGlobals:=fun q=>by
  obtain ⟨o,es,ep,e,hd,_⟩:=hg;have e':=I.bk _ _ b3;rw [q,e] at e';cases e';rw [hd] at b6;cases b6
 have bb:s.heap.BuiltinsAt X.mg P:=⟨bm,ob,b1,b2,hbG,hbP,I.bk _ _ b3,b4,b5,b6⟩;refine PySem.W.kla_eval hdef ?_
 cases hca:codeAmong pos ps.toList with
 | none =>
  refine PySem.W.kla_makeFunction (mg:=X.mg) hcl I.ok.glob hg hcd (hC.keeps I.bk) gP ht hca hgP bb fun c' ctv h1 tk hx hge hlt hrec htb=>?_
  obtain ⟨c2,oc,vs,t,e2,hoc,hd,hv⟩:=hrec;cases e2;have I1:=I.tblUp (t':=tk) hP hx htb;have hcP:c'≠P:=fun z=>absurd (yag (yak gP) hge) (by rw [z];exact yaR _)
  have hcN:H c'=none:=I.hok.fresh hge
  have hcN1:upd H P (.tbl (ps++#[rawInt pos.line,rawInt pos.col,.ref c'])) c'=none:=by rw [zac hcP];exact hcN
  have I2:=I1.track (D:=c') (o:=.frz oc (.own c')) hcN1 (yam I.sz hge) (fun z=>absurd (yag I.lt hge) (by rw [z];exact yaR _)) (fun x a e z=>by
    obtain ⟨v,q⟩:=I.cell x a e
    exact absurd (yag q.lt hge) (by rw [z];exact yaR _)) (fun p hp z=>absurd (yag (yak (I.pin p hp).1) hge) (by rw [z];exact yaR _)) ⟨hoc,oc,hoc⟩
  have fne:h1.objs.size≠c':=yaT hlt;have fP:h1.objs.size≠P:=yaT (yak htb);refine ⟨.ref h1.objs.size,_,I2.laid (t':=tk) (a:=h1.objs.size) (o:=.frz (PySem.W.kla_obj "<lambda>" (X.env.qual ++ "<lambda>") params body sc clos ((X.mg "__name__").getD .none) c' ctv) (.own h1.objs.size)) (fun b u e=>yaf _ e) (yah _) ⟨yal _ rfl,_,yal _ rfl⟩,rfl,?_⟩;refine hmiss hca _ c' oc ctv ?_ hcN fne ⟨vs,t,hd,hv⟩;have:=I2.hok.fresh (a:=h1.objs.size) (yah _);rwa [zac fne,zac fP] at this
 | some cv =>
  obtain ⟨c,oc,rfl,hc,⟨us,t,hd,hv⟩,hq⟩:=hhit cv hca;refine PySem.W.kla_makeFunctionHit (mg:=X.mg) hcl I.ok.glob hg hcd (hC.keeps I.bk) gP ht hca bb fun ctv h1 tk hk hsz=>?_
  have I1:=I.kept (t':=tk) hk;refine ⟨.ref h1.objs.size,_,I1.laid (t':=tk) (a:=h1.objs.size) (o:=.frz (PySem.W.kla_obj "<lambda>" (X.env.qual ++ "<lambda>") params body sc clos ((X.mg "__name__").getD .none) c ctv) (.own h1.objs.size)) (fun b u e=>yaf _ e) (yah _) ⟨yal _ rfl,_,yal _ rfl⟩,rfl,?_⟩;exact hq _ ctv (I1.hok.fresh (a:=h1.objs.size) (yah _))
def zmd{H:Hp}{a:Addr}{o:HO}(h:H a=some o):upd H a o=H:=by
 funext b
 by_cases e:b=a
 ·rw [e,zag,h]
 ·rw [zac e]
def Inv.fz{X:Cx}{pins:Z3}{σ:List (Option V)}{H:Hp}{s:Shared}{a:Addr}{kvs:List (Key×V)}(I:Inv X pins σ H s)(e:H a=some (.dK kvs)):∃ob,Inv X pins σ (upd H a (.frz ob (.dK kvs))) s:=by
 have x:zaI X.prog X.w H s.heap a (.dK kvs):=I.hok a _ e;obtain ⟨z,y,vs,r,ob,es,ep,g,c⟩:=id x
 have ne:∀(b:Addr) (u:HO),H b=some u->u≠.dK kvs->upd H a (.frz ob (.dK kvs)) b=some u:=fun b u hb hn=>by
  rw [zac (fun q=>hn (by rw [q,e] at hb;cases hb;rfl))];exact hb
 refine ⟨ob,I.un (t':=s.toks) ⟨fun _ _ g _ _ _=>g,fun _ o g _ _ _=>⟨o.slots,g⟩,fun b o _ n _=>?_,fun _ o g _=>⟨o,g⟩,fun b xs h=>ne b _ h (by simp),fun b o u h=>ne b _ h (by simp),fun b ps h=>⟨#[],by rw [Array.append_empty];exact ne b _ h (by simp)⟩⟩
  (HOk.write I.hok (x:=a) (by rw [e];trivial) (.inl rfl) (fun _ _ _ g=>g) ⟨ob,g⟩ ⟨g,?_⟩)⟩
 ·rw [zac (fun q=>by rw [q,e] at n;cases n)];exact n
 ·exact x.stay (fun _ _ _ g=>g) (fun b h=>ne b _ h (by simp)) fun b xs h=>ne b _ h (by simp)
end L2
namespace S2
open PySem PySem.Spec PyProof.Rows L2
noncomputable abbrev St:=L2.St
inductive D where
 | non | bl (b:Bool) | int (i:Int) | str (x:Str) | tup (l:List D) | lst (l:List D) | dic (l:List (D×D)) | ref (n:Nat) | exc (c:Str) | scr (l:List Int)
inductive Root where
 | slot (i:Nat) | fld (n:Nat) (f:Str) | obj (n:Nat) | far | tab
 deriving DecidableEq
noncomputable abbrev Ow:=Addr->Option Root
structure Cf where
 ad:Str->Addr
 K:PySem.W.Frag
 P:Program
 wo:PySem.World
 tabs:Addr->Option Str:=fun _=>none
noncomputable instance:CoeFun Cf (fun _=>Str->Addr):=⟨Cf.ad⟩
structure Wd where
 H:Hp
 ow:Ow
 mu:List Addr
mutual
inductive Shd(cl:Cf)(w:Wd):V->D->Prop
 | non:Shd cl w .non .non
 | bl (b:Bool):Shd cl w (.bl b) (.bl b)
 | int (i:Int):Shd cl w (.int i) (.int i)
 | str (x:Str):Shd cl w (.str x) (.str x)
 | tup {a:Addr} {xs:List V} {ds:List D}:w.H a=some (.tup xs)->w.ow a=none->Shds cl w xs ds->Shd cl w (.ref a) (.tup ds)
 | lst {a:Addr} {xs:List V} {ds:List D}:w.H a=some (.lst xs)->w.ow a=none->Shds cl w xs ds->Shd cl w (.ref a) (.lst ds)
 | dicK {a:Addr} {ob:Obj} {kvs:List (Key×V)} {ds:List (D×D)}:w.H a=some (.frz ob (.dK kvs))->w.ow a=none->ShdK cl w kvs ds->Shd cl w (.ref a) (.dic ds)
 | ref {n:Nat} {a:Addr}:w.mu[n]?=some a->Shd cl w (.ref a) (.ref n)
 | scr {a:Addr} {o:Obj} {l:List Int}:w.H a=some (.frz o (.lst (l.map V.int)))->w.ow a=none->Shd cl w (.ref a) (.scr l)
 | scrK {a:Addr} {l:List Int}:(∀H:Hp,SqL cl.K H a (l.map V.int))->Shd cl w (.ref a) (.scr l)
 | exc {a:Addr} {c:Str} {ob:Obj}:w.H a=some (.frz ob (.own a))->w.ow a=none->ob.cls=.ref (cl c)->Shd cl w (.ref a) (.exc c)
inductive Shds(cl:Cf)(w:Wd):List V->List D->Prop
 | nil:Shds cl w [] []
 | cons {v:V} {d:D} {vs:List V} {ds:List D}:Shd cl w v d->Shds cl w vs ds->Shds cl w (v::vs) (d::ds)
inductive ShdK(cl:Cf)(w:Wd):List (Key×V)->List (D×D)->Prop
 | nil:ShdK cl w [] []
 | consI {i:Int} {v:V} {d:D} {vs:List (Key×V)} {ds:List (D×D)}:Shd cl w v d->ShdK cl w vs ds->ShdK cl w ((.inl i,v)::vs) ((.int i,d)::ds)
 | consS {x:Str} {v:V} {d:D} {vs:List (Key×V)} {ds:List (D×D)}:Shd cl w v d->ShdK cl w vs ds->ShdK cl w ((.inr x,v)::vs) ((.str x,d)::ds)
end
structure Fut(w w':Wd):Prop where
 keep:∀a o,w.H a=some o->w.ow a=none->w'.H a=some o/\w'.ow a=none
 mu:∀(n:Nat) (a:Addr),w.mu[n]?=some a->w'.mu[n]?=some a
def Fut.refl(w:Wd):Fut w w:=⟨fun _ _ h k=>⟨h,k⟩,fun _ _ h=>h⟩
def Fut.trans(a:Fut w w1)(b:Fut w1 w2):Fut w w2:=⟨fun c o h k=>b.keep c o (a.keep c o h k).1 (a.keep c o h k).2,fun n c h=>b.mu n c (a.mu n c h)⟩
mutual
theorem Shd.up{cl:Cf}{w w':Wd}(f:Fut w w'):∀{v:V} {d:D},Shd cl w v d->Shd cl w' v d
 | _,_,.non=>.non
 | _,_,.bl b=>.bl b
 | _,_,.int i=>.int i
 | _,_,.str x=>.str x
 | _,_,.tup e k r=>.tup (f.keep _ _ e k).1 (f.keep _ _ e k).2 (Shds.up f r)
 | _,_,.lst e k r=>.lst (f.keep _ _ e k).1 (f.keep _ _ e k).2 (Shds.up f r)
 | _,_,.dicK e k r=>.dicK (f.keep _ _ e k).1 (f.keep _ _ e k).2 (ShdK.up f r)
 | _,_,.ref e=>.ref (f.mu _ _ e)
 | _,_,.scr e k=>.scr (f.keep _ _ e k).1 (f.keep _ _ e k).2
 | _,_,.scrK h=>.scrK h
 | _,_,.exc e k h=>.exc (f.keep _ _ e k).1 (f.keep _ _ e k).2 h
theorem Shds.up{cl:Cf}{w w':Wd}(f:Fut w w'):∀{vs:List V} {ds:List D},Shds cl w vs ds->Shds cl w' vs ds
 | _,_,.nil=>.nil
 | _,_,.cons r t=>.cons (Shd.up f r) (Shds.up f t)
theorem ShdK.up{cl:Cf}{w w':Wd}(f:Fut w w'):∀{vs:List (Key×V)} {ds:List (D×D)},ShdK cl w vs ds->ShdK cl w' vs ds
 | _,_,.nil=>.nil
 | _,_,.consI r t=>.consI (Shd.up f r) (ShdK.up f t)
 | _,_,.consS r t=>.consS (Shd.up f r) (ShdK.up f t)
end
section
variable{cl:Cf}{w:Wd}
theorem Shds.length:∀{vs:List V} {ds:List D},Shds cl w vs ds->vs.length=ds.length
 | _,_,.nil=>rfl
 | _,_,.cons _ t=>by rw [yaj,yaj,Shds.length t]
theorem Shds.get:∀{vs:List V} {ds:List D},Shds cl w vs ds->∀{i:Nat} {v:V},vs[i]?=some v->∃d,ds[i]?=some d/\Shd cl w v d
 | _,_,.nil,i,v,e=>by simp at e
 | _,_,.cons r _,0,v,e=>by simp at e;subst e;exact ⟨_,rfl,r⟩
 | _,_,.cons _ t,i+1,v,e=>by
  obtain ⟨d,h1,h2⟩:=Shds.get t (i:=i) (v:=v) (by simpa using e);exact ⟨d,by simpa using h1,h2⟩
theorem Shds.at:∀{vs:List V} {ds:List D},Shds cl w vs ds->∀{i:Nat} {d:D},ds[i]?=some d->∃v,vs[i]?=some v/\Shd cl w v d
 | _,_,.nil,i,v,e=>by simp at e
 | _,_,.cons r _,0,v,e=>by simp at e;subst e;exact ⟨_,rfl,r⟩
 | _,_,.cons _ t,i+1,v,e=>by
  obtain ⟨d,h1,h2⟩:=Shds.at t (i:=i) (d:=v) (by simpa using e);exact ⟨d,by simpa using h1,h2⟩
theorem Shds.append:∀{vs ws:List V} {ds es:List D},Shds cl w vs ds->Shds cl w ws es->Shds cl w (vs++ws) (ds++es)
 | _,_,_,_,.nil,s=>s
 | _,_,_,_,.cons r t,s=>.cons r (Shds.append t s)
theorem Shds.take:∀{vs:List V} {ds:List D} (n:Nat),Shds cl w vs ds->Shds cl w (vs.take n) (ds.take n)
 | _,_,0,_=>.nil
 | _,_,_+1,.nil=>.nil
 | _,_,n+1,.cons r t=>.cons r (Shds.take n t)
theorem Shds.drop:∀{vs:List V} {ds:List D} (n:Nat),Shds cl w vs ds->Shds cl w (vs.drop n) (ds.drop n)
 | _,_,0,s=>s
 | _,_,_+1,.nil=>.nil
 | _,_,n+1,.cons _ t=>Shds.drop n t
theorem Shds.flat(h:Shds cl w vs ds):∀n:Nat,Shds cl w (List.replicate n vs).flatten (List.replicate n ds).flatten
 | 0=>.nil
 | n+1=>by
  rw [ybo,ybo,ybN,ybN];exact Shds.append h (Shds.flat h n)
end
inductive Top(cl:Cf)(w:Wd):HO->D->Prop
 | lst {xs:List V} {ds:List D}:Shds cl w xs ds->Top cl w (.lst xs) (.lst ds)
 | dicK {kvs:List (Key×V)} {ds:List (D×D)}:ShdK cl w kvs ds->Top cl w (.dK kvs) (.dic ds)
theorem Top.up(f:Fut w w'):Top cl w o d->Top cl w' o d
 | .lst h=>.lst (h.up f)
 | .dicK h=>.dicK (h.up f)
noncomputable def zhc(cl:Cf)(w:Wd)(r:Root):Bool->V->D->Prop
 | false,v,d=>Shd cl w v d
 | true,v,d=>∃a o,v=.ref a/\w.ow a=some r/\w.H a=some o/\Top cl w o d
theorem zhc.keep(f:Fut w w')(k:∀a o,w.H a=some o->w.ow a=some r->w'.H a=some o/\w'.ow a=some r):∀{b:Bool} {v:V} {d:D},zhc cl w r b v d->zhc cl w' r b v d
 | false,_,_,h=>Shd.up f h
 | true,_,_,⟨a,o,e,h1,h2,t⟩=>⟨a,o,e,(k a o h2 h1).2,(k a o h2 h1).1,t.up f⟩
noncomputable def zhR(cl:Cf)(w:Wd)(r:Root)(own:Bool)(v:V)(d:D):Prop:=(own=false/\Shd cl w v d)\/(own=true/\∃d0,d=.tup [d0]/\zhc cl w r true v d0)
theorem zhR.keep(f:Fut w w')(k:∀a o,w.H a=some o->w.ow a=some r->w'.H a=some o/\w'.ow a=some r)(h:zhR cl w r b v d):zhR cl w' r b v d:=by
 rcases h with ⟨e,h⟩ | ⟨e,d0,e1,h⟩
 ·exact .inl ⟨e,h.up f⟩
 ·exact .inr ⟨e,d0,e1,h.keep f k⟩
structure Ob where
 cls:Str
 fs:List (Str×Bool×D)
noncomputable abbrev Sto:=List Ob
noncomputable def zcw(cl:Cf)(w:Wd)(n:Nat):List (Str×V)->List (Str×Bool×D)->Prop:=Paired fun p q=>p.1=q.1/\zhR cl w (.fld n q.1) q.2.1 p.2 q.2.2
noncomputable def ztQ(cl:Cf)(w:Wd)(n:Nat)(a:Addr)(ob:Ob):Prop:=w.ow a=some (.obj n)/\∃dx fs,w.H a=some (.ins (cl ob.cls) dx fs)/\zcw cl w n fs ob.fs
noncomputable def zsH(n:Nat):Option Root->Prop | some (.obj m)=>m=n | some (.fld m _)=>m=n | _=>False
theorem zcw.keep(f:Fut w w')(k:∀a o,w.H a=some o->zsH n (w.ow a)->w'.H a=some o/\w'.ow a=w.ow a):∀{fs:List (Str×V)} {gs:List (Str×Bool×D)},zcw cl w n fs gs->zcw cl w' n fs gs
 | _,_,.nil=>.nil
 | _,_,.cons ⟨e,h⟩ t=>.cons ⟨e,h.keep f fun a o ha hr=>by
   have:=k a o ha (by rw [hr];rfl)
   exact ⟨this.1,this.2.trans hr⟩⟩ (zcw.keep f k t)
theorem ztQ.keep(f:Fut w w')(k:∀a o,w.H a=some o->zsH n (w.ow a)->w'.H a=some o/\w'.ow a=w.ow a)(h:ztQ cl w n a ob):ztQ cl w' n a ob:=by
 obtain ⟨h1,dx,fs,h2,h3⟩:=h;have:=k a _ h2 (by rw [h1];rfl);exact ⟨this.2.trans h1,dx,fs,this.1,h3.keep f k⟩
noncomputable def zl5(w:Wd)(qual:Str)(ps:Array Value):Prop:=TriplesOk ps.toList/\∀pos cv,codeAmong pos ps.toList=some cv->∃c oc,cv=.ref c/\(w.H c=some (.frz oc (.own c))/\w.ow c=none)/\zi0 qual oc
def zl5.up{w w':Wd}(f:Fut w w'){q:Str}{ps:Array Value}(h:zl5 w q ps):zl5 w' q ps :=
 ⟨h.1,fun pos cv e=>let ⟨c,oc,h1,h2,h3⟩:=h.2 pos cv e;⟨c,oc,h1,f.keep _ _ h2.1 h2.2,h3⟩⟩
noncomputable def znJ(cl:Cf)(w:Wd):Prop:=∀P q,cl.tabs P=some q->∃ps,w.H P=some (.tbl ps)/\w.ow P=some .tab/\zl5 w q ps
def znJ.keep{cl:Cf}{w w':Wd}(h:znJ cl w)(f:Fut w w')(k:∀P ps,w.H P=some (.tbl ps)->w.ow P=some .tab->w'.H P=some (.tbl ps)/\w'.ow P=some .tab):znJ cl w':=fun P q e =>
 let ⟨ps,h1,h2,h3⟩:=h P q e;⟨ps,(k P ps h1 h2).1,(k P ps h1 h2).2,h3.up f⟩
structure Base where
 Fr:Hp
 fw:Ow
structure World'(cl:Cf)(B:Base)(w:Wd)(S:Sto):Prop where
 fr:∀a o,B.Fr a=some o->w.H a=some o/\w.ow a=B.fw a
 own:∀a r,w.ow a=some r->r=.far\/B.Fr a=none
 len:w.mu.length=S.length
 obj:∀(n:Nat) (ob:Ob),S[n]?=some ob->∃a,w.mu[n]?=some a/\ztQ cl w n a ob
 tab:znJ cl w
noncomputable abbrev Env:=List (Option (Bool×D))
structure Rel(cl:Cf)(B:Base)(σ:St)(w:Wd)(ρ:Env)(S:Sto):Prop where
 wd:World' cl B w S
 len:σ.length=ρ.length
 slots:∀(i:Nat) (o:Bool) (d:D),ρ[i]?=some (some (o,d))->∃v,σ[i]?=some (some v)/\zhc cl w (.slot i) o v d
structure Grow(w w':Wd):Prop where
 keep:∀a o,w.H a=some o->w'.H a=some o/\w'.ow a=w.ow a
 new:∀a r,w'.ow a=some r->w.H a=none->w.ow a=some r\/r=.far
 mu:w'.mu=w.mu
def Grow.refl(w:Wd):Grow w w:=⟨fun _ _ h=>⟨h,rfl⟩,fun _ _ h _=>.inl h,rfl⟩
def Grow.fut(g:Grow w w'):Fut w w':=⟨fun a o h k=>⟨(g.keep a o h).1,(g.keep a o h).2.trans k⟩,fun n a h=>by rw [g.mu];exact h⟩
def World'.grow(W:World' cl B w S)(g:Grow w w'):World' cl B w' S where
 fr:=fun a o h=>by
  obtain ⟨h1,h2⟩:=W.fr a o h;exact ⟨(g.keep a o h1).1,(g.keep a o h1).2.trans h2⟩
 own:=fun a r h=>by
  cases e:w.H a with
  | none=>exact (g.new a r h e).elim (W.own a r) .inl
  | some o=>exact W.own a r (by rw [<-(g.keep a o e).2];exact h)
 len:=by rw [g.mu];exact W.len
 obj:=fun n ob h=>by
  obtain ⟨a,e,x⟩:=W.obj n ob h;exact ⟨a,by rw [g.mu];exact e,x.keep g.fut fun a o ha _=>g.keep a o ha⟩
 tab:=W.tab.keep g.fut fun P ps h1 h2=>⟨(g.keep P _ h1).1,(g.keep P _ h1).2.trans h2⟩
theorem Rel.grow(R:Rel cl B σ w ρ S)(g:Grow w w'):Rel cl B σ w' ρ S where
 wd:=R.wd.grow g
 len:=R.len
 slots:=fun i o d h=>by
  obtain ⟨v,e,x⟩:=R.slots i o d h;exact ⟨v,e,x.keep g.fut fun a o ha hr=>⟨(g.keep a o ha).1,(g.keep a o ha).2.trans hr⟩⟩
def Wd.add(w:Wd)(p:Addr)(o:HO):Wd:=⟨upd w.H p o,fun a=>if a=p then none else w.ow a,w.mu⟩
def zaq(h:w.H p=none)(o:HO):Grow w (w.add p o) where
 keep:=fun a u ha=>by
  have n:a≠p:=zam ha h;refine ⟨?_,?_⟩
  ·show upd w.H p o a=_;rw [zac n];exact ha
  ·show (if a=p then none else w.ow a)=_;rw [if_neg n]
 new:=fun a r h1 h2=>by
  have h1':(if a=p then none else w.ow a)=some r:=h1;split at h1'
  ·cases h1'
  ·exact .inl h1'
 mu:=rfl
def ziW{w:Wd}:(w.add p o).ow p=none:=if_pos rfl
def zl3{w:Wd}:(w.add p o).H p=some o:=zag
def Shd.newT(h:w.H p=none)(r:Shds cl w xs ds):Shd cl (w.add p (.tup xs)) (.ref p) (.tup ds):=.tup zl3 ziW (r.up (zaq h _).fut)
def Shd.newL(h:w.H p=none)(r:Shds cl w xs ds):Shd cl (w.add p (.lst xs)) (.ref p) (.lst ds):=.lst zl3 ziW (r.up (zaq h _).fut)
theorem Top.fz{X:Cx}{pins:Z3}{σ:List (Option V)}{H:Hp}{s:Shared}{cl:Cf}{w:Wd}{a:Addr}{o:HO}{d:D}(t:Top cl w o d)(I:Inv X pins σ H s)(h:H a=some o):∃o',Inv X pins σ (upd H a o') s/\∀w',Fut w w'->w'.H a=some o'->w'.ow a=none->Shd cl w' (.ref a) d:=by
 cases t with
 | lst t=>exact ⟨_,by rw [zmd h];exact I,fun w' f e k=>.lst e k (t.up f)⟩
 | dicK t =>
  obtain ⟨ob,I'⟩:=I.fz h;exact ⟨_,I',fun w' f e k=>.dicK e k (t.up f)⟩
inductive Out(α:Type) where
 | ok (a:α) (S:Sto) | exc (c:Str) (S:Sto) | bad
noncomputable abbrev Fe:=Env->Sto->Out D
inductive Fo where
 | nx (ρ:Env) (S:Sto) | rt (d:D) (S:Sto) | bk (ρ:Env) (S:Sto) | ct (ρ:Env) (S:Sto) | ex (c:Str) (ρ:Env) (S:Sto) | bad
noncomputable abbrev Fs:=Env->Sto->Fo
noncomputable def tE(cl:Cf)(E:St->XK)(f:Fe):TE:=fun σ H Q=>∃B w ρ S,w.H=H/\Rel cl B σ w ρ S/\match f ρ S with
 | .ok d S'=>∀v w',Rel cl B σ w' ρ S'->Fut w w'->Shd cl w' v d->Q v w'.H
 | .exc c S'=>∀w',Rel cl B σ w' ρ S'->Fut w w'->E σ (.ref (cl c)) none w'.H
 | .bad=>False
noncomputable def tN(cl:Cf)(E:St->XK)(f:Fe):TE:=fun σ H Q=>∃B w ρ S,w.H=H/\Rel cl B σ w ρ S/\match f ρ S with
 | .ok d S'=>∀p o w',Rel cl B σ w' ρ S'->Fut w w'->w'.H p=none->Top cl w' o d->Q (.ref p) (upd w'.H p o)
 | .exc c S'=>∀w',Rel cl B σ w' ρ S'->Fut w w'->E σ (.ref (cl c)) none w'.H
 | .bad=>False
noncomputable def Hd(cl:Cf)(σ:St)(ρ:Env)(w:Wd)(v:V)(d:D):Prop:=Shd cl w v d\/∃i:Nat,ρ[i]?=some (some (true,d))/\σ[i]?=some (some v)
noncomputable def tH(cl:Cf)(E:St->XK)(f:Fe):TE:=fun σ H Q=>∃B w ρ S,w.H=H/\Rel cl B σ w ρ S/\match f ρ S with
 | .ok d S'=>∀v w',Rel cl B σ w' ρ S'->Fut w w'->Hd cl σ ρ w' v d->Q v w'.H
 | .exc c S'=>∀w',Rel cl B σ w' ρ S'->Fut w w'->E σ (.ref (cl c)) none w'.H
 | .bad=>False
inductive TopV(cl:Cf)(w:Wd):V->D->Prop
 | sh {v:V} {d:D}:Shd cl w v d->TopV cl w v d
 | ow {a:Addr} {o:HO} {d:D}:w.H a=some o->Top cl w o d->TopV cl w (.ref a) d
def Hd.top(h:Hd cl σ ρ w v d)(R:Rel cl B σ w ρ S):TopV cl w v d:=by
 rcases h with h | ⟨i,h1,h2⟩
 ·exact .sh h
 ·obtain ⟨v',e,a,o,rfl,_,h3,t⟩:=R.slots i true d h1;rw [h2] at e;cases e;exact .ow h3 t
theorem Hd.up(f:Fut w w')(h:Hd cl σ ρ w v d):Hd cl σ ρ w' v d:=by
 rcases h with h | h
 ·exact .inl (h.up f)
 ·exact .inr h
def PE.imp(h:PE X e t)(i:∀σ H Q,t' σ H Q->t σ H Q):PE X e t':=fun pins s σ H Q I q=>h pins s σ H Q I (i _ _ _ q)
def zuq(h:tH cl E f σ H Q):tE cl E f σ H Q:=by
 obtain ⟨B,w,ρ,S,e,R,h⟩:=h;refine ⟨B,w,ρ,S,e,R,?_⟩
 cases hf:f ρ S with
 | ok d S' =>
  rw [hf] at h;intro v w' R' F' t;exact h v w' R' F' (.inl t)
 | exc c S'=>rwa [hf] at h
 | bad=>rwa [hf] at h
noncomputable def Out.bind{α β:Type}(o:Out α)(k:α->Sto->Out β):Out β:=match o with | .ok a S=>k a S | .exc c S=>.exc c S | .bad=>.bad
noncomputable def Out.of{α:Type}(o:Option α)(S:Sto):Out α:=match o with | some a=>.ok a S | none=>.bad
@[simp] def Out.bind_ok{α β:Type}(a:α)(S:Sto)(k:α->Sto->Out β):(Out.ok a S).bind k=k a S:=rfl
@[simp] def Out.bind_exc{α β:Type}(c:Str)(S:Sto)(k:α->Sto->Out β):(Out.exc c S:Out α).bind k=.exc c S:=rfl
@[simp] def Out.bind_bad{α β:Type}(k:α->Sto->Out β):(Out.bad:Out α).bind k=.bad:=rfl
@[simp] def Out.of_some{α:Type}(a:α)(S:Sto):Out.of (some a) S=.ok a S:=rfl
noncomputable def zaf(i:Nat):Fe:=fun ρ S=>match ρ[i]? with | some (some (false,d))=>.ok d S | _=>.bad
noncomputable def zap(i:Nat):Fe:=fun ρ S=>match ρ[i]? with | some (some (_,d))=>.ok d S | _=>.bad
noncomputable def zaw(d:D):Fe:=fun _ S=>.ok d S
def eUn(g:D->Option D)(f:Fe):Fe:=fun ρ S=>(f ρ S).bind fun a S1=>Out.of (g a) S1
def zat(g:D->D->Option D)(f h:Fe):Fe:=fun ρ S=>(f ρ S).bind fun a S1=>(h ρ S1).bind fun b S2=>Out.of (g a b) S2
noncomputable def isB:D->Option Bool | .bl b=>some b | _=>none
def eIf(c f h:Fe):Fe:=fun ρ S=>(c ρ S).bind fun d S1=>match isB d with | some true=>f ρ S1 | some false=>h ρ S1 | none=>.bad
def zf7(f h:Fe):Fe:=fun ρ S=>(f ρ S).bind fun d S1=>match isB d with | some true=>h ρ S1 | some false=>.ok (.bl false) S1 | none=>.bad
def eOr(f h:Fe):Fe:=fun ρ S=>(f ρ S).bind fun d S1=>match isB d with | some true=>.ok (.bl true) S1 | some false=>h ρ S1 | none=>.bad
noncomputable def zdP:D->Option D | .bl b=>some (.bl (!b)) | _=>none
def zai:List Fe->Env->Sto->Out (List D)
 | [],_,S=>.ok [] S
 | f::fs,ρ,S=>(f ρ S).bind fun d S1=>(zai fs ρ S1).bind fun ds S2=>.ok (d::ds) S2
noncomputable def zaE(n:Nat):Bool:=decide (n<=100000)
def ziL(fs:List Fe):Fe:=fun ρ S=>(zai fs ρ S).bind fun ds S1=>if zaE ds.length then .ok (.tup ds) S1 else .bad
def zhe(fs:List Fe):Fe:=fun ρ S=>(zai fs ρ S).bind fun ds S1=>if zaE ds.length then .ok (.lst ds) S1 else .bad
def zar(g:List D->Option D)(fs:List Fe):Fe:=fun ρ S=>(zai fs ρ S).bind fun ds S1=>Out.of (g ds) S1
def zaK(h:zaE n=true):n<=sizeLine:=yam (yao h) (by decide)
noncomputable def zbi:Expr->Bool | .Starred _ _=>false | _=>true
def zaO(h:zbi e=true):starEach (e::es) env=(false,eval e env)::starEach es env:=by
 cases e<;>first | rfl | cases h
theorem zbh:∀{es:List Expr},es.all zbi=true->(backTo pos (starEach es env)).any (·.1)=false
 | [],_=>rfl
 | e::es,h=>by
  rw [ybh,yab] at h;rw [zaO h.1];show (false||(backTo pos (starEach es env)).any (·.1))=false;rw [zbh h.2];rfl
theorem zgu:∀{es:List Expr},es.all zbi=true->(backTo pos (starEach es env)).all (fun x=>!x.1)=true
 | [],_=>rfl
 | e::es,h=>by
  rw [ybh,yab] at h;rw [zaO h.1];show (true&&(backTo pos (starEach es env)).all (fun x=>!x.1))=true;rw [zgu h.2];rfl
def zgO(h:es.all zbi=true)(hl:es.length<30):((backTo pos (starEach es env)).all (fun x=>!x.1)&&(backToKw pos (keywordEach [] env)).all (fun x=>x.1.isSome)
   && decide (es.length+([]:List Keyword).length+(if ([]:List Keyword).isEmpty then 0 else 1)<30))=true:=by
 rw [zgu h];show (true&&true&&decide (es.length+0+0<30))=true;simpa using hl
noncomputable def Hds(cl:Cf)(σ:St)(ρ:Env)(w:Wd):List V->List D->Prop:=Paired (Hd cl σ ρ w)
noncomputable def zl4(cl:Cf)(w:Wd):List V->List D->Prop:=Paired (TopV cl w)
theorem Hds.top(R:Rel cl B σ w ρ S):∀{vs:List V} {ds:List D},Hds cl σ ρ w vs ds->zl4 cl w vs ds
 | _,_,.nil=>.nil
 | _,_,.cons h t=>.cons (h.top R) (Hds.top R t)
noncomputable def tAs(cl:Cf)(E:St->XK)(fs:List Fe):TA:=fun σ H Q=>∃B w ρ S,w.H=H/\Rel cl B σ w ρ S/\match zai fs ρ S with
 | .ok ds S'=>∀vs w',Rel cl B σ w' ρ S'->Fut w w'->Shds cl w' vs ds->Q vs w'.H
 | .exc c S'=>∀w',Rel cl B σ w' ρ S'->Fut w w'->E σ (.ref (cl c)) none w'.H
 | .bad=>False
noncomputable def tHs(cl:Cf)(E:St->XK)(fs:List Fe):TA:=fun σ H Q=>∃B w ρ S,w.H=H/\Rel cl B σ w ρ S/\match zai fs ρ S with
 | .ok ds S'=>∀vs w',Rel cl B σ w' ρ S'->Fut w w'->Hds cl σ ρ w' vs ds->Q vs w'.H
 | .exc c S'=>∀w',Rel cl B σ w' ρ S'->Fut w w'->E σ (.ref (cl c)) none w'.H
 | .bad=>False
def PA.imp(h:PA X es t)(i:∀σ H Q,t' σ H Q->t σ H Q):PA X es t':=fun pos pins s σ H Q I q=>h pos pins s σ H Q I (i _ _ _ q)
def PT.imp(h:PT X e t)(i:∀σ H Q,t' σ H Q->t σ H Q):PT X e t':=fun pins s σ H Q I q=>h pins s σ H Q I (i _ _ _ q)
section
variable{X:Cx}{cl:Cf}{E:St->XK}{a b c e:Expr}{f h g:Fe}{pos:Pos}
def zrN(hN:X.N[i]?=some x)(hv:Vis X.env.scope x)(hd:(x == ("__debug__":Str))=false)(hcd:(x == ("__classdict__":Str))=false):PE X (.Name x pos) (tE cl E (zaf i)):=by
 refine PE.imp (zaD hN hv hd hcd) ?_;rintro σ H Q ⟨B,w,ρ,S,rfl,R,q⟩;unfold zaf at q;split at q
 ·rename_i o d S' hm;split at hm
  ·rename_i d' he;cases hm;obtain ⟨v,e,r⟩:=R.slots i false d he;exact ⟨v,e,q v w R (Fut.refl _) r⟩
  ·cases hm
 ·rename_i hm;split at hm<;>cases hm
 ·exact q.elim
def zrU(hN:X.N[i]?=some x)(hv:Vis X.env.scope x)(hd:(x == ("__debug__":Str))=false)(hcd:(x == ("__classdict__":Str))=false):PE X (.Name x pos) (tH cl E (zap i)):=by
 refine PE.imp (zaD hN hv hd hcd) ?_;rintro σ H Q ⟨B,w,ρ,S,rfl,R,q⟩;unfold zap at q;split at q
 ·rename_i o d S' hm;split at hm
  ·rename_i b d' he;cases hm;obtain ⟨v,e,r⟩:=R.slots i b d he;refine ⟨v,e,q v w R (Fut.refl _) ?_⟩
   cases b with
   | false=>exact .inl r
   | true=>exact .inr ⟨i,he,e⟩
  ·cases hm
 ·rename_i hm;split at hm<;>cases hm
 ·exact q.elim
def zkq(h:PE X e (tC v))(hd:∀w,Shd cl w v d):PE X e (tE cl E (zaw d)):=by
 refine PE.imp h ?_;rintro σ H Q ⟨B,w,ρ,S,rfl,R,q⟩;exact q v w R (Fut.refl _) (hd w)
def zks(h:PE X e (tE cl E f)):PE X e (tH cl E f):=PE.imp h fun _ _ _=>zuq
def zbM(h:PE X e (tN cl E f)):PE X e (tE cl E f):=by
 intro pins s σ H Q I q;obtain ⟨B,w,ρ,S,rfl,R,q⟩:=q;refine ybd (h pins s σ w.H (fun v H'=>∀s',Inv X pins σ H' s'->∃H'',Inv X pins σ H'' s'/\Q v H'') I ⟨B,w,ρ,S,rfl,R,?_⟩) (fun v s' hv=>?_) (fun _ _ x=>x)
 ·cases hf:f ρ S with
  | ok d S' =>
   rw [hf] at q;intro p o w' R' F' hp t s' I';obtain ⟨o',I2,hs⟩:=t.fz I' zag;rw [zoE] at I2;exact ⟨_,I2,q (.ref p) (w'.add p o') (R'.grow (zaq hp o')) (F'.trans (zaq hp o').fut) (hs _ (zaq hp o').fut zl3 ziW)⟩
  | exc c S'=>rwa [hf] at q
  | bad=>rwa [hf] at q
 ·obtain ⟨x,H',I',r,q'⟩:=hv;obtain ⟨H2,I2,q2⟩:=q' _ I';exact ⟨x,H2,I2,r,q2⟩
noncomputable def OpD(X:Cx)(cl:Cf)(op:Value->Value->Sem Value)(g:D->D->Option D):Prop:=OpR X op fun x y H Q=>∃w d e r,w.H=H/\TopV cl w x d/\TopV cl w y e/\g d e=some r/\∀v w',Grow w w'->Shd cl w' v r->Q v w'.H
noncomputable def zjP(X:Cx)(cl:Cf)(fv:Value)(g:List D->Option D):Prop:=zcv X fv fun xs H Q=>∃w ds r,w.H=H/\zl4 cl w xs ds/\g ds=some r/\∀v w',Grow w w'->Shd cl w' v r->Q v w'.H
noncomputable def zq2(X:Cx)(cl:Cf)(fv:Value)(g:List D->Option D):Prop:=zcv X fv fun xs H Q=>∃w ds r,w.H=H/\zl4 cl w xs ds/\g ds=some r/\∀p o w',Grow w w'->w'.H p=none->Top cl w' o r->Q (.ref p) (upd w'.H p o)
noncomputable def IxD(X:Cx)(cl:Cf)(g:D->D->Option D):Prop:=IxR X fun x y H Q=>∃w d e r,w.H=H/\TopV cl w x d/\TopV cl w y e/\g d e=some r/\∀v w',Grow w w'->Shd cl w' v r->Q v w'.H
def two(hr:∀x y H Q,(∃w d e r,w.H=H/\TopV cl w x d/\TopV cl w y e/\gg d e=some r/\∀v w',Grow w w'->Shd cl w' v r->Q v w'.H)->r2 x y H Q)(σ:St)(H:Hp)(Q:VK)(q:tE cl E (zat gg f h) σ H Q):tOp r2 (tH cl E f) (tH cl E h) σ H Q:=by
 obtain ⟨B,w,ρ,S,rfl,R,q⟩:=q;refine ⟨B,w,ρ,S,rfl,R,?_⟩;unfold zat at q
 cases hf:f ρ S with
 | bad=>rwa [hf] at q
 | exc c S1=>rwa [hf] at q
 | ok d S1 =>
  rw [hf] at q;intro v w1 R1 F1 h1;refine ⟨B,w1,ρ,S1,rfl,R1,?_⟩;dsimp only [Out.bind] at q
  cases hh:h ρ S1 with
  | bad=>rwa [hh] at q
  | exc c S2=>rw [hh] at q;exact fun w2 R2 F2=>q w2 R2 (F1.trans F2)
  | ok e S2 =>
   rw [hh] at q;intro y w2 R2 F2 h2;dsimp only at q
   cases hg:gg d e with
   | none=>rw [hg] at q;exact q.elim
   | some r =>
    rw [hg] at q;exact hr _ _ _ _ ⟨w2,d,e,r,rfl,(h1.up F2).top R2,h2.top R2,hg,fun v' w' gr sh=>q v' w' (R2.grow gr) (F1.trans (F2.trans gr.fut)) sh⟩
def znX(ho:OpD X cl (binaryOp op) gg)(ha:PE X a (tH cl E f))(hb:PE X b (tH cl E h)):PE X (.BinOp a op b pos) (tE cl E (zat gg f h)) :=
 PE.imp (zso ho ha hb) (two fun _ _ _ _ z=>z)
def zuI(ho:IxD X cl gg)(ha:PE X a (tH cl E f))(hb:PE X b (tH cl E h))(hs:zhQ b):PE X (.Subscript a b pos) (tE cl E (zat gg f h)) :=
 PE.imp (zuT ho ha hb hs) (two fun _ _ _ _ z=>z)
def zrT(ho:OpD X cl (compareOp op) gg)(ha:PE X a (tH cl E f))(hb:PE X b (tH cl E h))(hm:behindInMarks op b=false):PE X (.Compare a [op] [b] pos) (tE cl E (zat gg f h)) :=
 PE.imp (zkY ho ha hb hm) (two fun _ _ _ _ z=>z)
noncomputable def tTr(cl:Cf)(E:St->XK)(f:Fe):TT:=fun σ H Q=>∃B w ρ S,w.H=H/\Rel cl B σ w ρ S/\match f ρ S with
 | .ok d S'=>match isB d with
  | some b=>∀w',Rel cl B σ w' ρ S'->Fut w w'->Q b w'.H
  | none=>False
 | .exc c S'=>∀w',Rel cl B σ w' ρ S'->Fut w w'->E σ (.ref (cl c)) none w'.H
 | .bad=>False
def zcX{d:D}{b:Bool}(h:isB d=some b):d=.bl b:=by
 cases d<;>simp [isB] at h
 subst h;rfl
def zgl{w:Wd}{v:V}{b:Bool}(h:Shd cl w v (.bl b)):v=.bl b:=by cases h;rfl
def zgb(q:tTr cl E f σ H Q):tB (tE cl E f) σ H Q:=by
 obtain ⟨B,w,ρ,S,rfl,R,q⟩:=q;refine ⟨B,w,ρ,S,rfl,R,?_⟩
 cases hf:f ρ S with
 | bad=>rwa [hf] at q
 | exc c S1=>rwa [hf] at q
 | ok d S1 =>
  rw [hf] at q;intro v w1 R1 F1 h1;dsimp only at q
  cases hb:isB d with
  | none=>rw [hb] at q;exact q.elim
  | some b =>
   rw [hb] at q;rw [zcX hb] at h1;exact ⟨b,zgl h1,q w1 R1 F1⟩
def za9(h:PE X e (tE cl E f))(he:∀whole,isTrue e X.env whole=(do let v ← whole;standAt e.pos;holding [v] (truthy v))):PT X e (tTr cl E f) :=
 PT.imp (zsf h he) fun _ _ _ q=>zgb q
def zkb(hr:∀x y H Q,(∃w d e r,w.H=H/\TopV cl w x d/\TopV cl w y e/\gg d e=some r/\∀v w',Grow w w'->Shd cl w' v r->Q v w'.H)->r2 x y H Q)(q:tTr cl E (zat gg f h) σ H Q):zoO (tOp r2 (tH cl E f) (tH cl E h)) σ H Q :=
 two hr σ H _ (zgb q)
def zrx(ho:OpD X cl (compareOp op) gg)(ha:PE X a (tH cl E f))(hb:PE X b (tH cl E h))(hm:behindInMarks op b=false):PT X (.Compare a [op] [b] pos) (tTr cl E (zat gg f h)) :=
 PT.imp (zpA ho ha hb hm) fun _ _ _ q=>zkb (fun _ _ _ _ z=>z) q
def PW.imp(h:PW X e t)(i:∀σ H Q,t' σ H Q->t σ H Q):PW X e t':=fun whole pins s σ H Q I q=>h whole pins s σ H Q I (i _ _ _ q)
def zoN(q:tTr cl E (zf7 f h) σ H Q):zwo (tTr cl E f) (tTr cl E h) σ H Q:=by
 obtain ⟨B,w,ρ,S,rfl,R,q⟩:=q;refine ⟨B,w,ρ,S,rfl,R,?_⟩;unfold zf7 at q
 cases hf:f ρ S with
 | bad=>rwa [hf] at q
 | exc c S1=>rwa [hf] at q
 | ok d S1 =>
  rw [hf] at q;dsimp only [Out.bind] at q ⊢
  cases hb:isB d with
  | none=>rw [hb] at q;exact q.elim
  | some b =>
   rw [hb] at q;intro w1 R1 F1
   cases b with
   | false=>exact zoi (q w1 R1 F1)
   | true =>
    refine zoh ⟨B,w1,ρ,S1,rfl,R1,?_⟩;dsimp only at q
    cases hh:h ρ S1 with
    | bad=>rwa [hh] at q
    | exc c S2=>rw [hh] at q;exact fun w2 R2 F2=>q w2 R2 (F1.trans F2)
    | ok e S2 =>
     rw [hh] at q;dsimp only at q ⊢
     cases hb2:isB e with
     | none=>rw [hb2] at q;exact q.elim
     | some b2=>rw [hb2] at q;exact fun w2 R2 F2=>q w2 R2 (F1.trans F2)
def zrg(q:tTr cl E (eOr f h) σ H Q):tOr (tTr cl E f) (tTr cl E h) σ H Q:=by
 obtain ⟨B,w,ρ,S,rfl,R,q⟩:=q;refine ⟨B,w,ρ,S,rfl,R,?_⟩;unfold eOr at q
 cases hf:f ρ S with
 | bad=>rwa [hf] at q
 | exc c S1=>rwa [hf] at q
 | ok d S1 =>
  rw [hf] at q;dsimp only [Out.bind] at q ⊢
  cases hb:isB d with
  | none=>rw [hb] at q;exact q.elim
  | some b =>
   rw [hb] at q;intro w1 R1 F1
   cases b with
   | true=>exact zoh (q w1 R1 F1)
   | false =>
    refine zoi ⟨B,w1,ρ,S1,rfl,R1,?_⟩;dsimp only at q
    cases hh:h ρ S1 with
    | bad=>rwa [hh] at q
    | exc c S2=>rw [hh] at q;exact fun w2 R2 F2=>q w2 R2 (F1.trans F2)
    | ok e S2 =>
     rw [hh] at q;dsimp only at q ⊢
     cases hb2:isB e with
     | none=>rw [hb2] at q;exact q.elim
     | some b2=>rw [hb2] at q;exact fun w2 R2 F2=>q w2 R2 (F1.trans F2)
def zoM(q:tTr cl E (eUn zdP f) σ H Q):zup (tTr cl E f) σ H Q:=by
 obtain ⟨B,w,ρ,S,rfl,R,q⟩:=q;refine ⟨B,w,ρ,S,rfl,R,?_⟩;unfold eUn at q
 cases hf:f ρ S with
 | bad=>rwa [hf] at q
 | exc c S1=>rwa [hf] at q
 | ok d S1 =>
  rw [hf] at q;dsimp only [Out.bind] at q ⊢
  cases hb:isB d with
  | none =>
   have:zdP d=none:=by cases d<;>simp [isB] at hb<;>rfl
   rw [this] at q;exact q.elim
  | some b =>
   rwa [zcX hb] at q
def zrw(ha:PT X a (tTr cl E f)):PT X (.UnaryOp .Not a pos) (tTr cl E (eUn zdP f)):=PT.imp (zn1 ha) fun _ _ _ q=>zoM q
def zrs{zbH:List Expr}(ha:PT X a (tTr cl E f))(hb:PW X (.BoolOp .And (b::zbH) pos) (tTr cl E h)):PW X (.BoolOp .And (a::b::zbH) pos) (tTr cl E (zf7 f h)):=PW.imp (zsd ha hb) fun _ _ _ q=>zoN q
def zuw{zbH:List Expr}(ha:PT X a (tTr cl E f))(hb:PW X (.BoolOp .Or (b::zbH) pos) (tTr cl E h)):PW X (.BoolOp .Or (a::b::zbH) pos) (tTr cl E (eOr f h)):=PW.imp (zuP ha hb) fun _ _ _ q=>zrg q
def zrV{zbH:List Expr}(ha:PE X a (tE cl E f))(hb:PE X (.BoolOp .And (b::zbH) pos) (tE cl E h)):PE X (.BoolOp .And (a::b::zbH) pos) (tE cl E (zf7 f h)):=by
 refine PE.imp (zsv ha hb) ?_;rintro σ H Q ⟨B,w,ρ,S,rfl,R,q⟩;refine ⟨B,w,ρ,S,rfl,R,?_⟩;unfold zf7 at q
 cases hf:f ρ S with
 | bad=>rwa [hf] at q
 | exc c S1=>rwa [hf] at q
 | ok d S1 =>
  rw [hf] at q;intro v w1 R1 F1 h1;dsimp only [Out.bind] at q
  cases hb:isB d with
  | none=>rw [hb] at q;exact q.elim
  | some b =>
   rw [hb] at q;rw [zcX hb] at h1;refine ⟨b,zgl h1,?_⟩
   cases b with
   | false=>exact zoi (q _ w1 R1 F1 (.bl false))
   | true =>
    refine zoh ⟨B,w1,ρ,S1,rfl,R1,?_⟩;dsimp only at q
    cases hh:h ρ S1 with
    | bad=>rwa [hh] at q
    | exc c S2=>rw [hh] at q;exact fun w2 R2 F2=>q w2 R2 (F1.trans F2)
    | ok e S2=>rw [hh] at q;exact fun v w2 R2 F2=>q v w2 R2 (F1.trans F2)
def zuG{zbH:List Expr}(ha:PE X a (tE cl E f))(hb:PE X (.BoolOp .Or (b::zbH) pos) (tE cl E h)):PE X (.BoolOp .Or (a::b::zbH) pos) (tE cl E (eOr f h)):=by
 refine PE.imp (zuS ha hb) ?_;rintro σ H Q ⟨B,w,ρ,S,rfl,R,q⟩;refine ⟨B,w,ρ,S,rfl,R,?_⟩;unfold eOr at q
 cases hf:f ρ S with
 | bad=>rwa [hf] at q
 | exc c S1=>rwa [hf] at q
 | ok d S1 =>
  rw [hf] at q;intro v w1 R1 F1 h1;dsimp only [Out.bind] at q
  cases hb:isB d with
  | none=>rw [hb] at q;exact q.elim
  | some b =>
   rw [hb] at q;rw [zcX hb] at h1;refine ⟨b,zgl h1,?_⟩
   cases b with
   | true=>exact zoh (q _ w1 R1 F1 (.bl true))
   | false =>
    refine zoi ⟨B,w1,ρ,S1,rfl,R1,?_⟩;dsimp only at q
    cases hh:h ρ S1 with
    | bad=>rwa [hh] at q
    | exc c S2=>rw [hh] at q;exact fun w2 R2 F2=>q w2 R2 (F1.trans F2)
    | ok e S2=>rw [hh] at q;exact fun v w2 R2 F2=>q v w2 R2 (F1.trans F2)
def zrQ(ha:PE X a (tE cl E f)):PE X (.UnaryOp .Not a pos) (tE cl E (eUn zdP f)):=by
 refine PE.imp (zsq ha) ?_;rintro σ H Q ⟨B,w,ρ,S,rfl,R,q⟩;refine ⟨B,w,ρ,S,rfl,R,?_⟩;unfold eUn at q
 cases hf:f ρ S with
 | bad=>rwa [hf] at q
 | exc c S1=>rwa [hf] at q
 | ok d S1 =>
  rw [hf] at q;intro v w1 R1 F1 h1;dsimp only [Out.bind] at q
  cases hb:isB d with
  | none =>
   have:zdP d=none:=by cases d<;>simp [isB] at hb<;>rfl
   rw [this] at q;exact q.elim
  | some b =>
   rw [zcX hb] at q h1;exact ⟨b,zgl h1,q _ w1 R1 F1 (.bl _)⟩
def zus(q:tE cl E (eIf g f h) σ H Q):tIf (tTr cl E g) (tE cl E f) (tE cl E h) σ H Q:=by
 obtain ⟨B,w,ρ,S,rfl,R,q⟩:=q;refine ⟨B,w,ρ,S,rfl,R,?_⟩;unfold eIf at q
 cases hg:g ρ S with
 | bad=>rwa [hg] at q
 | exc c S1=>rwa [hg] at q
 | ok d S1 =>
  rw [hg] at q;dsimp only [Out.bind] at q ⊢
  cases hb:isB d with
  | none=>rw [hb] at q;exact q.elim
  | some b =>
   rw [hb] at q;intro w1 R1 F1
   cases b with
   | true =>
    refine zoh ⟨B,w1,ρ,S1,rfl,R1,?_⟩;dsimp only at q
    cases hh:f ρ S1 with
    | bad=>rwa [hh] at q
    | exc c S2=>rw [hh] at q;exact fun w2 R2 F2=>q w2 R2 (F1.trans F2)
    | ok e S2=>rw [hh] at q;exact fun v w2 R2 F2=>q v w2 R2 (F1.trans F2)
   | false =>
    refine zoi ⟨B,w1,ρ,S1,rfl,R1,?_⟩;dsimp only at q
    cases hh:h ρ S1 with
    | bad=>rwa [hh] at q
    | exc c S2=>rw [hh] at q;exact fun w2 R2 F2=>q w2 R2 (F1.trans F2)
    | ok e S2=>rw [hh] at q;exact fun v w2 R2 F2=>q v w2 R2 (F1.trans F2)
def zuJ(hc:PT X c (tTr cl E g))(ha:PE X a (tE cl E f))(hb:PE X b (tE cl E h)):PE X (.IfExp c a b pos) (tE cl E (eIf g f h)):=PE.imp (zmI hc ha hb) fun _ _ _ q=>zus q
def ze6:PA X [] (tAs cl E []):=by
 refine PA.imp zbx ?_;rintro σ H Q ⟨B,w,ρ,S,rfl,R,q⟩;exact q [] w R (Fut.refl _) .nil
def zcx(ha:PE X e (tE cl E f))(hr:PA X es (tAs cl E fs))(hs:starEach (e::es) X.env=(false,eval e X.env)::starEach es X.env):PA X (e::es) (tAs cl E (f::fs)):=by
 refine PA.imp (zaF ha hr hs) ?_;rintro σ H Q ⟨B,w,ρ,S,rfl,R,q⟩;refine ⟨B,w,ρ,S,rfl,R,?_⟩;unfold zai at q
 cases hf:f ρ S with
 | bad=>rwa [hf] at q
 | exc c S1=>rwa [hf] at q
 | ok d S1 =>
  rw [hf] at q;intro v w1 R1 F1 h1;refine ⟨B,w1,ρ,S1,rfl,R1,?_⟩;dsimp only [Out.bind] at q
  cases hh:zai fs ρ S1 with
  | bad=>rwa [hh] at q
  | exc c S2=>rw [hh] at q;exact fun w2 R2 F2=>q w2 R2 (F1.trans F2)
  | ok ds S2 =>
   rw [hh] at q;exact fun vs w2 R2 F2 h2=>q _ w2 R2 (F1.trans F2) (.cons (h1.up F2) h2)
def znT:PA X [] (tHs cl E []):=by
 refine PA.imp zbx ?_;rintro σ H Q ⟨B,w,ρ,S,rfl,R,q⟩;exact q [] w R (Fut.refl _) .nil
def zkm(ha:PE X e (tH cl E f))(hr:PA X es (tHs cl E fs))(hs:starEach (e::es) X.env=(false,eval e X.env)::starEach es X.env):PA X (e::es) (tHs cl E (f::fs)):=by
 refine PA.imp (zaF ha hr hs) ?_;rintro σ H Q ⟨B,w,ρ,S,rfl,R,q⟩;refine ⟨B,w,ρ,S,rfl,R,?_⟩;unfold zai at q
 cases hf:f ρ S with
 | bad=>rwa [hf] at q
 | exc c S1=>rwa [hf] at q
 | ok d S1 =>
  rw [hf] at q;intro v w1 R1 F1 h1;refine ⟨B,w1,ρ,S1,rfl,R1,?_⟩;dsimp only [Out.bind] at q
  cases hh:zai fs ρ S1 with
  | bad=>rwa [hh] at q
  | exc c S2=>rw [hh] at q;exact fun w2 R2 F2=>q w2 R2 (F1.trans F2)
  | ok ds S2 =>
   rw [hh] at q;exact fun vs w2 R2 F2 h2=>q _ w2 R2 (F1.trans F2) (.cons (h1.up F2) h2)
def zrO(h:PA X es (tAs cl E fs)):PE X (.Tuple es k pos) (tE cl E (ziL fs)):=by
 refine PE.imp (zn5 h) ?_;rintro σ H Q ⟨B,w,ρ,S,rfl,R,q⟩;refine ⟨B,w,ρ,S,rfl,R,?_⟩;unfold ziL at q
 cases hf:zai fs ρ S with
 | bad=>rwa [hf] at q
 | exc c S1=>rwa [hf] at q
 | ok ds S1 =>
  rw [hf] at q;intro vs w1 R1 F1 h1;dsimp only [Out.bind] at q
  cases hz:zaE ds.length with
  | false=>rw [hz,if_neg (by decide)] at q;exact q.elim
  | true =>
   rw [hz,if_pos rfl] at q;refine ⟨by rw [h1.length];exact zaK hz,fun p hp=>?_⟩;exact q _ (w1.add p (.tup vs)) (R1.grow (zaq hp _)) (F1.trans (zaq hp _).fut) (Shd.newT hp h1)
def zrR(h:PA X es (tAs cl E fs)):PE X (.List es pos) (tN cl E (zhe fs)):=by
 refine PE.imp (zn8 h) ?_;rintro σ H Q ⟨B,w,ρ,S,rfl,R,q⟩;refine ⟨B,w,ρ,S,rfl,R,?_⟩;unfold zhe at q
 cases hf:zai fs ρ S with
 | bad=>rwa [hf] at q
 | exc c S1=>rwa [hf] at q
 | ok ds S1 =>
  rw [hf] at q;intro vs w1 R1 F1 h1;dsimp only [Out.bind] at q
  cases hz:zaE ds.length with
  | false=>rw [hz,if_neg (by decide)] at q;exact q.elim
  | true =>
   rw [hz,if_pos rfl] at q;refine ⟨by rw [h1.length];exact zaK hz,fun p hp=>?_⟩;exact q _ (.lst vs) w1 R1 F1 hp (.lst h1)
def zro(hr:∀xs H Q,(∃w ds r,w.H=H/\zl4 cl w xs ds/\gg ds=some r/\∀v w',Grow w w'->Shd cl w' v r->Q v w'.H)->r xs H Q)(q:tE cl E (zar gg fs) σ H Q):tCB r (tHs cl E fs) σ H Q:=by
 obtain ⟨B,w,ρ,S,rfl,R,q⟩:=q;refine ⟨B,w,ρ,S,rfl,R,?_⟩;unfold zar at q
 cases hf:zai fs ρ S with
 | bad=>rwa [hf] at q
 | exc c S1=>rwa [hf] at q
 | ok ds S1 =>
  rw [hf] at q;intro vs w1 R1 F1 h1;dsimp only [Out.bind] at q
  cases hg:gg ds with
  | none=>rw [hg] at q;exact q.elim
  | some d =>
   rw [hg] at q;exact hr _ _ _ ⟨w1,ds,d,rfl,h1.top R1,hg,fun v w' gr sh=>q v w' (R1.grow gr) (F1.trans gr.fut) sh⟩
def zuu(hr:∀xs H Q,(∃w ds r,w.H=H/\zl4 cl w xs ds/\gg ds=some r/\∀p o w',Grow w w'->w'.H p=none->Top cl w' o r->Q (.ref p) (upd w'.H p o))->r xs H Q)(q:tN cl E (zar gg fs) σ H Q):tCB r (tHs cl E fs) σ H Q:=by
 obtain ⟨B,w,ρ,S,rfl,R,q⟩:=q;refine ⟨B,w,ρ,S,rfl,R,?_⟩;unfold zar at q
 cases hf:zai fs ρ S with
 | bad=>rwa [hf] at q
 | exc c S1=>rwa [hf] at q
 | ok ds S1 =>
  rw [hf] at q;intro vs w1 R1 F1 h1;dsimp only [Out.bind] at q
  cases hg:gg ds with
  | none=>rw [hg] at q;exact q.elim
  | some d =>
   rw [hg] at q;exact hr _ _ _ ⟨w1,ds,d,rfl,h1.top R1,hg,fun p o w' gr hp t=>q p o w' (R1.grow gr) (F1.trans gr.fut) hp t⟩
end
noncomputable def Root.out:Option Root->Option Root | some (.slot _)=>some .far | o=>o
def Root.out_none:Root.out o=none↔o=none:=by
 cases o with
 | none=>exact ⟨fun h=>h,fun h=>h⟩
 | some r=>cases r<;>simp [Root.out]
noncomputable def zdz:Option Root->Bool | some (.fld _ _)=>true | some (.obj _)=>true | some .tab=>true | _=>false
def Wd.inn(w:Wd):Wd:=⟨w.H,fun a=>Root.out (w.ow a),w.mu⟩
def Wd.base(w:Wd):Base:=⟨fun a=>if zdz (w.ow a)=true then none else w.H a,fun a=>Root.out (w.ow a)⟩
def Wd.back(w w':Wd):Wd:=⟨w'.H,fun a=>if (w.base.Fr a).isSome=true then w.ow a else Root.out (w'.ow a),w'.mu⟩
def zbq(w:Wd):Fut w w.inn:=⟨fun a o h k=>⟨h,by show Root.out (w.ow a)=none;rw [k];rfl⟩,fun _ _ h=>h⟩
def zha{w:Wd}(h:w.H a=some o)(k:zdz (w.ow a)=false):w.base.Fr a=some o:=by
 show (if zdz (w.ow a)=true then none else w.H a)=_;rw [k,if_neg (by decide)];exact h
def zpZ{w:Wd}(h:w.base.Fr a=some o):w.H a=some o/\zdz (w.ow a)=false:=by
 have h':(if zdz (w.ow a)=true then none else w.H a)=some o:=h;split at h'
 ·cases h'
 ·rename_i z;exact ⟨h',by simpa using z⟩
section
variable{cl:Cf}{B:Base}{σ:St}{w w':Wd}{ρ:Env}{S S':Sto}
def World'.enter(W:World' cl B w S):World' cl w.base w.inn S where
 fr:=fun a o h=>⟨(zpZ h).1,rfl⟩
 own:=fun a r h=>by
  have h':Root.out (w.ow a)=some r:=h
  cases e:w.ow a with
  | none=>rw [e] at h';cases h'
  | some q =>
   cases q with
   | slot i=>rw [e] at h';cases h';exact .inl rfl
   | far=>rw [e] at h';cases h';exact .inl rfl
   | fld n f=>exact .inr (by show (if zdz (w.ow a)=true then none else w.H a)=none;rw [e];rfl)
   | obj n=>exact .inr (by show (if zdz (w.ow a)=true then none else w.H a)=none;rw [e];rfl)
   | tab=>exact .inr (by show (if zdz (w.ow a)=true then none else w.H a)=none;rw [e];rfl)
 len:=W.len
 obj:=fun n ob h=>by
  obtain ⟨a,e,x⟩:=W.obj n ob h;refine ⟨a,e,x.keep (zbq w) fun a o ha hn=>⟨ha,?_⟩⟩;show Root.out (w.ow a)=w.ow a
  cases e:w.ow a with
  | none=>rfl
  | some q=>cases q with
   | slot i=>rw [e] at hn;exact hn.elim
   | _=>rfl
 tab:=W.tab.keep (zbq w) fun P ps h1 h2=>⟨h1,by show Root.out (w.ow P)=_;rw [h2];rfl⟩
def zcn(W:World' cl B w S)(h:B.Fr a=some o):w.base.Fr a=some o:=by
 refine zha (W.fr a o h).1 ?_
 cases e:w.ow a with
 | none=>rfl
 | some q =>
  rcases W.own a q e with rfl | z
  ·rfl
  ·rw [h] at z;cases z
def zbI(W':World' cl w.base w' S'):Fut w' (w.back w') where
 keep:=fun a o h k=>by
  refine ⟨h,?_⟩;show (if (w.base.Fr a).isSome=true then w.ow a else Root.out (w'.ow a))=none;split
  ·rename_i z;obtain ⟨u,hu⟩:=Option.isSome_iff_exists.mp z;have:=(W'.fr a u hu).2;rw [k] at this;exact Root.out_none.mp this.symm
  ·rw [k];rfl
 mu:=fun _ _ h=>h
def Rel.leave(R:Rel cl B σ w ρ S)(W':World' cl w.base w' S')(F:Fut w.inn w'):Rel cl B σ (w.back w') ρ S'/\Fut w (w.back w'):=by
 have fb:=zbI W';have ff:Fut w (w.back w'):=(zbq w).trans (F.trans fb)
 have in_:∀a o,w.base.Fr a=some o->(w.back w').H a=some o/\(w.back w').ow a=w.ow a:=fun a o h=>by
  refine ⟨(W'.fr a o h).1,?_⟩;show (if (w.base.Fr a).isSome=true then w.ow a else _)=_;rw [h];rfl
 refine ⟨⟨⟨fun a o h=>?_,fun a r h=>?_,W'.len,fun n ob h=>?_,fun P q h=>?_⟩,R.len,fun i o d h=>?_⟩,ff⟩
 ·have:=in_ a o (zcn R.wd h);exact ⟨this.1,this.2.trans (R.wd.fr a o h).2⟩
 ·cases hb:B.Fr a with
  | none=>exact .inr rfl
  | some o =>
   have:=(in_ a o (zcn R.wd hb)).2;rw [h] at this
   rcases R.wd.own a r this.symm with z | z
   ·exact .inl z
   ·rw [hb] at z;cases z
 ·obtain ⟨a,e,x⟩:=W'.obj n ob h;refine ⟨a,e,x.keep fb fun a o ha hn=>⟨ha,?_⟩⟩;show (if (w.base.Fr a).isSome=true then w.ow a else Root.out (w'.ow a))=_
  cases e:w'.ow a with
  | none=>rw [e] at hn;exact hn.elim
  | some q =>
   rcases W'.own a q e with rfl | z
   ·rw [e] at hn;exact hn.elim
   ·rw [z]
    cases q with
    | slot i=>rw [e] at hn;exact hn.elim
    | _=>rfl
 ·obtain ⟨ps,h1,h2,h3⟩:=W'.tab P q h;obtain ⟨_,_,g2,_⟩:=R.wd.tab P q h;refine ⟨ps,h1,?_,h3.up fb⟩
  have hb:w.base.Fr P=none:=by show (if zdz (w.ow P)=true then none else w.H P)=none;rw [g2];rfl
  show (if (w.base.Fr P).isSome=true then w.ow P else Root.out (w'.ow P))=_;rw [hb,h2];rfl
 ·obtain ⟨v,e,x⟩:=R.slots i o d h;refine ⟨v,e,x.keep ff fun a u ha hr=>?_⟩;have:=in_ a u (zha ha (by rw [hr];rfl));exact ⟨this.1,this.2.trans hr⟩
noncomputable def Wd.del(w:Wd)(a:Addr):Wd:=⟨fun b=>if b=a then none else w.H b,w.ow,w.mu⟩
def zhA(k:w.ow a≠none):Fut w (w.del a) where
 keep:=fun b o h e=>⟨by
  show (if b=a then none else w.H b)=_
  rw [if_neg (fun z=>k (by rw [<-z];exact e))];exact h,e⟩
 mu:=fun _ _ h=>h
def zjW(h:w.H a=some o):upd (w.del a).H a o=w.H:=by
 funext b
 by_cases e:b=a
 ·rw [e,zag,h]
 ·rw [zac e];show (if b=a then none else w.H b)=_;rw [if_neg e]
theorem Rel.del(R:Rel cl B σ w ρ S)(k:w.ow a=some .far)(hb:B.Fr a=none):Rel cl B σ (w.del a) ρ S:=by
 have fd:Fut w (w.del a):=zhA (by rw [k];exact yaC _)
 have kp:∀b o,w.H b=some o->b≠a->(w.del a).H b=some o:=fun b o h n=>by
  show (if b=a then none else w.H b)=_;rw [if_neg n];exact h
 refine ⟨⟨fun b o h=>⟨kp b o (R.wd.fr b o h).1 (fun z=>by rw [z,hb] at h;cases h),(R.wd.fr b o h).2⟩,R.wd.own,R.wd.len,fun n ob h=>?_,R.wd.tab.keep fd fun P ps h1 h2=>⟨kp P _ h1 (fun z=>by rw [z,k] at h2;cases h2),h2⟩⟩,R.len,fun i o d h=>?_⟩
 ·obtain ⟨c,e,x⟩:=R.wd.obj n ob h;exact ⟨c,e,x.keep fd fun b o hb' hn=>⟨kp b o hb' (fun z=>by rw [z,k] at hn;exact hn.elim),rfl⟩⟩
 ·obtain ⟨v,e,x⟩:=R.slots i o d h;exact ⟨v,e,x.keep fd fun b o hb' hr=>⟨kp b o hb' (fun z=>by rw [z,k] at hr;cases hr),hr⟩⟩
end
noncomputable def zxf(cl:Cf)(w:Wd):Bool->V->D->Prop
 | false,v,d=>Shd cl w v d
 | true,v,d=>∃a o i,v=.ref a/\w.ow a=some (.slot i)/\w.H a=some o/\Top cl w o d
noncomputable def zgg(cl:Cf)(n:Nat)(own:Bool)(G:List D->Sto->Out D):Sp:=fun vs H Q E=>vs.length=n/\∃B w ds S,w.H=H/\World' cl B w S/\Shds cl w vs ds/\match G ds S with
 | .ok d S'=>∀v w',World' cl B w' S'->Fut w w'->zxf cl w' own v d->Q v w'.H
 | .exc c S'=>∀w',World' cl B w' S'->Fut w w'->E (.ref (cl c)) none w'.H
 | .bad=>False
noncomputable def zcP(CX:CXT)(X:Cx)(E:St->XK):Prop:=∀(pins:Z3) (σ:St) (H:Hp) (s:Shared) (e:Value) (s':Shared),Inv X pins σ H s->CX X.stack H s (E σ) e s'->X.xe e s'
noncomputable def zgd(sp:Sp)(dvs:List V)(E:St->XK)(t:TA):TE:=fun σ H Q=>t σ H fun vs H1=>sp (vs++dvs) H1 Q (E σ)
section
variable{X:Cx}{CX:CXT}{k:Nat}{f C:Addr}{fd:FuncData}{ps:List Str}{sp:Sp}{dvs:List V}{ds:List Value}{E:St->XK}{x m:Str}{p pos apos:Pos}{e o:Expr}{es:List Expr}{ta:TE}{t:TA}
def zfx(F:FnOk X.prog X.w X.K X.mg X.base CX k f fd ps sp)(hr:Room k X.A)(hb:zcs X.K fd ps ds)(hd:Vals dvs ds)(hx:zcP CX X E)
  (I:Inv X pins σ H s) (r:Vals vs us) (h:sp (vs++dvs) H Q (E σ)):wpAny (model X.prog X.w) X.A (call (.ref f) us) (EP X pins σ Q) X.xe s:=by
 have r2:Vals (vs++dvs) (us++ds):=r.append hd
 have hl:(us++ds).length=ps.length:=by rw [<-r2.length];exact F.len _ _ _ _ h
 refine yc8 (ybK (F.run X.A X.stack s H ⟨us,[]⟩ (us++ds) (vs++dvs) Q (E σ) hr I.env0 (hb s us I.kIn hl) r2 h) fun r s' hq=>?_)
 cases r with
 | error e=>exact hx pins σ H s e s' I hq
 | ok fl =>
  cases fl with
  | ret u=>exact I.after hq
  | next=>exact False.elim hq
  | brk=>exact False.elim hq
  | cont=>exact False.elim hq
def zmO(F:FnOk X.prog X.w X.K X.mg X.base CX k f fd ps sp)(hr:Room k X.A)(hg:Gl X x)(hm:X.mg x=some (.ref f))(hk:PySem.W.keepIn X.K (.ref f)=true)(hb:zcs X.K fd ps ds)(hd:Vals dvs ds)(hx:zcP CX X E)
  (ha:PA X (e::es) t) (hdb:(x == ("__debug__":Str))=false) (he:starEach (e::es) X.env=(false,eval e X.env)::starEach es X.env) (hpl:(backTo pos (starEach es X.env)).any (·.1)=false) :
  PE X (.Call (.Name x p) (e::es) [] pos) (zgd sp dvs E t):=by
 intro pins s σ H Q I h;refine ybu (zdR I hg hm ?_ hdb);refine ycl (h₀:=X.base) I.ok.mod.kin hk (thn (ha pos pins s σ H _ I h) fun us s1 ⟨vs,H1,I1,r,q⟩=>⟨I1.kIn,?_⟩) he hpl;exact zfx F hr hb hd hx I1 r q
def zkZ(F:FnOk X.prog X.w X.K X.mg X.base CX k f fd ps sp)(hr:Room k X.A)(hg:Gl X x)(hm:X.mg x=some (.ref f))(hk:PySem.W.keepIn X.K (.ref f)=true)(hb:zcs X.K fd ps ds)(hd:Vals dvs ds)(hx:zcP CX X E)
  (hdb:(x == ("__debug__":Str))=false):PE X (.Call (.Name x p) [] [] pos) (zgd sp dvs E zrj):=by
 intro pins s σ H Q I h;refine ybu (zdR I hg hm ?_ hdb);exact PySem.W.callWith_K0 I.kIn hk (zfx (us:=[]) F hr hb hd hx I .nil h)
end
def eFn(G:List D->Sto->Out D)(fs:List Fe):Fe:=fun ρ S=>(zai fs ρ S).bind fun ds S1=>G ds S1
section
variable{cl:Cf}{E:St->XK}{fs:List Fe}{G:List D->Sto->Out D}{σ:St}{H:Hp}{Q:VK}{n:Nat}
def ztF(q:tE cl E (eFn G fs) σ H Q)(hn:fs.length=n):zgd (zgg cl n false G) [] E (tAs cl E fs) σ H Q:=by
 obtain ⟨B,w,ρ,S,rfl,R,q⟩:=q;refine ⟨B,w,ρ,S,rfl,R,?_⟩;unfold eFn at q
 cases hf:zai fs ρ S with
 | bad=>rwa [hf] at q
 | exc c S1=>rwa [hf] at q
 | ok ds S1 =>
  rw [hf] at q;intro vs w1 R1 F1 h1;dsimp only [Out.bind] at q
  have hl:∀(fs:List Fe) (S S1:Sto) (ds:List D),zai fs ρ S=.ok ds S1->ds.length=fs.length:=by
   intro fs
   induction fs with
   | nil=>intro S S1 ds h;cases h;rfl
   | cons f fs ih =>
    intro S S1 ds h;unfold zai at h
    cases h1:f ρ S with
    | bad=>rw [h1] at h;cases h
    | exc c S2=>rw [h1] at h;cases h
    | ok d S2 =>
     rw [h1] at h;dsimp only [Out.bind] at h
     cases h2:zai fs ρ S2 with
     | bad=>rw [h2] at h;cases h
     | exc c S3=>rw [h2] at h;cases h
     | ok es S3=>rw [h2] at h;cases h;rw [yaj,yaj,ih S2 _ es h2]
  refine ⟨by rw [yaS,h1.length,hl fs S S1 ds hf];exact hn,w1.base,w1.inn,ds,S1,rfl,R1.wd.enter,by rw [yaS];exact h1.up (zbq w1),?_⟩
  cases hg:G ds S1 with
  | bad=>rwa [hg] at q
  | exc c S2 =>
   rw [hg] at q;intro w2 W2 F2;obtain ⟨R3,F3⟩:=R1.leave W2 F2;exact q (w1.back w2) R3 (F1.trans F3)
  | ok d S2 =>
   rw [hg] at q;intro v w2 W2 F2 r2;obtain ⟨R3,F3⟩:=R1.leave W2 F2;exact q v (w1.back w2) R3 (F1.trans F3) (Shd.up (zbI W2) r2)
def ztE(q:tN cl E (eFn G fs) σ H Q)(hn:fs.length=n):zgd (zgg cl n true G) [] E (tAs cl E fs) σ H Q:=by
 obtain ⟨B,w,ρ,S,rfl,R,q⟩:=q;refine ⟨B,w,ρ,S,rfl,R,?_⟩;unfold eFn at q
 cases hf:zai fs ρ S with
 | bad=>rwa [hf] at q
 | exc c S1=>rwa [hf] at q
 | ok ds S1 =>
  rw [hf] at q;intro vs w1 R1 F1 h1;dsimp only [Out.bind] at q
  have hl:∀(fs:List Fe) (S S1:Sto) (ds:List D),zai fs ρ S=.ok ds S1->ds.length=fs.length:=by
   intro fs
   induction fs with
   | nil=>intro S S1 ds h;cases h;rfl
   | cons f fs ih =>
    intro S S1 ds h;unfold zai at h
    cases h1:f ρ S with
    | bad=>rw [h1] at h;cases h
    | exc c S2=>rw [h1] at h;cases h
    | ok d S2 =>
     rw [h1] at h;dsimp only [Out.bind] at h
     cases h2:zai fs ρ S2 with
     | bad=>rw [h2] at h;cases h
     | exc c S3=>rw [h2] at h;cases h
     | ok es S3=>rw [h2] at h;cases h;rw [yaj,yaj,ih S2 _ es h2]
  refine ⟨by rw [yaS,h1.length,hl fs S S1 ds hf];exact hn,w1.base,w1.inn,ds,S1,rfl,R1.wd.enter,by rw [yaS];exact h1.up (zbq w1),?_⟩
  cases hg:G ds S1 with
  | bad=>rwa [hg] at q
  | exc c S2 =>
   rw [hg] at q;intro w2 W2 F2;obtain ⟨R3,F3⟩:=R1.leave W2 F2;exact q (w1.back w2) R3 (F1.trans F3)
  | ok d S2 =>
   rw [hg] at q;intro v w2 W2 F2 r2;obtain ⟨R3,F3⟩:=R1.leave W2 F2;obtain ⟨a,o,i,rfl,k1,k2,t⟩:=r2;have hfr:w1.base.Fr a=none:=(W2.own a _ k1).elim (fun z=>by cases z) fun z=>z
   have k3:(w1.back w2).ow a=some .far:=by
    show (if (w1.base.Fr a).isSome=true then w1.ow a else Root.out (w2.ow a))=_;rw [hfr,k1];rfl
   have hb:B.Fr a=none:=by
    cases z:B.Fr a with
    | none=>rfl
    | some u=>rw [zcn R1.wd z] at hfr;cases hfr
   have hd:=zhA (w:=w1.back w2) (a:=a) (by rw [k3];exact yaC _);have:=q a o ((w1.back w2).del a) (R3.del k3 hb) (F1.trans (F3.trans hd)) (if_pos rfl) ((t.up (zbI W2)).up hd);rwa [zjW (w:=w1.back w2) k2] at this
end
noncomputable def frz1(ρ:Env)(i:Nat):Env:=match ρ[i]? with | some (some (true,d))=>ρ.set i (some (false,d)) | _=>ρ
def frz(is:List Nat)(ρ:Env):Env:=is.foldl frz1 ρ
def sFz(is:List Nat)(f:Fs):Fs:=fun ρ S=>f (frz is ρ) S
noncomputable def sNx:Fs:=fun ρ S=>.nx ρ S
noncomputable def zal(f g:Fs):Fs:=fun ρ S=>match f ρ S with | .nx ρ' S'=>g ρ' S' | o=>o
noncomputable def zc7(i:Nat)(own:Bool)(f:Fe):Fs:=fun ρ S=>match f ρ S with | .ok d S'=>.nx (ρ.set i (some (own,d))) S' | .exc c S'=>.ex c ρ S' | .bad=>.bad
noncomputable def zmq(f:Fe):Fs:=fun ρ S=>match f ρ S with | .ok _ S'=>.nx ρ S' | .exc c S'=>.ex c ρ S' | .bad=>.bad
noncomputable def zbF(f:Fe):Fs:=fun ρ S=>match f ρ S with | .ok d S'=>.rt d S' | .exc c S'=>.ex c ρ S' | .bad=>.bad
noncomputable def zpp:Fs:=fun _ S=>.rt .non S
noncomputable def zi8(i:Nat):Fs:=fun ρ S=>match ρ[i]? with | some (some (true,d))=>.rt d S | _=>.bad
def sIf(c:Fe)(f g:Fs):Fs:=fun ρ S=>match c ρ S with | .ok d S'=>(match isB d with | some true=>f ρ S' | some false=>g ρ S' | none=>.bad) | .exc x S'=>.ex x ρ S' | .bad=>.bad
noncomputable def ziX(cl:Cf)(E:St->XK)(own:Bool)(B:Base)(w:Wd)(De:Ends):Fo->Prop
 | .nx ρ' S'=>∀σ' w',Rel cl B σ' w' ρ' S'->Fut w w'->De.nx σ' w'.H
 | .bk ρ' S'=>∀σ' w',Rel cl B σ' w' ρ' S'->Fut w w'->De.bk σ' w'.H
 | .ct ρ' S'=>∀σ' w',Rel cl B σ' w' ρ' S'->Fut w w'->De.ct σ' w'.H
 | .rt d S'=>∀v w',World' cl B w' S'->Fut w w'->zxf cl w' own v d->De.rt v w'.H
 | .ex c ρ' S'=>∀σ' w',Rel cl B σ' w' ρ' S'->Fut w w'->E σ' (.ref (cl c)) none w'.H
 | .bad=>False
theorem ziX.up(f:Fut w w1):∀{o:Fo},ziX cl E own B w De o->ziX cl E own B w1 De o
 | .nx _ _,h=>fun σ' w' R F=>h σ' w' R (f.trans F)
 | .bk _ _,h=>fun σ' w' R F=>h σ' w' R (f.trans F)
 | .ct _ _,h=>fun σ' w' R F=>h σ' w' R (f.trans F)
 | .rt _ _,h=>fun v w' R F=>h v w' R (f.trans F)
 | .ex _ _ _,h=>fun σ' w' R F=>h σ' w' R (f.trans F)
 | .bad,h=>h
noncomputable def tS(cl:Cf)(E:St->XK)(own:Bool)(f:Fs):TS:=fun De σ H=>∃B w ρ S,w.H=H/\Rel cl B σ w ρ S/\ziX cl E own B w De (f ρ S)
def PS.imp{X:Cx}{st:Stmt}{t t':TS}(h:PS X st t)(i:∀De σ H,t' De σ H->t De σ H):PS X st t':=fun pins s σ H De I q=>h pins s σ H De I (i _ _ _ q)
def PSs.imp{X:Cx}{st:List Stmt}{t t':TS}(h:PSs X st t)(i:∀De σ H,t' De σ H->t De σ H):PSs X st t':=fun pins s σ H De I q=>h pins s σ H De I (i _ _ _ q)
section
variable{cl:Cf}{B:Base}{σ:St}{w:Wd}{ρ:Env}{S:Sto}
def Rel.put(R:Rel cl B σ w ρ S)(h:Shd cl w v d):Rel cl B (σ.set i (some v)) w (ρ.set i (some (false,d))) S where
 wd:=R.wd
 len:=by rw [yaK,yaK];exact R.len
 slots:=fun j o e hj=>by
  by_cases hij:i=j
  ·subst hij
   have hlt:i<ρ.length:=by
    have:=(yap.mp hj).1;rwa [yaK] at this
   rw [yaG hlt] at hj;cases hj;exact ⟨v,by rw [yaG (by rw [R.len];exact hlt)],h⟩
  ·rw [yaU hij] at hj ⊢;exact R.slots j o e hj
def Wd.addAs(w:Wd)(p:Addr)(o:HO)(r:Root):Wd:=⟨upd w.H p o,fun a=>if a=p then some r else if w.ow a=some r then some .far else w.ow a,w.mu⟩
def za1(h:w.H p=none):Fut w (w.addAs p o r) where
 keep:=fun a u ha hk=>by
  have n:a≠p:=zam ha h;refine ⟨?_,?_⟩
  ·show upd w.H p o a=_;rw [zac n];exact ha
  ·show (if a=p then some r else if w.ow a=some r then some Root.far else w.ow a)=none;rw [if_neg n,if_neg (by rw [hk];exact fun z=>by cases z)];exact hk
 mu:=fun _ _ h=>h
theorem Rel.own(R:Rel cl B σ w ρ S)(hp:w.H p=none)(t:Top cl w o d):Rel cl B (σ.set i (some (.ref p))) (w.addAs p o (.slot i)) (ρ.set i (some (true,d))) S:=by
 have ff:=za1 (w:=w) (p:=p) (o:=o) (r:=.slot i) hp
 have kp:∀a u,w.H a=some u->w.ow a≠some (.slot i)->(w.addAs p o (.slot i)).H a=some u/\(w.addAs p o (.slot i)).ow a=w.ow a:=fun a u ha hk=>by
  have n:a≠p:=zam ha hp;refine ⟨?_,?_⟩
  ·show upd w.H p o a=_;rw [zac n];exact ha
  ·show (if a=p then _ else if w.ow a=some (Root.slot i) then some Root.far else w.ow a)=_;rw [if_neg n,if_neg hk]
 have hBp:B.Fr p=none:=by
  cases z:B.Fr p with
  | none=>rfl
  | some u=>have:=(R.wd.fr p u z).1;rw [hp] at this;cases this
 refine ⟨⟨fun a u h=>?_,fun a r h=>?_,R.wd.len,fun n ob h=>?_,R.wd.tab.keep ff fun P ps h1 h2=>⟨(kp P _ h1 (by rw [h2];simp)).1,(kp P _ h1 (by rw [h2];simp)).2.trans h2⟩⟩,by rw [yaK,yaK];exact R.len,fun j b e hj=>?_⟩
 ·have hne:w.ow a≠some (.slot i):=fun z=>by
   rcases R.wd.own a _ z with y | y
   ·cases y
   ·rw [h] at y;cases y
  have:=kp a u (R.wd.fr a u h).1 hne;exact ⟨this.1,this.2.trans (R.wd.fr a u h).2⟩
 ·have h':(if a=p then some (Root.slot i) else if w.ow a=some (Root.slot i) then some Root.far else w.ow a)=some r:=h;split at h'
  ·rename_i e;rw [e];exact .inr hBp
  ·split at h'
   ·cases h';exact .inl rfl
   ·exact R.wd.own a r h'
 ·obtain ⟨a,e,x⟩:=R.wd.obj n ob h;exact ⟨a,e,x.keep ff fun b u hb hn=>kp b u hb fun z=>by rwa [z] at hn⟩
 ·by_cases hij:i=j
  ·subst hij
   have hlt:i<ρ.length:=by
    have:=(yap.mp hj).1;rwa [yaK] at this
   rw [yaG hlt] at hj;cases hj;exact ⟨.ref p,by rw [yaG (by rw [R.len];exact hlt)],p,o,rfl,if_pos rfl,zag,t.up ff⟩
  ·rw [yaU hij] at hj ⊢;obtain ⟨v,e1,x⟩:=R.slots j b e hj;refine ⟨v,e1,x.keep ff fun a u ha hr=>?_⟩;have:=kp a u ha (by rw [hr];exact fun z=>hij (by cases z;rfl));exact ⟨this.1,this.2.trans hr⟩
def Wd.mut(w:Wd)(p:Addr)(o:HO):Wd:=⟨upd w.H p o,w.ow,w.mu⟩
def zcG(h:w.ow p≠none):Fut w (w.mut p o) where
 keep:=fun a u ha hk=>⟨by
  show upd w.H p o a=_
  rw [zac (fun z=>h (by rw [<-z];exact hk))];exact ha,hk⟩
 mu:=fun _ _ h=>h
theorem Rel.mut{i:Nat}{p:Addr}{o:HO}{d d0:D}(R:Rel cl B σ w ρ S)(hs:σ[i]?=some (some (.ref p)))(hk:w.ow p=some (.slot i))(t:Top cl w o d):Rel cl B σ (w.mut p o) (ρ.set i (some (true,d))) S:=by
 have ff:=zcG (w:=w) (p:=p) (o:=o) (by rw [hk];exact yaC _)
 have kp:∀a u,w.H a=some u->w.ow a≠some (.slot i)->(w.mut p o).H a=some u/\(w.mut p o).ow a=w.ow a:=fun a u ha hn=>⟨by
  show upd w.H p o a=_
  rw [zac (fun z=>hn (by rw [z];exact hk))];exact ha,rfl⟩
 have hBp:B.Fr p=none:=(R.wd.own p _ hk).elim (fun z=>by cases z) fun z=>z
 refine ⟨⟨fun a u h=>?_,R.wd.own,R.wd.len,fun n ob h=>?_,R.wd.tab.keep ff fun P ps h1 h2=>⟨(kp P _ h1 (by rw [h2];simp)).1,(kp P _ h1 (by rw [h2];simp)).2.trans h2⟩⟩,by rw [yaK];exact R.len,fun j b e hj=>?_⟩
 ·have hne:w.ow a≠some (.slot i):=fun z=>by
   rcases R.wd.own a _ z with y | y
   ·cases y
   ·rw [h] at y;cases y
  have:=kp a u (R.wd.fr a u h).1 hne;exact ⟨this.1,(R.wd.fr a u h).2⟩
 ·obtain ⟨a,e,x⟩:=R.wd.obj n ob h;exact ⟨a,e,x.keep ff fun b u hb hn=>kp b u hb fun z=>by rwa [z] at hn⟩
 ·by_cases hij:i=j
  ·subst hij
   have hlt:i<ρ.length:=by
    have:=(yap.mp hj).1;rwa [yaK] at this
   rw [yaG hlt] at hj;cases hj;exact ⟨.ref p,hs,p,o,rfl,hk,zag,t.up ff⟩
  ·rw [yaU hij] at hj;obtain ⟨v,e1,x⟩:=R.slots j b e hj;refine ⟨v,e1,x.keep ff fun a u ha hr=>?_⟩;have:=kp a u ha (by rw [hr];exact fun z=>hij (by cases z;rfl));exact ⟨this.1,this.2.trans hr⟩
noncomputable def Wd.free(w:Wd)(r:Root):Wd:=⟨w.H,fun a=>if w.ow a=some r then none else w.ow a,w.mu⟩
theorem Rel.frz1{X:Cx}{pins:Z3}{s:Shared}(R:Rel cl B σ w ρ S)(i:Nat)(I:Inv X pins σ w.H s):∃w',Inv X pins σ w'.H s/\Fut w w'/\Rel cl B σ w' (frz1 ρ i) S:=by
 unfold S2.frz1;split
 ·rename_i d hd;obtain ⟨v,e1,a,o,rfl,h1,h2,t⟩:=R.slots i true d hd;obtain ⟨o',I',hsh⟩:=t.fz I h2;generalize hw:((w.mut a o').free (.slot i):Wd)=w'
  have eH:w'.H=upd w.H a o':=by rw [<-hw];rfl
  have eO:∀b,w'.ow b=if w.ow b=some (.slot i) then none else w.ow b:=fun b=>by rw [<-hw];rfl
  have eM:w'.mu=w.mu:=by rw [<-hw];rfl
  have kp:∀b u,w.H b=some u->w.ow b≠some (.slot i)->w'.H b=some u/\w'.ow b=w.ow b:=fun b u hb hn=>⟨by
   rw [eH,zac (fun z=>hn (by rw [z];exact h1))];exact hb,by rw [eO,if_neg hn]⟩
  have ff:Fut w w':=⟨fun b u hb hk=>⟨(kp b u hb (by rw [hk];simp)).1,(kp b u hb (by rw [hk];simp)).2.trans hk⟩,fun n b h=>by rw [eM];exact h⟩;refine ⟨w',by rw [eH];exact I',ff,⟨fun b u h=>?_,fun b r h=>?_,by rw [eM];exact R.wd.len,fun n ob h=>?_,R.wd.tab.keep ff fun P ps h1 h2=>⟨(kp P _ h1 (by rw [h2];simp)).1,(kp P _ h1 (by rw [h2];simp)).2.trans h2⟩⟩,by rw [yaK];exact R.len,fun j b e hj=>?_⟩
  ·have hne:w.ow b≠some (.slot i):=fun z=>by
    rcases R.wd.own b _ z with y | y
    ·cases y
    ·rw [h] at y;cases y
   have:=kp b u (R.wd.fr b u h).1 hne;exact ⟨this.1,this.2.trans (R.wd.fr b u h).2⟩
  ·rw [eO] at h;split at h
   ·cases h
   ·exact R.wd.own b r h
  ·obtain ⟨b,e,x⟩:=R.wd.obj n ob h;exact ⟨b,by rw [eM];exact e,x.keep ff fun b u hb hn=>kp b u hb fun z=>by rwa [z] at hn⟩
  ·by_cases hij:i=j
   ·subst hij;have hlt:i<ρ.length:=(yap.mp hd).1;rw [yaG hlt] at hj;cases hj;exact ⟨.ref a,e1,hsh w' ff (by rw [eH,zag]) (by rw [eO,if_pos h1])⟩
   ·rw [yaU hij] at hj;obtain ⟨v,e1,x⟩:=R.slots j b e hj;refine ⟨v,e1,x.keep ff fun a u ha hr=>?_⟩;have:=kp a u ha (by rw [hr];exact fun z=>hij (by cases z;rfl));exact ⟨this.1,this.2.trans hr⟩
 ·exact ⟨w,I,Fut.refl _,R⟩
theorem Rel.frz{X:Cx}{pins:Z3}{s:Shared}:∀(is:List Nat) {w:Wd} {ρ:Env},Rel cl B σ w ρ S->Inv X pins σ w.H s->∃w',Inv X pins σ w'.H s/\Fut w w'/\Rel cl B σ w' (frz is ρ) S
 | [],w,ρ,R,I=>⟨w,I,Fut.refl _,R⟩
 | i::is,w,ρ,R,I=>by
  obtain ⟨w1,I1,f1,R1⟩:=R.frz1 i I;obtain ⟨w2,I2,f2,R2⟩:=Rel.frz is R1 I1;exact ⟨w2,I2,f1.trans f2,R2⟩
end
section
variable{X:Cx}{cl:Cf}{E:St->XK}{own:Bool}{st:Stmt}{zbH:List Stmt}{f g:Fs}{e:Expr}{fe:Fe}{pos pos':Pos}
def zuC(is:List Nat)(h:PS X st (tS cl E own f)):PS X st (tS cl E own (sFz is f)):=by
 intro pins s σ H De I q;obtain ⟨B,w,ρ,S,rfl,R,q⟩:=q;obtain ⟨w',I',f',R'⟩:=R.frz is I;exact h pins s σ w'.H De I' ⟨B,w',frz is ρ,S,rfl,R',ziX.up f' q⟩
def zrz:PSs X [] (tS cl E own sNx):=by
 refine PSs.imp zkM ?_;rintro De σ H ⟨B,w,ρ,S,rfl,R,q⟩;exact q σ w R (Fut.refl _)
def zo6(h1:PS X st (tS cl E own f))(h2:PSs X zbH (tS cl E own g)):PSs X (st::zbH) (tS cl E own (zal f g)):=by
 refine PSs.imp (zdv h1 h2) ?_;rintro De σ H ⟨B,w,ρ,S,rfl,R,q⟩;refine ⟨B,w,ρ,S,rfl,R,?_⟩;unfold zal at q
 cases hf:f ρ S with
 | nx ρ' S' =>
  rw [hf] at q;intro σ' w' R' F';exact ⟨B,w',ρ',S',rfl,R',ziX.up F' q⟩
 | bk ρ' S'=>rwa [hf] at q
 | ct ρ' S'=>rwa [hf] at q
 | rt d S'=>rwa [hf] at q
 | ex c ρ' S'=>rwa [hf] at q
 | bad=>rwa [hf] at q
def zo1:PS X (.Pass pos) (tS cl E own sNx):=by
 refine PS.imp zpC ?_;rintro De σ H ⟨B,w,ρ,S,rfl,R,q⟩;exact q σ w R (Fut.refl _)
def zvJ(q:tS cl E own (zc7 i false fe) De σ H):znR (tE cl E fe) (zhz i) De σ H:=by
 obtain ⟨B,w,ρ,S,rfl,R,q⟩:=q;refine ⟨B,w,ρ,S,rfl,R,?_⟩;unfold zc7 at q
 cases hf:fe ρ S with
 | bad=>rwa [hf] at q
 | exc c S1=>rw [hf] at q;exact fun w' R' F'=>q σ w' R' F'
 | ok d S1 =>
  rw [hf] at q;intro v w' R' F' h';exact q _ w' (R'.put h') F'
def ztL(q:tS cl E own (zc7 i true fe) De σ H):znR (tN cl E fe) (zhz i) De σ H:=by
 obtain ⟨B,w,ρ,S,rfl,R,q⟩:=q;refine ⟨B,w,ρ,S,rfl,R,?_⟩;unfold zc7 at q
 cases hf:fe ρ S with
 | bad=>rwa [hf] at q
 | exc c S1=>rw [hf] at q;exact fun w' R' F'=>q σ w' R' F'
 | ok d S1 =>
  rw [hf] at q;intro p o w' R' F' hp t;exact q _ (w'.addAs p o (.slot i)) (R'.own hp t) (F'.trans (za1 hp))
def zrB(hN:X.N.Nodup)(hi:X.N[i]?=some x)(hx:Loc X.env.scope x)(he:PE X e (tE cl E fe))(hs:swapsWith e (some (.Name x pos')) pos.line X.env=pure false)(hf:X.fn x=true\/X.env.scope.names.lookup x=some .local):PS X (.Assign [.Name x pos'] e pos) (tS cl E own (zc7 i false fe)) :=
 PS.imp (zii hN hi hx he hs hf) fun _ _ _ q=>zvJ q
def zkg(hN:X.N.Nodup)(hi:X.N[i]?=some x)(hx:Loc X.env.scope x)(he:PE X e (tN cl E fe))(hs:swapsWith e (some (.Name x pos')) pos.line X.env=pure false)(hf:X.fn x=true\/X.env.scope.names.lookup x=some .local):PS X (.Assign [.Name x pos'] e pos) (tS cl E own (zc7 i true fe)) :=
 PS.imp (zii hN hi hx he hs hf) fun _ _ _ q=>ztL q
def znS(he:PE X e (tE cl E fe))(hs:swapsWith e none pos.line X.env=pure false):PS X (.Expr e pos) (tS cl E own (zmq fe)):=by
 refine PS.imp (zdb he hs) ?_;rintro De σ H ⟨B,w,ρ,S,rfl,R,q⟩;refine ⟨B,w,ρ,S,rfl,R,?_⟩;unfold zmq at q
 cases hf:fe ρ S with
 | bad=>rwa [hf] at q
 | exc c S1=>rw [hf] at q;exact fun w' R' F'=>q σ w' R' F'
 | ok d S1=>rw [hf] at q;exact fun v w' R' F' _=>q σ w' R' F'
def zry(he:PE X e (tE cl E fe)):PS X (.Return (some e) pos) (tS cl E false (zbF fe)):=by
 refine PS.imp (zgs he) ?_;rintro De σ H ⟨B,w,ρ,S,rfl,R,q⟩;refine ⟨B,w,ρ,S,rfl,R,?_⟩;unfold zbF at q
 cases hf:fe ρ S with
 | bad=>rwa [hf] at q
 | exc c S1=>rw [hf] at q;exact fun w' R' F'=>q σ w' R' F'
 | ok d S1=>rw [hf] at q;exact fun v w' R' F' h'=>q v w' R'.wd F' h'
def zoW(he:PE X e (tN cl E fe)):PS X (.Return (some e) pos) (tS cl E true (zbF fe)):=by
 refine PS.imp (zgs he) ?_;rintro De σ H ⟨B,w,ρ,S,rfl,R,q⟩;refine ⟨B,w,ρ,S,rfl,R,?_⟩;unfold zbF at q
 cases hf:fe ρ S with
 | bad=>rwa [hf] at q
 | exc c S1=>rw [hf] at q;exact fun w' R' F'=>q σ w' R' F'
 | ok d S1 =>
  rw [hf] at q;intro p o w' R' F' hp t;have ff:=za1 (w:=w') (p:=p) (o:=o) (r:=.slot 0) hp;exact q (.ref p) (w'.addAs p o (.slot 0)) (Rel.own (i:=0) R' hp t).wd (F'.trans ff) ⟨p,o,0,rfl,if_pos rfl,zag,t.up ff⟩
def zoV(hN:X.N[i]?=some x)(hv:Vis X.env.scope x)(hd:(x == ("__debug__":Str))=false)(hcd:(x == ("__classdict__":Str))=false):PS X (.Return (some (.Name x pos')) pos) (tS cl E true (zi8 i)):=by
 refine PS.imp (zgs (zaD hN hv hd hcd)) ?_;rintro De σ H ⟨B,w,ρ,S,rfl,R,q⟩;unfold zi8 at q;split at q
 ·rename_i d hd;obtain ⟨v,e1,a,o,rfl,h1,h2,t⟩:=R.slots i true d hd;exact ⟨_,e1,q _ w R.wd (Fut.refl _) ⟨a,o,i,rfl,h1,h2,t⟩⟩
 ·exact q.elim
def zoX:PS X (.Return none pos) (tS cl E false zpp):=by
 refine PS.imp zpB ?_;rintro De σ H ⟨B,w,ρ,S,rfl,R,q⟩;exact q .non w R.wd (Fut.refl _) .non
def zuB(hc:PT X c (tTr cl E fc))(ha:PSs X a (tS cl E own f))(hb:PSs X b (tS cl E own g)):PS X (.If c a b pos) (tS cl E own (sIf fc f g)):=by
 refine PS.imp (zsh hc ha hb) ?_;rintro De σ H ⟨B,w,ρ,S,rfl,R,q⟩;refine ⟨B,w,ρ,S,rfl,R,?_⟩;unfold sIf at q
 cases hg:fc ρ S with
 | bad=>rwa [hg] at q
 | exc c S1=>rw [hg] at q;exact fun w' R' F'=>q σ w' R' F'
 | ok d S1 =>
  rw [hg] at q;dsimp only at q ⊢
  cases hb:isB d with
  | none=>rw [hb] at q;exact q.elim
  | some b =>
   rw [hb] at q;intro w1 R1 F1
   cases b with
   | true=>exact zoh ⟨B,w1,ρ,S1,rfl,R1,ziX.up F1 q⟩
   | false=>exact zoi ⟨B,w1,ρ,S1,rfl,R1,ziX.up F1 q⟩
end
def zhk(i:Nat)(fe:Fe):Fs:=fun ρ S=>match ρ[i]? with
 | some (some (true,.lst l))=>(match fe ρ S with
  | .ok d S'=>if zaE l.length then .nx (ρ.set i (some (true,.lst (l++[d])))) S' else .bad
  | .exc c S'=>.ex c ρ S' | .bad=>.bad)
 | _=>.bad
section
variable{X:Cx}{cl:Cf}{E:St->XK}{own:Bool}{e:Expr}{fe:Fe}{pos pos':Pos}
def zcS(h:zaE n=true):n<sizeLine:=yc0 (yao h) (by decide)
def Rel.list(R:Rel cl B σ w ρ S)(h:ρ[i]?=some (some (true,.lst l))):∃a xs,σ[i]?=some (some (.ref a))/\w.ow a=some (.slot i)/\w.H a=some (.lst xs)/\Shds cl w xs l:=by
 obtain ⟨v,e1,a,o,rfl,h1,h2,t⟩:=R.slots i true _ h
 cases t with
 | lst t=>exact ⟨a,_,e1,h1,h2,t⟩
def zrC(hN:X.N[i]?=some x)(hv:Vis X.env.scope x)(hd:(x == ("__debug__":Str))=false)(hcd:(x == ("__classdict__":Str))=false)(he:PE X e (tE cl E fe))
  (hpl:zbi e=true) (hln:(ap.endLine == cp.line)=true):PS X (.Expr (.Call (.Attribute (.Name x pos') "append" ap) [e] [] cp) pos) (tS cl E own (zhk i fe)):=by
 refine PS.imp (zdb (zjm (es:=[]) ya7 ybO ybP zdx (zaD hN hv hd hcd) (zaF he zbx (zaO hpl)) (hfew:=zgO (by simp [hpl]) (by simp)) (hline:=hln) (hs:=zaO hpl) (hplain:=rfl))) ?_;rintro De σ H ⟨B,w,ρ,S,rfl,R,q⟩;unfold zhk at q;split at q
 ·rename_i l hl;obtain ⟨a,xs,e1,h1,h2,t⟩:=R.list hl;refine ⟨_,e1,.inl ⟨rfl,_,SqL.of h2⟩,B,w,ρ,S,rfl,R,?_⟩
  cases hf:fe ρ S with
  | bad=>rwa [hf] at q
  | exc c S1=>rw [hf] at q;exact fun w' R' F'=>q σ w' R' F'
  | ok d S1 =>
   rw [hf] at q;intro v w' R' F' h';dsimp only at q
   cases hz:zaE l.length with
   | false=>rw [hz,if_neg (by decide)] at q;exact q.elim
   | true =>
    rw [hz,if_pos rfl] at q;obtain ⟨a',xs',e1',h1',h2',t'⟩:=R'.list hl;rw [e1] at e1';cases e1';refine ⟨a,xs',v,rfl,rfl,h2',by rw [t'.length];exact zcS hz,?_⟩;exact q σ (w'.mut a (.lst (xs'++[v]))) (R'.mut (d0:=.non) e1 h1' (.lst (t'.append (.cons h' .nil)))) (F'.trans (zcG (by rw [h1'];exact yaC _)))
 ·exact q.elim
end
end S2
namespace L2
open PySem PySem.Spec PyProof.Rows
section
variable{prog:Program}{w:World}{A:Around}{E:Z5}{s:Shared}
def zmg{it t:Addr}{j:Nat}{vs:Array Value}{v:Value}{Q:Z5}(st:s.heap.IsTupleIter it t j)(tp:s.heap.IsTuple t vs)(e:vs[j]?=some v)
  (q:∀h',h'.IsTupleIter it t (j+1)->Heap.SameBut it s.heap h'->Q v { s with heap:=h' }):wpAny (model prog w) A (Builtin.SmallTypes.nextOf (.ref it)) Q E s:=by
 obtain ⟨o1,g1,c1,d1⟩:=id st;obtain ⟨o2,g2,_,n2,d2⟩:=tp;unfold Builtin.SmallTypes.nextOf;refine yaa (yaX (name:=Str.ofString "__next__") st.typeIs ybH (yaY ybH st.typeIs F.entry_tuple_iterator_next ?_ (F.args_tuple_iterator_next_1 _)));show wpAny _ _ (field (.ref it) 0 >>= _) _ _ s;refine yaa (ybL g1 d1 (x:=.ref t) rfl ?_);show wpAny _ _ (if (Value.ref t == Value.none)=true then _ else _) _ _ s;rw [if_neg (show ¬ ((Value.ref t == Value.none)=true) from fun z=>yaP z)];show wpAny _ _ (field (.ref it) 1 >>= _) _ _ s;refine yaa (ybL g1 d1 (x:=.int j 0) rfl ?_);show wpAny _ _ (seqItems? (.ref t) >>= _) _ _ s;refine yaa (ybq g2 d2 ?_);simp only [ybe,e];refine yaa (ycz g1 d1 (by simp) (yad ⟨v,rfl,yad (q _ ?_ (Heap.SameBut.update ..))⟩));refine ⟨_,ybs _ g1 (ycD (ybi d1 _)),(yc9 ..).trans c1,?_⟩;rw [ybi d1];simp [rawInt]
def zoF{it t:Addr}{j:Nat}{vs:Array Value}{Q:Z5}(hh:A.handled=none)(st:s.heap.IsTupleIter it t j)(tp:s.heap.IsTuple t vs)(e:vs[j]?=none)
  (q:∀h' x,Heap.ExtBut it s.heap h'->(∃o,h'.get? x=some o/\o.cls=.type "StopIteration")->E (.ref x) { s with heap:=h' }):wpAny (model prog w) A (Builtin.SmallTypes.nextOf (.ref it)) Q E s:=by
 obtain ⟨o1,g1,c1,d1⟩:=id st;obtain ⟨o2,g2,_,n2,d2⟩:=tp;unfold Builtin.SmallTypes.nextOf;refine yaa (yaX (name:=Str.ofString "__next__") st.typeIs ybH (yaY ybH st.typeIs F.entry_tuple_iterator_next ?_ (F.args_tuple_iterator_next_1 _)));show wpAny _ _ (field (.ref it) 0 >>= _) _ _ s;refine yaa (ybL g1 d1 (x:=.ref t) rfl ?_);show wpAny _ _ (if (Value.ref t == Value.none)=true then _ else _) _ _ s;rw [if_neg (show ¬ ((Value.ref t == Value.none)=true) from fun z=>yaP z)];show wpAny _ _ (field (.ref it) 1 >>= _) _ _ s;refine yaa (ybL g1 d1 (x:=.int j 0) rfl ?_);show wpAny _ _ (seqItems? (.ref t) >>= _) _ _ s;refine yaa (ybq g2 d2 ?_);simp only [ybe,e];refine yaa (yc3 (yaa (ycz g1 d1 (by simp) ?_)));show wpAny _ _ (newExc (.type "StopIteration") [] >>= _) _ _ _;refine yaa ?_;simp only [newExc,newTuple];refine yaa (yaZ ?_ (by size_fits));refine yaa (m:=firstArgMember _ _) (ycx (a:=Value.none) ?_ ?_)
 ·first | rfl | (simp only [firstArgMember];rfl)
 refine yaZ ?_ (by size_fits);simp only [raiseNew];refine yaa (wpAny_handled ?_)
 first | rw [show A.in1.handled=none from hh] | rw [hh]
 refine yaa (yad (wpAny_throw (q _ _ (((Heap.SameBut.update ..).extBut.push _).push _) ⟨_,yal _ rfl,rfl⟩)))
def zlH(hh:A.handled=none)(it t:Addr)(ne:t≠it)(vs:Array Value):Draws prog w A it [it,t] vs.size (fun j v=>vs[j]?=some v) (fun j h=>h.IsTupleIter it t j/\h.IsTuple t vs) where
 live:=fun _ _ st=>by obtain ⟨⟨o,ho,_⟩,_⟩:=st;exact ⟨o,ho⟩
 frame:=fun _ _ _ st hk=>⟨st.1.at fun o e=>hk it (by simp) o e,by obtain ⟨o,ho,r⟩:=st.2;exact ⟨o,hk t (by simp) o ho,r⟩⟩
 item:=fun j s Q E hj st hQ=>zmg st.1 st.2 (v:=vs[j]) (by simp [hj]) fun h' st' sb=>hQ _ h' s.toks (by simp [hj]) ⟨st',by obtain ⟨o,ho,r⟩:=st.2;exact ⟨o,(sb.2 t ne).trans ho,r⟩⟩ sb
 done:=fun s Q E st hE=>zoF hh st.1 st.2 (by simp) hE
end
section
variable{X:Cx}{pins:Z3}{σ:St}{H:Hp}{s:Shared}
def Inv.turnedL{t':Nat}{h':Heap}{ch:List Addr}(I:Inv X pins σ H s)(k:∀b o,b ∉ ch->s.heap.get? b=some o->h'.get? b=some o)(hf:∀b∈ch,zl7 X pins H b):Inv X pins σ H { s with heap:=h',toks:=t' }:=by
 have nit:∀b u,H b=some u->b ∉ ch:=fun b u e z=>by rw [(hf b z).1] at e;cases e
 refine I.step (g':=s.gens) (d':=s.drawn) (ch:=ch) (fun b hb=>?_) (fun b o _ _ hc e _=>k b o hc e) (fun b o _ _ hc e _=>⟨o.slots,k b o hc e⟩) (fun _ _ _ _ n=>n) (fun b o hc e=>⟨o,k b o hc e⟩) (fun _ _ e=>e) (fun _ _ _ e=>e) (fun b ps e=>⟨#[],by rw [e];simp⟩) (fun m hm=>?_) (fun b u e=>?_) I.bare
 ·obtain ⟨f0,f1,f2,f3,f4,f5⟩:=hf b hb;exact ⟨f3,f1,f4,f5⟩
 ·obtain ⟨o,es,ep,ho,r⟩:=hm;exact ⟨o,es,ep,k _ o (fun z=>(hf _ z).2.1 rfl) ho,r⟩
 ·refine (I.hok b u e).stay (fun c v hc q=>k c v ?_ q) (fun _ q=>q) fun _ _ q=>q
  rcases hc with z | z
  ·rw [z];exact nit b u e
  ·exact nit c _ z
end
end L2
namespace S2
open PySem PySem.Spec PyProof.Rows L2
structure ItOk(cl:Cf)(w:Wd)(J:It)(ds:List D):Prop where
 go:∀w',Fut w w'->∀i,i<ds.length->J.go i w'.H
 stop:∀w',Fut w w'->J.stop ds.length w'.H
 yld:∀w',Fut w w'->∀i d x H',ds[i]?=some d->J.yld i w'.H x H'->∃w'',w''.H=H'/\Grow w' w''/\Shd cl w'' x d
noncomputable abbrev Fi:=Env->Sto->Out (List D)
noncomputable def tI(cl:Cf)(E:St->XK)(f:Fi):TI:=fun σ H R'=>∃B w ρ S,w.H=H/\Rel cl B σ w ρ S/\match f ρ S with
 | .ok ds S'=>∀J w',Rel cl B σ w' ρ S'->Fut w w'->ItOk cl w' J ds->R' J w'.H
 | .exc c S'=>∀w',Rel cl B σ w' ρ S'->Fut w w'->E σ (.ref (cl c)) none w'.H
 | .bad=>False
def PI.imp(h:PI X tg it t)(i:∀σ H Q,t' σ H Q->t σ H Q):PI X tg it t':=fun pins s σ H Q I q=>h pins s σ H Q I (i _ _ _ q)
inductive Tg where | one (i:Nat) | tup (is:List Nat)
noncomputable def zih:List Nat->List D->Env->Option Env
 | [],[],ρ=>some ρ
 | i::is,d::ds,ρ=>zih is ds (ρ.set i (some (false,d)))
 | _,_,_=>none
noncomputable def Tg.put:Tg->Env->D->Option Env
 | .one i,ρ,d=>some (ρ.set i (some (false,d)))
 | .tup is,ρ,.tup ds=>zih is ds ρ
 | .tup _,_,_=>none
noncomputable def tG(cl:Cf)(n:Nat)(tg:Tg):TG:=fun v σ H Q=>∃B w ρ S d ρ',w.H=H/\Rel cl B σ w ρ S/\Shd cl w v d/\tg.put ρ d=some ρ'/\∀σ',σ'.length=σ.length->σ'.drop n=σ.drop n->Rel cl B σ' w ρ' S->Q σ' w.H
def PG.imp(h:PG X tg t)(i:∀v σ H Q,t' v σ H Q->t v σ H Q):PG X tg t':=fun pins s σ H v u Q I r q=>h pins s σ H v u Q I r (i _ _ _ _ q)
def zfi(tg:Tg)(body:Fs):List D->Env->Sto->Fo
 | [],ρ,S=>.nx ρ S
 | d::ds,ρ,S=>match tg.put ρ d with
  | none=>.bad
  | some ρ1=>match body ρ1 S with
   | .nx ρ' S'=>zfi tg body ds ρ' S'
   | .ct ρ' S'=>zfi tg body ds ρ' S'
   | .bk ρ' S'=>.nx ρ' S'
   | o=>o
noncomputable def zjb(tg:Tg)(it:Fi)(body:Fs):Fs:=fun ρ S=>match it ρ S with
 | .ok ds S'=>zfi tg body ds ρ S'
 | .exc c S'=>.ex c ρ S'
 | .bad=>.bad
section
variable{X:Cx}{cl:Cf}{E:St->XK}{own:Bool}{e iter tg:Expr}{body:List Stmt}{fb:Fs}{fi:Fi}{fc:Fe}{t:Tg}{pos:Pos}
theorem ziN{α:Type}{l:List α}{a:α}(h:i<n):(l.set i a).drop n=l.drop n:=by
 refine ybp fun k=>?_
 rw [ybb,ybb,yaU (by omega)]
def zrM(hin:i<n)(hN:X.N.Nodup)(hi:X.N[i]?=some x)(hx:Loc X.env.scope x)(hf:X.fn x=true\/X.env.scope.names.lookup x=some .local):PG X (.Name x pos) (tG cl n (.one i)):=by
 refine PG.imp (zkV hN hi hx hf) ?_;rintro v σ H Q ⟨B,w,ρ,S,d,ρ',rfl,R,h,hp,q⟩;cases hp;exact q _ (yaK ..) (ziN hin) (R.put h)
noncomputable def tGs(cl:Cf)(n:Nat)(is:List Nat):TGs:=fun vs σ H Q=>∃B w ρ S ds ρ',w.H=H/\Rel cl B σ w ρ S/\Shds cl w vs ds/\zih is ds ρ=some ρ'/\∀σ',σ'.length=σ.length->σ'.drop n=σ.drop n->Rel cl B σ' w ρ' S->Q σ' w.H
def zpg:PGs X [] (tGs cl n []):=by
 intro pins s σ H vs us Q I r h;obtain ⟨B,w,ρ,S,ds,ρ',rfl,R,hs,hp,q⟩:=h
 cases hs with
 | nil =>
  cases hp;exact zpN pins s σ w.H [] us Q I r ⟨rfl,q σ rfl rfl R⟩
 | cons _ _=>cases hp
def zmm(hin:i<n)(hN:X.N.Nodup)(hi:X.N[i]?=some x)(hx:Loc X.env.scope x)(hf:X.fn x=true\/X.env.scope.names.lookup x=some .local)(h2:PGs X es (tGs cl n is)):PGs X (.Name x pos::es) (tGs cl n (i::is)):=by
 intro pins s σ H vs us Q I r h;obtain ⟨B,w,ρ,S,ds,ρ',rfl,R,hs,hp,q⟩:=h;refine zmF (zkV hN hi hx hf) h2 rfl pins s σ w.H vs us Q I r ?_
 cases hs with
 | nil=>cases hp
 | cons h t =>
  rename_i v d vs ds;exact ⟨v,vs,rfl,B,w,_,S,ds,ρ',rfl,R.put h,t,hp,fun σ' e1 e2=>q σ' (e1.trans (yaK ..)) (e2.trans (ziN hin))⟩
def zrL(hc:X.calm=true)(h:PGs X es (tGs cl n is))(hn:(assignEach es X.env).length=is.length)(hst:(assignEach es X.env).findIdx? (·.1)=none):PG X (.Tuple es k pos) (tG cl n (.tup is)):=by
 refine PG.imp (zsm hc h hn hst) ?_;rintro v σ H Q ⟨B,w,ρ,S,d,ρ',rfl,R,h,hp,q⟩
 cases h with
 | tup e k r =>
  have hl:∀(is:List Nat) (ds:List D) (ρ ρ':Env),zih is ds ρ=some ρ'->ds.length=is.length:=by
   intro is
   induction is with
   | nil=>intro ds ρ ρ' h;cases ds with
    | nil=>rfl
    | cons _ _=>cases h
   | cons i is ih=>intro ds ρ ρ' h;cases ds with
    | nil=>cases h
    | cons d ds=>rw [yaj,yaj,ih ds _ _ h]
  rename_i a xs ds;refine ⟨a,xs,rfl,SqT.of e,by rw [r.length];exact hl is ds ρ ρ' hp,B,w,ρ,S,ds,ρ',rfl,R,r,hp,q⟩
 | _=>cases hp
theorem zrA(hp:PassesOwn (model X.prog X.w) X.A X.env X.xe)(hc:X.calm=true)(hi:PI X tg iter (tI cl E fi))(hg:PG X tg (tG cl n t))(hb:PSs X body (tS cl E own fb))(hs:∀x,foldedSetIterable iter X.env x=pure x):PS X (.For tg iter body [] pos) (tS cl E own (zjb t fi fb)):=by
 refine PS.imp (zsi hp hc hi hg hb hs) ?_;rintro De σ H ⟨B,w,ρ,S,rfl,R,q⟩;refine ⟨B,w,ρ,S,rfl,R,?_⟩;unfold zjb at q
 cases hf:fi ρ S with
 | bad=>rwa [hf] at q
 | exc c S1=>rw [hf] at q;exact fun w' R' F'=>q σ w' R' F'
 | ok ds S1 =>
  rw [hf] at q;intro J w0 R0 F0 hJ;dsimp only at q;refine ⟨fun i m σ' H'=>m=ds.length-i/\i<=ds.length/\∃w1 ρ1 S2,w1.H=H'/\Fut w0 w1/\Rel cl B σ' w1 ρ1 S2/\ziX cl E own B w1 De (zfi t fb (ds.drop i) ρ1 S2),⟨ds.length,by simp,ya2 _,w0,ρ,S1,rfl,Fut.refl _,R0,by rw [List.drop_zero];exact ziX.up F0 q⟩,?_⟩;rintro i m σ1 H1 ⟨rfl,hi,w1,ρ1,S2,rfl,F1,R1,q1⟩
  by_cases hlt:i<ds.length
  ·obtain ⟨d,hd⟩:∃d,ds[i]?=some d:=⟨ds[i],yac hlt⟩
   have hdr:ds.drop i=d::ds.drop (i+1):=by
    rw [List.drop_eq_getElem_cons hlt];rw [yac hlt] at hd;cases hd;rfl
   rw [hdr] at q1;unfold zfi at q1
   cases hp1:t.put ρ1 d with
   | none=>rw [hp1] at q1;exact q1.elim
   | some ρ2 =>
    rw [hp1] at q1;dsimp only at q1;refine .inr ⟨hJ.go w1 F1 i hlt,fun σ' H'=>i+1<=ds.length/\∃w1 ρ1 S2,w1.H=H'/\Fut w0 w1/\Rel cl B σ' w1 ρ1 S2/\ziX cl E own B w1 De (zfi t fb (ds.drop (i+1)) ρ1 S2),fun σ' H' h'=>⟨ds.length-(i+1),by omega,rfl,h'.1,h'.2⟩,fun x H' y=>?_⟩;obtain ⟨w2,rfl,g2,s2⟩:=hJ.yld w1 F1 i d x H' hd y;refine ⟨B,w2,ρ1,S2,d,ρ2,rfl,R1.grow g2,s2,hp1,fun σ2 _ _ R2=>⟨B,w2,ρ2,S2,rfl,R2,?_⟩⟩;have q2:=ziX.up g2.fut q1
    cases hb:fb ρ2 S2 with
    | bad=>rwa [hb] at q2
    | rt d S3=>rwa [hb] at q2
    | ex c ρ3 S3=>rwa [hb] at q2
    | bk ρ3 S3=>rw [hb] at q2;exact fun σ3 w3 R3 F3=>q2 σ3 w3 R3 F3
    | nx ρ3 S3=>rw [hb] at q2;exact fun σ3 w3 R3 F3=>⟨hlt,w3,ρ3,S3,rfl,F1.trans (g2.fut.trans F3),R3,ziX.up F3 q2⟩
    | ct ρ3 S3=>rw [hb] at q2;exact fun σ3 w3 R3 F3=>⟨hlt,w3,ρ3,S3,rfl,F1.trans (g2.fut.trans F3),R3,ziX.up F3 q2⟩
  ·have e:i=ds.length:=by omega
   subst e;rw [List.drop_length] at q1;exact .inl ⟨hJ.stop w1 F1,q1 σ1 w1 R1 (Fut.refl _)⟩
def ziM(f:Fe):Fi:=fun ρ S=>(f ρ S).bind fun d S1=>match d with | .lst l=>.ok l S1 | _=>.bad
def zhE(f:Fe):Fi:=fun ρ S=>(f ρ S).bind fun d S1=>match d with | .tup l=>.ok l S1 | _=>.bad
theorem zkl(he:PE X e (tE cl E fc)):PI X tg e (tI cl E (ziM fc)):=by
 refine PI.imp (zpL he) ?_;rintro σ H Q ⟨B,w,ρ,S,rfl,R,q⟩;refine ⟨B,w,ρ,S,rfl,R,?_⟩;unfold ziM at q
 cases hf:fc ρ S with
 | bad=>rwa [hf] at q
 | exc c S1=>rwa [hf] at q
 | ok d S1 =>
  rw [hf] at q;intro v w' R' F' h';dsimp only [Out.bind] at q
  cases h' with
  | lst e k r =>
   rename_i a xs ds;refine ⟨a,rfl,⟨xs,SqL.of e⟩,q _ w' R' F' ?_⟩;have hl:=r.length;refine ⟨fun w1 F1 i hi=>⟨xs,xs[i]'(by omega),SqL.of (F1.keep _ _ e k).1,yac (by omega)⟩,fun w1 F1=>⟨xs,SqL.of (F1.keep _ _ e k).1,by omega⟩,fun w1 F1 i d x H1 hd y=>?_⟩;obtain ⟨rfl,hy⟩:=y;have hx:=hy xs (SqL.of (F1.keep _ _ e k).1);obtain ⟨d',e1,e2⟩:=r.get hx;rw [hd] at e1;cases e1;exact ⟨w1,rfl,Grow.refl _,e2.up F1⟩
  | _=>exact q.elim
def zrG(he:PE X e (tE cl E fc)):PI X tg e (tI cl E (zhE fc)):=by
 refine PI.imp (zsk he) ?_;rintro σ H Q ⟨B,w,ρ,S,rfl,R,q⟩;refine ⟨B,w,ρ,S,rfl,R,?_⟩;unfold zhE at q
 cases hf:fc ρ S with
 | bad=>rwa [hf] at q
 | exc c S1=>rwa [hf] at q
 | ok d S1 =>
  rw [hf] at q;intro v w' R' F' h';dsimp only [Out.bind] at q
  cases h' with
  | tup e k r =>
   rename_i a xs ds;refine ⟨a,rfl,⟨xs,SqT.of e⟩,q _ w' R' F' ?_⟩;have hl:=r.length;refine ⟨fun w1 F1 i hi=>⟨xs,xs[i]'(by omega),SqT.of (F1.keep _ _ e k).1,yac (by omega)⟩,fun w1 F1=>⟨xs,SqT.of (F1.keep _ _ e k).1,by omega⟩,fun w1 F1 i d x H1 hd y=>?_⟩;obtain ⟨rfl,hy⟩:=y;have hx:=hy xs (SqT.of (F1.keep _ _ e k).1);obtain ⟨d',e1,e2⟩:=r.get hx;rw [hd] at e1;cases e1;exact ⟨w1,rfl,Grow.refl _,e2.up F1⟩
  | _=>exact q.elim
noncomputable def zao(lo hi:Int):List D:=(List.range (hi-lo).toNat).map fun (i:Nat)=>.int (lo+i)
def zdV(f:Fe):Fi:=fun ρ S=>(zai [f] ρ S).bind fun ds S1=>match ds with | [.int j]=>if -1000000<=j/\j<=1000000 then .ok (zao 0 j) S1 else .bad | _=>.bad
def zjC(f g:Fe):Fi:=fun ρ S=>(zai [f,g] ρ S).bind fun ds S1=>match ds with | [.int i,.int j]=>if (-1000000<=i/\i<=1000000)/\-1000000<=j/\j<=1000000 then .ok (zao i j) S1 else .bad | _=>.bad
def zog{w:Wd}{lo hi:Int}{n:Nat}(hn:n=(hi-lo).toNat):ItOk cl w (Itr lo n) (zao lo hi):=by
 subst hn
 have hl:(zao lo hi).length=(hi-lo).toNat:=by unfold zao;rw [yae,ya8]
 refine ⟨fun w1 F1 i h=>by rw [hl] at h;exact h,fun w1 F1=>by rw [hl];exact yah _,fun w1 F1 i d x H1 hd y=>?_⟩;obtain ⟨rfl,rfl⟩:=y;unfold zao at hd;rw [yaq] at hd
 cases hr:(List.range (hi-lo).toNat)[i]? with
 | none=>rw [hr] at hd;cases hd
 | some j =>
  rw [hr] at hd;have:=(yap.mp hr).2;rw [List.getElem_range] at this;subst this;cases hd;exact ⟨w1,rfl,Grow.refl _,.int _⟩
theorem zpe(hg:Gl X "range")(hm:X.mg "range" = none)(ha:PA X [e] (tAs cl E [fc]))(hs:starEach [e] X.env=[(false,eval e X.env)]):PI X tg (.Call (.Name "range" p) [e] [] pos) (tI cl E (zdV fc)):=by
 refine PI.imp (zkU hg hm ha hs) ?_;rintro σ H Q ⟨B,w,ρ,S,rfl,R,q⟩;refine ⟨B,w,ρ,S,rfl,R,?_⟩;unfold zdV at q
 cases hf:zai [fc] ρ S with
 | bad=>rwa [hf] at q
 | exc c S1=>rwa [hf] at q
 | ok ds S1 =>
  rw [hf] at q;intro vs w' R' F' h';dsimp only [Out.bind] at q;split at q
  ·rename_i ds' S' hm';split at hm'
   ·rename_i j;split at hm'
    ·rename_i hb;cases hm'
     cases h' with
     | cons h1 h2 =>
      cases h1;cases h2;exact ⟨j,rfl,by omega,by omega,q _ w' R' F' (zog (by omega))⟩
    ·cases hm'
   ·cases hm'
  ·rename_i hm';split at hm'<;>first | (split at hm'<;>cases hm') | cases hm'
  ·exact q.elim
theorem zpd(hg:Gl X "range")(hm:X.mg "range" = none)(ha:PA X [a,e] (tAs cl E [fa,fc]))(hs:starEach [a,e] X.env=[(false,eval a X.env),(false,eval e X.env)])(hs2:starEach [e] X.env=[(false,eval e X.env)]):PI X tg (.Call (.Name "range" p) [a,e] [] pos) (tI cl E (zjC fa fc)):=by
 refine PI.imp (zkT hg hm ha hs hs2) ?_;rintro σ H Q ⟨B,w,ρ,S,rfl,R,q⟩;refine ⟨B,w,ρ,S,rfl,R,?_⟩;unfold zjC at q
 cases hf:zai [fa,fc] ρ S with
 | bad=>rwa [hf] at q
 | exc c S1=>rwa [hf] at q
 | ok ds S1 =>
  rw [hf] at q;intro vs w' R' F' h';dsimp only [Out.bind] at q;split at q
  ·rename_i ds' S' hm';split at hm'
   ·rename_i i j;split at hm'
    ·rename_i hb;cases hm'
     cases h' with
     | cons h1 h2 =>
      cases h1
      cases h2 with
      | cons h2 h3 =>
       cases h2;cases h3;exact ⟨i,j,rfl,by omega,q _ w' R' F' (zog rfl)⟩
    ·cases hm'
   ·cases hm'
  ·rename_i hm';split at hm'<;>first | (split at hm'<;>cases hm') | cases hm'
  ·exact q.elim
end
noncomputable def zow(ρ:Env)(i:Nat):Option (Bool×D):=match ρ[i]? with | some (some (false,d))=>some (false,d) | _=>none
def zbD(n:Nat)(caps:List Nat)(ρ:Env):Env:=List.replicate n none++caps.map (zow ρ)
def zd5:Fe:=zaw (.bl true)
def zbr(tg:Tg)(c elt:Fe)(ρ0:Env):List D->Sto->Out (List D)
 | [],S=>.ok [] S
 | d::ds,S=>match tg.put ρ0 d with
  | none=>.bad
  | some ρ1=>(c ρ1 S).bind fun b S1=>match isB b with
   | some true=>(elt ρ1 S1).bind fun y S2=>(zbr tg c elt ρ0 ds S2).bind fun ys S3=>.ok (y::ys) S3
   | some false=>zbr tg c elt ρ0 ds S1
   | none=>.bad
def zb3(n:Nat)(tg:Tg)(it:Fi)(c elt:Fe)(caps:List Nat):Fe:=fun ρ S=>(it ρ S).bind fun ds S1=>match zbr tg c elt (zbD n caps ρ) ds S1 with
 | .ok ys S2=>if zaE ys.length then .ok (.lst ys) S2 else .bad
 | _=>.bad
noncomputable abbrev noE:St->XK:=fun _ _ _ _=>False
section
variable{cl:Cf}
theorem zlt{caps:List (Str×Nat)}(R:Rel cl B σ w ρ S)(W1:World' cl B1 w1 S1)(F1:Fut w w1){σ':St}(hσ:σ'.length=n+caps.length)(hc:σ'.drop n=caps.map fun p=>(σ[p.2]?).join) :
  Rel cl B1 σ' w1 (zbD n (caps.map (·.2)) ρ) S1 where
 wd:=W1
 len:=by unfold zbD;rw [hσ,yar,yaJ,yae,yae]
 slots:=fun i o d h=>by
  unfold zbD at h
  by_cases hi:i<n
  ·rw [yaE (by rw [yaJ];exact hi),yby] at h
   split at h<;>cases h
  ·rw [yaA (by rw [yaJ];omega),yaJ,List.map_map,yaq] at h
   cases hp:caps[i-n]? with
   | none=>rw [hp] at h;cases h
   | some p =>
    rw [hp] at h;have h':zow ρ p.2=some (o,d):=Option.some.inj h;unfold zow at h';split at h'
    ·rename_i d' hd;cases h';obtain ⟨v,e,x⟩:=R.slots p.2 false d hd;refine ⟨v,?_,Shd.up F1 x⟩;have:=congrArg (fun l=>l[i-n]?) hc;rw [ybb,yaq,hp] at this;rw [show n+(i-n)=i by omega] at this;rw [this];show some ((σ[p.2]?).join)=_;rw [e];rfl
    ·cases h'
end
section
variable{X:Cx}{cl:Cf}{E:St->XK}
theorem zov(q:tN cl E (zb3 n t fi fc fe (caps.map (·.2))) σ H Q) :
  zh2 (tI cl E fi) (tG cl n t) (tTr cl noE fc) (tE cl noE fe) n caps σ H Q:=by
 obtain ⟨B,w,ρ,S,rfl,R,q⟩:=q;refine ⟨B,w,ρ,S,rfl,R,?_⟩;unfold zb3 at q
 cases hf:fi ρ S with
 | bad=>rwa [hf] at q
 | exc c S1=>rwa [hf] at q
 | ok ds S1 =>
  rw [hf] at q;dsimp only [Out.bind] at q;intro J w0 R0 F0 hJ
  cases hcd:zbr t fc fe (zbD n (caps.map (·.2)) ρ) ds S1 with
  | bad=>rw [hcd] at q;exact q.elim
  | exc _ _=>rw [hcd] at q;exact q.elim
  | ok all Sf =>
   rw [hcd] at q;dsimp only at q
   cases hz:zaE all.length with
   | false=>rw [hz,if_neg (by decide)] at q;exact q.elim
   | true =>
    rw [hz,if_pos rfl] at q;dsimp only at q;refine ⟨fun i m ys σ' H'=>m=ds.length-i/\i<=ds.length/\σ'.length=n+caps.length/\σ'.drop n=(caps.map fun p=>(σ[p.2]?).join)/\∃w1 S2 es zbH,w1.H=H'/\Fut w0.inn w1/\World' cl w0.base w1 S2/\Shds cl w1 ys es/\zbr t fc fe (zbD n (caps.map (·.2)) ρ) (ds.drop i) S2=.ok zbH Sf/\es++zbH=all,⟨ds.length,by simp,ya2 _,by simp [capσ],by simp [capσ],w0.inn,S1,[],all,rfl,Fut.refl _,R0.wd.enter,.nil,by rw [List.drop_zero];exact hcd,rfl⟩,?_⟩;rintro i m ys σ1 H1 ⟨rfl,hi,hl1,hd1,w1,S2,es,zbH,rfl,F1,W1,sh,hrest,hall⟩;refine ⟨?_,?_⟩
    ·rw [sh.length];refine yam ?_ (zaK hz);rw [<-hall,yar];omega
    have F1':Fut w0 w1:=(zbq w0).trans F1
    by_cases hlt:i<ds.length
    ·obtain ⟨d,hdi⟩:∃d,ds[i]?=some d:=⟨ds[i],yac hlt⟩
     have hdr:ds.drop i=d::ds.drop (i+1):=by
      rw [List.drop_eq_getElem_cons hlt];rw [yac hlt] at hdi;cases hdi;rfl
     rw [hdr] at hrest;unfold zbr at hrest;refine .inr ⟨hJ.go w1 F1' i hlt,fun x H' y=>?_⟩;obtain ⟨w2,rfl,g2,s2⟩:=hJ.yld w1 F1' i d x H' hdi y;have R1:Rel cl w0.base σ1 w2 (zbD n (caps.map (·.2)) ρ) S2:=zlt R0 (W1.grow g2) (F1'.trans g2.fut) hl1 hd1
     cases hp:t.put (zbD n (caps.map (·.2)) ρ) d with
     | none=>rw [hp] at hrest;cases hrest
     | some ρ1 =>
      rw [hp] at hrest;dsimp only at hrest;refine ⟨w0.base,w2,_,S2,d,ρ1,rfl,R1,s2,hp,fun σ2 hk1 hk2 R2=>⟨w0.base,w2,ρ1,S2,rfl,R2,?_⟩⟩
      cases hc:fc ρ1 S2 with
      | bad=>rw [hc] at hrest;cases hrest
      | exc _ _=>rw [hc] at hrest;cases hrest
      | ok b S3 =>
       rw [hc] at hrest;dsimp only [Out.bind] at hrest ⊢
       cases hb:isB b with
       | none=>rw [hb] at hrest;cases hrest
       | some bb =>
        rw [hb] at hrest;intro w3 R3 F3
        cases bb with
        | false=>exact zoi ⟨ds.length-(i+1),by omega,rfl,hlt,hk1.trans hl1,hk2.trans hd1,w3,S3,es,zbH,rfl,F1.trans (g2.fut.trans F3),R3.wd,sh.up (g2.fut.trans F3),hrest,hall⟩
        | true =>
         refine zoh ⟨w0.base,w3,ρ1,S3,rfl,R3,?_⟩;dsimp only at hrest
         cases he:fe ρ1 S3 with
         | bad=>rw [he] at hrest;cases hrest
         | exc _ _=>rw [he] at hrest;cases hrest
         | ok yv S4 =>
          rw [he] at hrest;dsimp only at hrest
          cases hr:zbr t fc fe (zbD n (caps.map (·.2)) ρ) (ds.drop (i+1)) S4 with
          | bad=>rw [hr] at hrest;cases hrest
          | exc _ _=>rw [hr] at hrest;cases hrest
          | ok zs S5 =>
           rw [hr] at hrest;cases hrest;intro v w4 R4 F4 h4;have ff:=g2.fut.trans (F3.trans F4);exact ⟨ds.length-(i+1),by omega,rfl,hlt,hk1.trans hl1,hk2.trans hd1,w4,S4,es++[yv],zs,rfl,F1.trans ff,R4.wd,(sh.up ff).append (.cons h4 .nil),hr,by rw [<-hall,yb3];rfl⟩
    ·have e:i=ds.length:=by omega
     subst e;rw [List.drop_length] at hrest;cases hrest;rw [yaS] at hall;subst hall;refine .inl ⟨hJ.stop w1 F1',fun p hp=>?_⟩;obtain ⟨Rb,Fb⟩:=R0.leave W1 F1;exact q p (.lst ys) (w0.back w1) Rb (F0.trans Fb) hp (.lst (sh.up (zbI W1)))
end
noncomputable def zaB(k:Str):List (D×D)->Option D
 | (.str x,d)::r=>if x=k then some d else zaB k r
 | _=>none
noncomputable def putS(k:Str)(y:D):List (D×D)->List (D×D)
 | (.str x,d)::r=>if x=k then (.str x,y)::r else (.str x,d)::putS k y r
 | _=>[(.str k,y)]
noncomputable def dropS(k:Str):List (D×D)->List (D×D)
 | (.str x,d)::r=>if x=k then r else (.str x,d)::dropS k r
 | _=>[]
def zau:List (D×D)->Bool
 | (.str x,_)::r=>(zaB x r).isNone&&zau r
 | []=>true
 | _=>false
noncomputable def zd9:List (D×D)->List Str
 | (.str x,_)::r=>x::zd9 r
 | _=>[]
section
variable{cl:Cf}{w:Wd}
def zoH{o:HO}{ds:List (D×D)}(h:Top cl w o (.dic ds))(hs:zau ds=true):∃kvs,o=.dK kvs/\ShdK cl w kvs ds:=by
 cases h with
 | dicK h=>exact ⟨_,rfl,h⟩
theorem zb1(k:Str):∀{kvs:List (Key×V)} {ds:List (D×D)},ShdK cl w kvs ds->zau ds=true->(zek kvs (.inr k)=none/\zaB k ds=none)\/∃v d,zek kvs (.inr k)=some v/\zaB k ds=some d/\Shd cl w v d
 | _,_,.nil,_=>.inl ⟨rfl,rfl⟩
 | _,_,.consI r t,h=>by cases h
 | _,_,.consS (x:=x) (v:=v) (d:=d) r t,h=>by
  unfold zau at h;rw [yab] at h;unfold zaB
  by_cases e:x=k
  ·subst e;rw [if_pos rfl,zcQ rfl];exact .inr ⟨v,d,rfl,rfl,r⟩
  ·rw [if_neg e,zcR (fun z=>e (by cases z;rfl))];exact zb1 k t h.2
theorem ShdK.snocS{k:Str}{v:V}{d:D}(h:Shd cl w v d):∀{kvs:List (Key×V)} {ds:List (D×D)},ShdK cl w kvs ds->zau ds=true->zaB k ds=none->ShdK cl w (kvs++[(.inr k,v)]) (putS k d ds)
 | _,_,.nil,_,_=>.consS h .nil
 | _,_,.consI r t,ho,_=>by cases ho
 | _,_,.consS (x:=x) r t,ho,hl=>by
  unfold zau at ho;rw [yab] at ho;unfold zaB at hl
  by_cases e:x=k
  ·rw [if_pos e] at hl;cases hl
  ·rw [if_neg e] at hl;unfold putS;rw [if_neg e];exact .consS r (ShdK.snocS h t ho.2 hl)
theorem ziy{k:Key}{y:V}:∀{kvs:List (Key×V)},zek kvs k=none->(kvs.map fun kv=>if kv.1=k then (kv.1,y) else kv)=kvs
 | [],_=>rfl
 | p::r,h=>by
  by_cases e:p.1=k
  ·rw [zcQ e] at h;cases h
  ·rw [zcR e] at h;rw [yaz,if_neg e,ziy h]
theorem ShdK.replS{k:Str}{v:V}{d:D}(h:Shd cl w v d):∀{kvs:List (Key×V)} {ds:List (D×D)},ShdK cl w kvs ds->zau ds=true->(zaB k ds).isSome=true->ShdK cl w (kvs.map fun kv=>if kv.1=.inr k then (kv.1,v) else kv) (putS k d ds)
 | _,_,.nil,_,hl=>by cases hl
 | _,_,.consI r t,ho,_=>by cases ho
 | _,_,.consS (x:=x) (vs:=vs) r t,ho,hl=>by
  unfold zau at ho;rw [yab] at ho;unfold zaB at hl;unfold putS
  by_cases e:x=k
  ·subst e;rw [if_pos rfl,yaz,if_pos rfl]
   have hn:zek vs (.inr x)=none:=(zb1 x t ho.2).elim (·.1) fun ⟨_,_,_,z,_⟩=>by rw [z] at ho;exact absurd ho.1 (by simp)
   rw [ziy hn];exact .consS h t
  ·rw [if_neg e] at hl;rw [if_neg e,yaz,if_neg (fun z=>e (by cases z;rfl))];exact .consS r (ShdK.replS h t ho.2 hl)
theorem ShdK.putS{k:Str}{v:V}{d:D}{kvs:List (Key×V)}{ds:List (D×D)}(t:ShdK cl w kvs ds)(ho:zau ds=true)(h:Shd cl w v d):ShdK cl w (zfD kvs (.inr k) v) (putS k d ds):=by
 rcases zb1 k t ho with ⟨h1,h2⟩ | ⟨v',d',h1,h2,_⟩
 ·rw [zmA v h1];exact t.snocS h ho h2
 ·unfold zfD;rw [if_pos (by rw [zec,h1];rfl)];exact t.replS h ho (by rw [h2];rfl)
theorem zgT{k:Key}:∀{kvs:List (Key×V)},zek kvs k=none->zeM kvs k=kvs
 | [],_=>rfl
 | p::r,h=>by
  by_cases e:p.1=k
  ·rw [zcQ e] at h;cases h
  ·rw [zcR e] at h;unfold zeM;rw [ybI,if_pos (yaQ e)];congr 1;exact zgT h
theorem ShdK.dropS{k:Str}:∀{kvs:List (Key×V)} {ds:List (D×D)},ShdK cl w kvs ds->zau ds=true->ShdK cl w (zeM kvs (.inr k)) (dropS k ds)
 | _,_,.nil,_=>.nil
 | _,_,.consI r t,ho=>by cases ho
 | _,_,.consS (x:=x) (vs:=vs) r t,ho=>by
  unfold zau at ho;rw [yab] at ho;unfold S2.dropS
  by_cases e:x=k
  ·subst e
   have hn:zek vs (.inr x)=none:=(zb1 x t ho.2).elim (·.1) fun ⟨_,_,_,z,_⟩=>by rw [z] at ho;exact absurd ho.1 (by simp)
   rw [if_pos rfl];unfold zeM;rw [ybI,if_neg (by simp)];have:=zgT hn;unfold zeM at this;rw [this];exact t
  ·rw [if_neg e];unfold zeM;rw [ybI];split
   ·exact .consS r (ShdK.dropS t ho.2)
   ·rename_i hz;exact absurd (by simp [e]) hz
def TopV.dicI{v:V}{ds:List (D×D)}(h:TopV cl w v (.dic ds)):∃a kvs,v=.ref a/\Rd w.H a (.dK kvs)/\ShdK cl w kvs ds:=by
 cases h with
 | sh h=>cases h with | dicK e k r=>exact ⟨_,_,rfl,.inr ⟨_,e⟩,r⟩
 | ow e t=>cases t with | dicK r=>exact ⟨_,_,rfl,.inl e,r⟩
theorem ShdK.length:∀{kvs:List (Key×V)} {ds:List (D×D)},ShdK cl w kvs ds->kvs.length=ds.length
 | _,_,.nil=>rfl
 | _,_,.consI r t=>by rw [yaj,yaj,ShdK.length t]
 | _,_,.consS r t=>by rw [yaj,yaj,ShdK.length t]
theorem zfJ:∀{kvs:List (Key×V)} {ds:List (D×D)},ShdK cl w kvs ds->zau ds=true->kvs.map (·.1)=(zd9 ds).map Sum.inr/\(zd9 ds).length=ds.length
 | _,_,.nil,_=>⟨rfl,rfl⟩
 | _,_,.consI r t,h=>by cases h
 | _,_,.consS r t,h=>by
  unfold zau at h;rw [yab] at h;obtain ⟨h1,h2⟩:=zfJ t h.2;exact ⟨by rw [yaz,h1];rfl,by show _+1=_+1;rw [h2]⟩
end
end S2
namespace ST
open PySem PySem.Spec PyProof.Rows PySem.SetTable
noncomputable def pos(m:Nat):Nat->Nat->Nat->Nat
 | 0,i,_=>i
 | n+1,i,p=>pos m n ((i*5+1+p / 32) % (m+1)) (p / 32)
def zyC{m:Nat}(hm:m=7\/m=31):∀i,i<m+1->∀j,j<m+1->∃n,n<m+1/\pos m n i 0=j:=by
 rcases hm with rfl | rfl<;>decide +kernel
theorem cov{m:Nat}(hm:m=7\/m=31){j:Nat}(hj:j<m+1):∀k i p,p<32 ^ k->i<m+1->∃n,n<k+(m+1)/\pos m n i p=j
 | 0,i,p,hp,hi=>by
  obtain rfl:p=0:=Nat.lt_one_iff.mp hp;rw [Nat.zero_add];exact zyC hm i hi j hj
 | k+1,i,p,hp,hi=>by
  obtain ⟨n,h1,h2⟩:=cov hm hj k ((i*5+1+p / 32) % (m+1)) (p / 32) (Nat.div_lt_of_lt_mul (by rw [Nat.mul_comm];exact hp)) (Nat.mod_lt _ (Nat.succ_pos m));exact ⟨n+1,by omega,h2⟩
def zxb{m:Nat}(hm:m=7\/m=31){j:Nat}(hj:j<m+1)(h:Int):∃n,n<13+(m+1)/\pos m n (bits h % (m+1)) (bits h)=j:=by
 refine cov hm hj 13 _ _ ?_ (Nat.mod_lt _ (Nat.succ_pos m));have h1:=ycT h (show (2 ^ 64:Int)≠0 by decide);have h2:=ycm h (show (0:Int)<2 ^ 64 by decide);refine yag (m:=2 ^ 64) ?_ (by decide);unfold bits;omega
noncomputable def P(i p:Nat):Probe:={ j:=i,more:=0,i:=i,perturb:=p,dummy:=none }
def zwr(i:Nat):runEnd 7 i-i=0:=by unfold runEnd;rw [if_neg (by omega)];exact ycE i
def zyE{t:SetTable}(hm:t.mask=7)(i p:Nat):t.advance (P i p)=P ((i*5+1+p / 32) % 8) (p / 32):=by
 show ({ j:=_,more:=runEnd t.mask _-_,i:=_,perturb:=_,dummy:=none }:Probe)=_;rw [hm,zwr];rfl
def zrt{t:SetTable}(hm:t.mask=7)(h:Int):t.probeStart h=P (bits h % 8) (bits h):=by
 show ({ j:=_,more:=runEnd t.mask _-_,i:=_,perturb:=_,dummy:=none }:Probe)=_;rw [hm,zwr];rfl
def zpb{t:SetTable}(hd:t.dummies=#[])(j:Nat):t.slot j=.empty\/∃i,t.slot j=.live i/\t.place[i]?=some j:=by
 unfold slot;rw [hd,show has #[] j=false by unfold has below;rfl];dsimp only;split
 ·rename_i h;exact .inr ⟨_,rfl,eq_of_beq h⟩
 ·exact .inl rfl
theorem zti{t:SetTable}(hm:t.mask=7)(hd:t.dummies=#[]){F:Nat->Int}{h:Int}:∀(fuel n i p:Nat),n<fuel->pos 7 n i p ∉ t.place.toList →
  (∃j,probe.go t F h fuel (P i p)=some (.empty j none))\/∃j i' n' i1 p1,n'<n/\pos 7 n' i1 p1 ∉ t.place.toList/\t.slot j=.live i'/\t.place[i']?=some j/\probe.go t F h fuel (P i p)=some (.candidate j i' (P i1 p1))
 | 0,n,i,p,hn,_=>absurd hn (Nat.not_lt_zero n)
 | fuel+1,n,i,p,hn,hp=>by
  unfold probe.go
  rcases zpb hd (P i p).j with e | ⟨i',e,hi⟩
  ·rw [e];exact .inl ⟨_,rfl⟩
  ·rw [e];dsimp only;rw [zyE hm]
   cases n with
   | zero=>exact absurd (ybM.mpr (Array.mem_of_getElem? hi)) hp
   | succ n =>
    split
    ·exact .inr ⟨_,i',n,_,_,ybS n,hp,e,hi,rfl⟩
    ·rcases zti hm hd fuel n _ _ (ycv hn) hp with z | ⟨j,a,n',b,c,z1,z2⟩
     ·exact .inl z
     ·exact .inr ⟨j,a,n',b,c,ybf z1,z2⟩
section
variable{prog:Program}{w:World}{A:Around}{E:Z5}{s:Shared}
noncomputable abbrev TK(prog:Program)(w:World)(h:Heap)(k:List Int)(a:Addr):Prop:=IsTupleKey (intKind prog w) h k a
noncomputable abbrev th(prog:Program)(w:World)(k:List Int):Int:=tupleKeyHash (intKind prog w) k
def TK.ints{h:Heap}{k:List Int}{a:Addr}(x:TK prog w h k a):∃o its n,h.get? a=some o/\o.cls=.type "tuple" /\ o.data=.seq its n/\∀v∈its.toList,∃i t,v=Value.int i t:=by
 obtain ⟨o,its,n,e,c,d,hi⟩:=x;refine ⟨o,its,n,e,c,d,?_⟩;generalize its.toList=l at hi
 induction hi with
 | nil=>intro v hv;cases hv
 | @cons k v ks vs h1 _ ih =>
  intro v' hv
  rcases yaw.mp hv with rfl | hv
  ·obtain ⟨t,e⟩:=yc2 (k:=k) (v:=v') h1;exact ⟨k,t,e⟩
  ·exact ih v' hv
def zgJ{M:Model}{its:Array Value}{f:Value->Option Bool×Unit->Sem (ForInStep (Option Bool×Unit))}{g:Option Bool×Unit->Sem Bool}{Q:Bool->Shared->Prop}(hv:∀v∈its.toList,∃i t,v=Value.int i t)
  (hf:∀i t Q',Q' (.yield (none,())) s->wpAny M A (f (.int i t) (none,())) Q' E s) (hg:wpAny M A (g (none,())) Q E s):wpAny M A (forIn its (none,()) f >>= g) Q E s:=by
 refine yaa ?_;rw [<-Array.forIn_toList];refine wpAny_forIn_list _ (fun zbH r s'=>r=(none,())/\s'=s/\∀v∈zbH,∃i t,v=Value.int i t) _ ?_ ?_ _ _ ⟨rfl,rfl,hv⟩
 ·rintro v zbH _ s' ⟨rfl,rfl,hall⟩;obtain ⟨i,t,rfl⟩:=hall v yav;exact hf i t _ ⟨rfl,rfl,fun u hu=>hall u (yan _ hu)⟩
 ·rintro _ s' ⟨rfl,rfl,_⟩;exact hg
def zis{M:Model}{k:List Int}{a:Addr}{Q:Bool->Shared->Prop}(x:TK prog w s.heap k a)(hQ:Q false s):wpAny M A (ofAClassStatement 8 (.ref a)) Q E s:=by
 obtain ⟨o,its,n,e,c,d,hv⟩:=x.ints;unfold ofAClassStatement;refine yaa (ybZ (T:="tuple") ⟨o,e,c⟩ (yaa (yad ?_)));simp only [Bool.not_true,ybv,ycN];refine yaa (ybq e d ?_);refine zgJ hv (fun i t Q' q=>?_) (yad hQ);rw [show ofAClassStatement 7 (Value.int i t)=pure false by unfold ofAClassStatement;rfl];exact yaa (yad (yad q))
def znA{k:List Int}{a:Addr}{Q:Bool->Shared->Prop}(x:TK prog w s.heap k a)(hQ:Q true s):wpAny (model prog w) A (hashByValue 8 (.ref a)) Q E s:=by
 obtain ⟨o,its,n,e,c,d,hv⟩:=x.ints;unfold hashByValue;refine yaa (ycS x.typeIs F.slot_tuple_hash.lookup (yaa (ybq e d ?_)));refine zgJ hv (fun i t Q' q=>?_) (yad hQ);rw [show hashByValue 7 (Value.int i t)=pure true by unfold hashByValue;rfl];exact yaa (yad (yad q))
def zmT{k:List Int}{a:Addr}{Q:Bool->Shared->Prop}(x:TK prog w s.heap k a)(l:List Value)(hl:∀v∈l,∃b k',v=.ref b/\TK prog w s.heap k' b)(hQ:Q false s):wpAny (model prog w) A (searchCouldBeSeen (.ref a) l) Q E s:=by
 unfold searchCouldBeSeen;refine yaa (wpAny_forIn_list _ (fun zbH r s'=>r.1=none/\s'=s/\∀v∈zbH,∃b k',v=.ref b/\TK prog w s.heap k' b) _ ?_ ?_ _ _ ⟨rfl,rfl,hl⟩)
 ·rintro v zbH r s' ⟨hr,rfl,hall⟩;obtain ⟨b,k',rfl,y⟩:=hall v yav;have tl:∀u∈zbH,∃b k',u=.ref b/\TK prog w s'.heap k' b:=fun u hu=>hall u (yan _ hu)
  dsimp only;split
  ·exact yad ⟨rfl,rfl,tl⟩
  ·exact yaa (wpAny_eqIsQuiet_tuple x (yaa (wpAny_eqIsQuiet_tuple y (yaa (zis x (yaa (zis y (yad ⟨rfl,rfl,tl⟩))))))))
 ·rintro ⟨_,r⟩ s' ⟨rfl,rfl,_⟩;exact yad hQ
def zs0{M:Model}{α:Type}{c:Bool}{m:Sem Bool}{u k:Sem α}{Q:α->Shared->Prop}(hm:∀{Q':Bool->Shared->Prop},Q' false s->wpAny M A m Q' E s)(hk:wpAny M A k Q E s):wpAny M A (if c=true then m >>= fun b=>if b=true then u else k else k) Q E s:=by
 split
 ·exact yaa (hm hk)
 ·exact hk
theorem znV{a:Addr}{o:Obj}{es:Array (Int×Value)}{ep:Nat}{t:SetTable}(ho:s.heap.get? a=some o)(hd:o.data=.set es ep t)(hf:t.fits es.size=true)(hm:t.mask=7)(hdm:t.dummies=#[])(hz:t.place.size=es.size)(hu:A.units<cLine)
  {k:List Int} {x:Addr} (hes:∀e∈es.toList,∃b k',k'≠k/\e=(th prog w k',Value.ref b)/\TK prog w s.heap k' b) (hx:TK prog w s.heap k x) {Q:SetFound->Shared->Prop} (hQ:∀j,Q (.free j false) s) :
  ∀(fuel n i p:Nat) (stand:Option Probe),n<fuel->n<22->stand.getD (t.probeStart (th prog w k))=P i p->pos 7 n i p ∉ t.place.toList->wpAny (model prog w) A (setSearchFrom a (.ref x) (th prog w k) true fuel stand) Q E s
 | 0,n,_,_,_,h1,_,_,_=>absurd h1 (Nat.not_lt_zero n)
 | fuel+1,n,i,p,stand,h1,h2,hst,hp=>by
  unfold setSearchFrom;refine yaa (ybB ho hd hf ?_);dsimp only;rw [show t.gaveWay=false by unfold SetTable.gaveWay;rw [hm];rfl,hst];simp only [ybv,ycN];unfold SetTable.probe
  rcases zti hm hdm (F:=_) (h:=th prog w k) (10*turns t.mask) n i p (by rw [hm];exact yag h2 (by decide)) hp with ⟨j,e⟩ | ⟨j,i',n',i1,p1,z1,z2,z3,z4,e⟩
  ·rw [e];exact yad (hQ j)
  ·rw [e];have hi:i'<es.size:=hz ▸ (ybm.mp z4).1;have a4:=yaO hi;obtain ⟨b,k',hne,eq,hk'⟩:=hes es[i'] (ybM.mpr (Array.getElem_mem hi));refine zs0 (zmT hx _ fun v hv=>?_) ?_
   ·obtain ⟨e',he',ev⟩:=yau.mp hv;obtain ⟨b',k'',_,rfl,hk''⟩:=hes e' (ybM.mpr (Array.mem_filter.mp (ybM.mp he')).1);exact ⟨b',k'',ev.symm,hk''⟩
   ·rw [a4,eq];refine yaa (yaW (wpAny_eqBool_tuple hu hk' hx (yaa (ybB ho hd hf ?_))));dsimp only;rw [ybc hne,show t.sameMemory t.moves t.mask=some true by unfold SetTable.sameMemory;simp];simp only [Bool.and_false,ybv,ycN,ybU,z3,a4,eq];refine yaa (wpAny_isSame_ref_self (yaa (yad ?_)));exact znV ho hd hf hm hdm hz hu hes hx hQ fuel n' i1 p1 _ (by omega) (by omega) rfl z2
end
theorem zfM{α:Type}(xs:Array α)(p:Nat)(x:α):(insertAt xs p x).size=xs.size+1:=by
 simp [insertAt];omega
def zls{α:Type}{xs:Array α}{p:Nat}{x y:α}(h:y∈(insertAt xs p x).toList):y=x\/y∈xs.toList:=by
 have e:(insertAt xs p x).toList=xs.toList.take p++x::xs.toList.drop p:=by simp [insertAt,List.extract_eq_take_drop,ybF]
 rw [e] at h
 rcases ya1.mp h with h | h
 ·exact .inr (List.mem_of_mem_take h)
 ·exact (yaw.mp h).imp_right List.mem_of_mem_drop
noncomputable abbrev Ow:=Array (Option Nat)
def ziv{o:Ow}{x:Nat}:(o.getD x (some 0)).isNone=true↔o[x]?=some none:=by
 rw [Array.getD_eq_getD_getElem?]
 rcases o[x]? with _ | _ | _<;>simp
theorem zlA{o:Ow}:∀(fuel n i p:Nat),n<fuel->o[pos 31 n i p]?=some none->∃j,layClean.free 31 o fuel i p=some j/\o[j]?=some none
 | 0,n,i,p,h,_=>absurd h (Nat.not_lt_zero n)
 | fuel+1,n,i,p,h,hn=>by
  unfold layClean.free
  cases e:(List.range (runEnd 31 i+1-i)).find? fun k=>(o.getD (i+k) (some 0)).isNone with
  | some k=>exact ⟨i+k,rfl,ziv.mp (have:=List.find?_some e;this)⟩
  | none =>
   cases n with
   | zero =>
    have:=List.find?_range_eq_none.mp e 0 (by unfold runEnd;split<;>omega);rw [Nat.add_zero,ziv.mpr (show o[i]?=some none from hn)] at this;cases this
   | succ n=>exact zlA fuel n _ _ (ycv h) hn
noncomputable def cnt(l:List (Option Nat)):List Nat:=l.filterMap id
theorem zhL : ∀ (l : List (Option Nat)) (j k : Nat), l[j]? = some none -> (cnt (l.set j (some k))).length = (cnt l).length + 1
  | [], j, k, h => by cases h
  | a :: l, 0, k, h => by obtain rfl : a = none := by simpa using h
                          rfl
  | none :: l, j + 1, k, h => zhL l j k (by simpa using h)
  | some a :: l, j + 1, k, h => congrArg (· + 1) (zhL l j k (by simpa using h))
theorem ziP:∀(l:List (Option Nat)),(cnt l).length<l.length->∃x:Nat,l[x]?=some none
 | [],h=>absurd h (yaR 0)
 | none::l,_=>⟨0,rfl⟩
 | some a::l,h=>let ⟨x,e⟩:=ziP l (ycv h);⟨x+1,by simpa using e⟩
structure LC(o:Ow)(k:Nat):Prop where
 size:o.size=32
 len:(cnt o.toList).length=k
 lt:∀x∈cnt o.toList,x<k
def lcF(acc:Option (Ow×Nat))(h:Int):Option (Ow×Nat):=do
  let (owner,k) ← acc
  let j ← layClean.free 31 owner (turns 31) (bits h % (31+1)) (bits h)
  pure (owner.setIfInBounds j (some k),k+1)
theorem zlb:∀(hs:List Int) (k:Nat) (o:Ow),LC o k->k+hs.length<=31->∃o',hs.foldl lcF (some (o,k))=some (o',k+hs.length)/\LC o' (k+hs.length)
 | [],k,o,L,_=>⟨o,rfl,L⟩
 | h::hs,k,o,L,hl=>by
  rw [yaj] at hl;obtain ⟨x,hx⟩:=ziP o.toList (by rw [L.len,yay,L.size];omega);rw [yaM] at hx;have hx':=(ybm.mp hx).1;rw [L.size] at hx';obtain ⟨n,hn,en⟩:=zxb (.inr rfl) (show x<31+1 from hx') h;obtain ⟨j,hj,hjn⟩:=zlA (o:=o) (turns 31) n _ _ (yag hn (by decide)) (by rw [en];exact hx)
  have q:o.toList[j]?=some none:=by rw [yaM];exact hjn
  obtain ⟨o',e1,e2⟩:=zlb hs (k+1) (o.setIfInBounds j (some k)) ⟨by rw [Array.size_setIfInBounds];exact L.size,by rw [Array.toList_setIfInBounds,zhL _ _ _ q,L.len],fun y hy=>by
   rw [Array.toList_setIfInBounds] at hy;obtain ⟨b,hb,eb⟩:=ybt.mp hy;obtain rfl:b=some y:=eb
   rcases List.mem_or_eq_of_mem_set hb with z | z
   ·exact ybf (L.lt y (ybt.mpr ⟨_,z,rfl⟩))
   ·cases z;exact ybS _⟩ (by omega)
  rw [show k+1+hs.length=k+(h::hs).length by rw [yaj];omega] at e1 e2;refine ⟨o',?_,e2⟩;rw [yck,<-e1];show hs.foldl lcF (layClean.free 31 o (turns 31) (bits h % (31+1)) (bits h) >>= fun j=>pure (o.setIfInBounds j (some k),k+1))=_;rw [hj];rfl
theorem zqc{α:Type}(es:Array (Int×α))(hl:es.size<=31)(f mv:Nat)(led pl:Bool) :
  ∃t' order,laid 31 f mv led pl (es.map (·.1))=some (t',order)/\(order.filterMap (es[·]?)).size=es.size/\t'.fits es.size=true:=by
 obtain ⟨o,e1,L⟩:=zlb (es.map (·.1)).toList 0 (Array.replicate (31+1) none) ⟨rfl,rfl,fun x hx=>by cases hx⟩ (by simpa using hl);rw [Nat.zero_add,yay,Array.size_map] at e1 L
 have e0:layClean 31 (es.map (·.1))=some o:=by
  unfold layClean;rw [<-Array.foldl_toList];exact congrArg (Option.map (·.1)) e1
 have ho:o.toList=(List.range 32).map fun j=>o.getD j none:=by
  refine List.ext_getElem (by simp [L.size]) fun i h1 h2=>?_
  have:i<o.size:=by simpa using h1
  simp [Array.getD,this]
 have e2:((List.range 32).filterMap fun j=>(o.getD j none).map (j,·)).map (·.2)=cnt o.toList:=by
  rw [ho];unfold cnt;rw [List.filterMap_map,List.map_filterMap];refine congrArg (List.filterMap · (List.range 32)) (funext fun j=>?_);show Option.map _ (Option.map _ (o.getD j none))=o.getD j none
  cases o.getD j none<;>rfl
 have e3:((List.range 32).filterMap fun j=>(o.getD j none).map (j,·)).length=es.size:=by rw [<-L.len,<-e2,yae]
 refine ⟨_,_,by unfold laid;rw [e0];rfl,?_,?_⟩
 ·have key:∀l:List Nat,(∀x∈l,x<es.size)->(l.filterMap (es[·]?)).length=l.length:=fun l=>by
   induction l with
   | nil=>exact fun _=>rfl
   | cons a l ih =>
    intro h;rw [List.filterMap_cons_some (yaO (h a yav)),yaj,yaj,ih fun x hx=>h x (yan _ hx)]
  have:=key (cnt o.toList) L.lt;rw [L.len] at this;rw [<-this,<-e2,<-yay,Array.toList_filterMap]
 ·unfold SetTable.fits SetTable.fill;dsimp only;rw [yai,yae,e3,ycb];exact yaQ hl
section
variable{prog:Program}{w:World}{A:Around}{E:Z5}{s:Shared}
def TK.keep{h h':Heap}{k:List Int}{b:Addr}(x:TK prog w h k b)(e:∀o,h.get? b=some o->(∀es ep t,o.data≠.set es ep t)->(∀vs,o.data≠.fields vs)->h'.get? b=some o):TK prog w h' k b:=by
 obtain ⟨o',items,n,ho',hc,hd,hi⟩:=x;exact ⟨o',items,n,e _ ho' (fun _ _ _ z=>by rw [hd] at z;cases z) (fun _ z=>by rw [hd] at z;cases z),hc,hd,hi⟩
noncomputable def zjO(prog:Program)(w:World)(h:Heap)(a:Addr)(ks:Z2):Prop :=
 ∃o es ep t,h.get? a=some o/\o.ExactSet/\o.data=.set es ep t/\t.fits es.size=true/\es.size=ks.length ∧
  (ks.length<=4->t.mask=7/\t.dummies=#[]/\∀e∈es.toList,∃b k,k∈ks/\e=(th prog w k,Value.ref b)/\TK prog w h k b)
def putS{h:Heap}{o:Obj}(ho:h.get? a=some o)(hx:o.ExactSet)(hd:o.data=.set es ep t) :
  ∃o',(h.update a (Obj.putSet es' t')).get? a=some o'/\o'.ExactSet/\o'.data=.set es' (ep+1) t':=by
 refine ⟨{ o with data:=.set es' (ep+1) t' },?_,hx,rfl⟩;rw [ybs _ ho (by rw [putSet_of es' t' hd];rfl),putSet_of es' t' hd]
def TK.but{h h':Heap}{k:List Int}{b a:Addr}{o:Obj}{es ep t}(x:TK prog w h k b)(ho:h.get? a=some o)(hd:o.data=.set es ep t)(sb:Heap.SameBut a h h'):TK prog w h' k b :=
 x.keep fun o' q n _=>(sb.2 b (by rintro rfl;rw [ho] at q;cases q;exact n _ _ _ hd)).trans q
def zqx{t:SetTable}{n:Nat}(h:t.fits n=true):t.place.size=n/\t.fill<=t.mask:=by
 unfold SetTable.fits at h;rw [yab] at h;exact ⟨eq_of_beq h.1,yao h.2⟩
theorem zpi{a:Addr}{ks:Z2}{k:List Int}{x:Addr}{Q:Bool->Shared->Prop}(S:zjO prog w s.heap a ks)(hx:TK prog w s.heap k x)(hu:A.units<cLine)(hn:ks.length<=4)(hk:k ∉ ks)
  (h:∀h' c,Heap.SameBut a s.heap h'->zjO prog w h' a (ks++[k])->Q c { s with heap:=h',toks:=s.toks+(k.length+1) }):wpAny (model prog w) A (setAdd a (.ref x)) Q E s:=by
 unfold setAdd;refine yaW (yaa (wpAny_pyHash_tuple hu hx ?_));obtain ⟨o,es,ep,t,ho,hex,hd,hf,hsz,hm⟩:=S;obtain ⟨hm,hdm,hes⟩:=hm hn;obtain ⟨hz,_⟩:=zqx hf;generalize hs1:({ s with toks:=s.toks+(k.length+1) }:Shared)=s1
 have hh:s1.heap=s.heap:=by rw [<-hs1]
 have ho1:s1.heap.get? a=some o:=hh ▸ ho;unfold setAddHashed;refine yaW ?_;unfold setAddHashedIn;refine yaa (ybB ho1 hd hf ?_);dsimp only;rw [show byScan (.ref x) es=false by unfold byScan;rfl];refine yaa ?_
 have room:∃j,j<7+1/\j ∉ t.place.toList:=Classical.byContradiction fun hn'=>by
  have:=List.Nodup.length_le_of_subset (List.nodup_range (n:=8)) fun j hj=>Classical.byContradiction fun z=>hn' ⟨j,ybg.mp hj,z⟩
  rw [ya8,yay,hz,hsz] at this;omega
 obtain ⟨j0,hj0,hj1⟩:=room;obtain ⟨n0,hn0,en0⟩:=zxb (.inl rfl) hj0 (th prog w k);refine znV ho1 hd hf hm hdm hz hu (fun e he=>?_) (hh ▸ hx) (fun j=>?_) 100000 n0 _ _ none (yag hn0 (by decide)) (yag hn0 (by decide)) (zrt hm _) (by rw [en0];exact hj1)
 ·obtain ⟨b,k',m,e2,z⟩:=hes e he;exact ⟨b,k',fun q=>hk (q ▸ m),e2,hh ▸ z⟩
 ·have fin:∀(t':SetTable) (es':Array (Int×Value)),t'.mask=7->t'.dummies=#[]->t'.place.size=es.size+1->es'.size=es.size+1->(∀e∈es'.toList,e=(th prog w k,Value.ref x)\/e∈es.toList) →
    wpAny (model prog w) A (do
     storeSet a es' t'
     if (!false&&t'.tooFull)=true then setRelay a (grown (es.size+1))
     return true) Q E s1:=by
   intro t' es' m1 m2 m3 m4 m5
   have hfl:t'.fill=es.size+1:=by unfold SetTable.fill;rw [m2];exact m3
   have F1:t'.fits es'.size=true:=by
    unfold SetTable.fits;rw [hfl,m3,m4,m1,ycb];exact yaQ (show es.size+1<=7 by omega)
   refine yaa (ycy ho1 hd ?_ (yam (show es'.size<=5 by omega) (by decide)));obtain ⟨o1,g1,x1,d1⟩:=putS (es':=es') (t':=t') ho hex hd;have sb1:Heap.SameBut a s.heap (s.heap.update a (Obj.putSet es' t')):=Heap.SameBut.update ..
   have hlen:(ks++[k]).length=es.size+1:=by rw [hsz,yar];rfl
   subst hs1
   have tf:t'.tooFull=decide ((es.size+1)*5 ≥ 7*3):=by unfold SetTable.tooFull;rw [hfl,m1]
   rw [tf]
   by_cases h5:es.size+1=5
   ·rw [h5];rw [h5] at m4 hlen;unfold setRelay;refine yaa (yaa (ybB (s:={ s with heap:=s.heap.update a (Obj.putSet es' t'),toks:=s.toks+(k.length+1) }) g1 d1 F1 ?_));obtain ⟨t2,order,l1,l3,l4⟩:=zqc es' (by rw [m4];decide) t'.finger (t'.movedTo 31) t'.led t'.plain;dsimp only;rw [if_neg (by decide),show t'.relaid (es'.map (·.1)) (grown 5)=some (t2,order) from l1];refine yaa ?_;show wpAny _ _ (if ((order.filterMap (es'[·]?)).size != es'.size)=true then _ else _) _ _ _;rw [if_neg (by rw [l3];simp)];refine yad (ycy (s:={ s with heap:=s.heap.update a (Obj.putSet es' t'),toks:=s.toks+(k.length+1) }) g1 d1 ?_ (by rw [l3,m4];decide));obtain ⟨o2,g2,x2,d2⟩:=putS (es':=order.filterMap (es'[·]?)) (t':=t2) g1 x1 d1;exact yad (h _ true (sb1.trans (Heap.SameBut.update ..)) ⟨o2,_,_,t2,g2,x2,d2,by rw [l3];exact l4,by rw [l3,m4,hlen],fun z=>by omega⟩)
   ·rw [ybc (by omega)];refine yaa (yad (yad (h _ true sb1 ⟨o1,es',_,t',g1,x1,d1,F1,by rw [m4,hlen],fun _=>⟨m1,m2,fun e he=>?_⟩⟩)))
    rcases m5 e he with rfl | he
    ·exact ⟨x,k,ya1.mpr (.inr (yaH.mpr rfl)),rfl,hx.but ho hd sb1⟩
    ·obtain ⟨b,k',m,e2,z⟩:=hes e he;exact ⟨b,k',ya1.mpr (.inl m),e2,z.but ho hd sb1⟩
  refine yaa (ybB ho1 hd hf ?_)
  have hput:t.put j=({ t with place:=insertAt t.place (below t.place j) j },below t.place j):=by
   unfold SetTable.put;rw [hdm,show has #[] j=false by unfold has below;rfl];simp [hdm]
  dsimp only;rw [hput];dsimp only;have hp:=(zfM t.place (below t.place j) j).trans (congrArg (·+1) hz)
  cases hpl:t.plain with
  | true=>exact yaa (znA (hh ▸ hx) (fin _ _ hm hdm hp (zfM ..) fun _=>zls))
  | false=>exact yaa (yad (fin _ _ hm hdm hp (zfM ..) fun _=>zls))
end
section
variable{prog:Program}{w:World}{A:Around}{R:Result->Shared->Prop}{s:Shared}
theorem zjO.keep{h h':Heap}{a it:Addr}{o:Obj}{vs:Array Value}{ks:Z2}(x:zjO prog w h a ks)(ho:h.get? it=some o)(hd:o.data=.fields vs)(e:∀b o,b≠it->h.get? b=some o->h'.get? b=some o):zjO prog w h' a ks/\a≠it:=by
 obtain ⟨o',es,ep,t,e1,e2,e3,e4,e5,e6⟩:=x
 have hne:a≠it:=by rintro rfl;rw [ho] at e1;cases e1;rw [hd] at e3;cases e3
 refine ⟨⟨o',es,ep,t,e a o' hne e1,e2,e3,e4,e5,fun z=>?_⟩,hne⟩;obtain ⟨q1,q2,q3⟩:=e6 z;refine ⟨q1,q2,fun y hy=>?_⟩;obtain ⟨b,k,m,q,u⟩:=q3 y hy;exact ⟨b,k,m,q,u.keep fun o2 q2 _ n=>e b o2 (by rintro rfl;rw [ho] at q2;cases q2;exact n _ hd) q2⟩
theorem zme{S I ax:Addr}{its:Array Value}{keys:Z2}(hh:A.in1.handled=none)(hu:A.in1.units<cLine)(hlen:its.size=keys.length)(h5:keys.length<=5)(nd:keys.Nodup)(hSax:S≠ax)(hIax:ax≠I) :
  ∀(k i:Nat) (s:Shared),keys.length-i=k->i<=keys.length->s.heap.IsTupleIter I ax i->s.heap.IsTuple ax its->(∀(j:Nat) (v:Value),its[j]?=some v->∃b,v=.ref b/\TK prog w s.heap (keys.getD j []) b) →
   zjO prog w s.heap S (keys.take i) →
   (∀h' tk,(∀b o,b≠S->b≠I->s.heap.get? b=some o->h'.get? b=some o)->zjO prog w h' S keys->R (.ok (.ret .none)) { s with heap:=h',toks:=tk }) →
   codeAny (model prog w) A (.builtin "set.update.loop" ⟨[.ref S,.ref I],[]⟩) R s:=by
 intro k
 induction k with
 | zero =>
  intro i s hk hi it tp tks ts hR
  have e:i=keys.length:=by omega
  refine ybj F.entry_set_update_loop ?_;rw [ybk ycn _];show wpAny _ A.in1 (pyNext (.ref I) >>= _) _ _ s;refine yaa (wpAny_pyNext_tuple_end hh it tp (ybG (by rw [hlen,e];exact yah _)) fun h' eb=>?_);obtain ⟨o,e1,e2,e3⟩:=id it;rw [e,List.take_length] at ts;exact yad (hR h' s.toks (fun b o _ hb q=>eb b o hb q) (ts.keep e1 e3 fun b o hb q=>eb b o hb q).1)
 | succ k ih =>
  intro i s hk hi it tp tks ts hR
  have hlt:i<keys.length:=by omega
  have hlt':i<its.size:=by omega
  refine ybj F.entry_set_update_loop ?_;rw [ybk ycn _];show wpAny _ A.in1 (pyNext (.ref I) >>= _) _ _ s;refine yaa (wpAny_pyNext_tuple_item it tp (x:=its[i]) (yaO hlt') fun h1 it1 sb1=>?_);obtain ⟨o,e1,e2,e3⟩:=id it;obtain ⟨ts1,hSI⟩:=ts.keep (h':=h1) e1 e3 fun b o hb q=>(sb1.2 b hb).trans q
  obtain ⟨b,eb,tk0⟩:=tks i its[i] (yaO hlt');have tk1:∀{k' b'},TK prog w s.heap k' b'->TK prog w h1 k' b':=fun {k' b'} z=>z.keep fun o2 q _ n=>(sb1.2 b' (by rintro rfl;rw [e1] at q;cases q;exact n _ e3)).trans q
  rw [eb];show wpAny _ A.in1 (holding [Value.ref b] (setAdd S (.ref b)) >>= _) _ _ _
  have ek:keys.take i++[keys.getD i []]=keys.take (i+1):=by
   rw [List.take_add_one,yac hlt,yax,yac hlt];rfl
  have nd':(keys.take i++[keys.getD i []]).Nodup:=ek ▸ List.Nodup.sublist (List.take_sublist ..) nd;refine yaa (yaW (zpi (s:={ s with heap:=h1 }) ts1 (tk1 tk0) hu (by rw [yaI];omega) (fun z=>(List.nodup_append.mp nd').2.2 _ z _ (yaH.mpr rfl) rfl) fun h2 r sb2 ts2=>?_));rw [ek] at ts2;obtain ⟨oS,esS,epS,tS,f1,f2,f3,_⟩:=ts1;refine yad ⟨ycO ycn _,?_⟩
  refine ih (i+1) _ (by omega) hlt (it1.at fun o q=>(sb2.2 I (Ne.symm hSI)).trans q) ((tp.at fun o q=>(sb1.2 ax hIax).trans q).at fun o q=>(sb2.2 ax (Ne.symm hSax)).trans q) (fun j v hv=>?_) ts2 fun h' tk kp ts' =>
   hR h' tk (fun b' o hb1 hb2 q=>kp b' o hb1 hb2 ((sb2.2 b' hb1).trans ((sb1.2 b' hb2).trans q))) ts'
  obtain ⟨b',eb',z⟩:=tks j v hv;exact ⟨b',eb',(tk1 z).but f1 f3 sb2⟩
end
end ST
namespace PySem
open PyProof.Rows
section
variable{prog:Program}{w:World}{A:Around}{E:Z5}{s:Shared}
theorem zeQ{l:Addr}{its:Array Value}{keys:Z2}{Q:Z5}(hh:A.handled=none)(hu:A.units+8<cLine)(tp:s.heap.IsTuple l its)(hlen:its.size=keys.length)(h5:keys.length<=5)(nd:keys.Nodup)
  (tks:∀(j:Nat) (v:Value),its[j]?=some v->∃b,v=.ref b/\ST.TK prog w s.heap (keys.getD j []) b)
  (h:∀h' tk,(∀b o,s.heap.get? b=some o->h'.get? b=some o)->ST.zjO prog w h' s.heap.objs.size keys->Q (.ref s.heap.objs.size) { s with heap:=h',toks:=tk }) :
  wpAny (model prog w) A (call (.type "set") [.ref l]) Q E s:=by
 obtain ⟨cc,tl,hmro⟩:=ya4.mro;have hmade:=ya4.made;have hsub:=ya4.sub;have h1:=ya4.notType;have h2:=ya4.canCreate;have hct:=F.typeCall_set_1 (.ref l);refine yc8 (codeAny_of_tree ?_);show wpAny _ _ (callAny (.type "set") _) _ _ _;refine yad ⟨yc1 _ (by decide +kernel),ybj F.entry_type_call ?_⟩;rw [Around.under_plain (weight_type_call_type "set" [.ref l] []) rfl]
 repeat (any_goals (first | assumption | wp_step))
 refine ybK (code_set_new_1 (.ref l) (E:=E) (Q₁:=fun obj s1=>∃led:Bool,obj=.ref s.heap.objs.size/\s1={ s with heap:=s.heap.push { cls:=.type "set",dict:=none,data:=.set #[] 0 (.fresh 0 0 led) } }) fun led=>⟨led,rfl,rfl⟩) ?_;intro r s1 hr
 match r,hr with
 | .error e,hr=>exact hr
 | .ok (.ret obj),hr =>
  obtain ⟨led,rfl,rfl⟩:=hr;generalize hG:s.heap.push { cls:=.type "set",dict:=none,data:=.set #[] 0 (.fresh 0 0 led) }=G;have hS:G.get? s.heap.objs.size=some { cls:=.type "set",dict:=none,data:=.set #[] 0 (.fresh 0 0 led) }:=hG ▸ yal _ rfl;have upG:∀b o,s.heap.get? b=some o->G.get? b=some o:=fun b o e=>hG ▸ yaf _ e
  have hGz:G.objs.size=s.heap.objs.size+1:=by rw [<-hG,ya5]
  have hT:Shared.TypeIs { s with heap:=G } (.ref s.heap.objs.size) "set":=⟨_,hS,rfl⟩;have hli:=ya4.init.lookup;have hbi:=ya4.init.bind (.ref s.heap.objs.size)
  repeat (any_goals (first | assumption | wp_step))
  refine ybK (yb8 (R:=wants (fun r s2=>r=.none/\∃h' tk,s2={ s with heap:=h',toks:=tk }/\(∀b o,s.heap.get? b=some o->h'.get? b=some o)/\ST.zjO prog w h' s.heap.objs.size keys) E) ya4.init.plain F.entry_set_init (check_set_init_1 hT ?_)) ?_
  ·obtain ⟨⟨ocls,odict,odata,oslots⟩,hol,hcl,nl,hdl⟩:=tp;simp only at hcl hdl;subst hcl;subst hdl;have hol':=upG l _ hol;have hsls:=F.sub_tuple_set;have hslf:=F.sub_tuple_frozenset
   have hne:(Value.type "tuple" == Value.type "dict")=false:=by decide
   have tp1:G.IsTuple l its:=⟨_,hol',rfl,nl,rfl⟩;unfold Builtin.«set.__init__» noKeywords Builtin.Frozenset.updateFrom;generalize hPI:pyIter=PI
   wp_walk
   subst hPI;refine ycg tp1 ?_;refine yaa (wpAny_runValue ?_);have hlS:l<s.heap.objs.size:=yak hol;have upI:∀b o,G.get? b=some o->(G.push { cls:=.type "tuple_iterator",data:=.fields #[.ref l,.int 0 0] }).get? b=some o:=fun b o e=>yaf _ e
   refine ST.zme (its:=its) (keys:=keys) (ax:=l) (by simp [hh]) (show A.units+3<cLine by omega) hlen h5 nd (yaT hlS) (by rw [hGz];exact yas (ybf hlS)) keys.length 0 _ (by omega) (ya2 _) ⟨_,yal _ rfl,rfl,rfl⟩ (tp1.at fun o e=>upI l o e) (fun j v hv=>?_) ?_ ?_
   ·obtain ⟨b,eb,z⟩:=tks j v hv;exact ⟨b,eb,z.keep fun o e _ _=>upI b o (upG b o e)⟩
   ·exact ⟨_,#[],0,.fresh 0 0 led,upI _ _ hS,⟨rfl,rfl,rfl⟩,rfl,rfl,rfl,fun _=>⟨rfl,rfl,fun x hx=>by cases hx⟩⟩
   ·intro h' tk kp ts;refine yad ?_;show wpAny _ _ (ret Value.none) _ _ _;refine yad ⟨rfl,h',tk,rfl,fun b o e=>kp b o (yas (yak e)) ?_ (upI b o (upG b o e)),ts⟩;rw [hGz];exact yas (ybf (yak e))
  ·intro r2 s2 hr2
   match r2,hr2 with
   | .error e,hr2=>exact hr2
   | .ok (.ret v),hr2 =>
    obtain ⟨rfl,h',tk,rfl,kp,ts⟩:=hr2
    repeat (any_goals (first | assumption | wp_step))
    exact h h' tk kp ts
end
end PySem
namespace L2
open PySem PySem.Spec PyProof.Rows
section
variable{X:Cx}{a b c:Expr}{ta tb tc:TE}{pos:Pos}
def zhN:zcv X (.builtin "isinstance") (fun xs H Q=>∃x t c k,xs=[x,.ty c]/\TyOf X.K H x t/\PySem.W.kitOne X.K t (.type c)=some k/\Q (.bl k) H):=by
 intro pins s σ H xs us Q I r h;obtain ⟨x,t,c,k,rfl,ty,e,q⟩:=h
 cases r with
 | cons r1 rr =>
  cases rr with
  | cons r2 r3 =>
   cases r3;cases (show _=Value.type c from r2);exact zlo I r1 ty e fun tk=>⟨.bl k,H,I.tok tk,rfl,q⟩
def zfA(bs:List Bool):((List.range bs.length).all fun i=>(bs[i]?).getD true)=bs.all id:=by
 rw [Bool.eq_iff_iff,ybl,ybl];constructor
 ·intro h b hb;obtain ⟨i,hi,e⟩:=ycL.mp hb;have:=h i (ybg.mpr hi);rwa [yac hi,e] at this
 ·intro h i hi;have hi':=ybg.mp hi;rw [yac hi'];exact h _ (ybx hi')
def zhO(hc:X.calm=true):zcv X (.builtin "all") (fun xs H Q=>∃(p:Addr) (bs:List Bool),xs=[.ref p]/\SqL X.K H p (bs.map V.bl)/\Q (.bl (bs.all id)) H):=by
 intro pins s σ H xs us Q I r h;obtain ⟨p,bs,rfl,hq,q⟩:=h;obtain ⟨u,rfl,rx⟩:=zej r;cases rx;obtain ⟨its,rv,pl,hz⟩:=I.list hq;have hl:=pl.isList
 have hlt:p<s.heap.objs.size:=by obtain ⟨_,e,_⟩:=hl;exact yak e
 have hn:its.length=bs.length:=by have:=rv.length;rw [yae] at this;exact this.symm
 refine call_all_walk (ycw hl ?_);refine ⟨s.heap.objs.size,[s.heap.objs.size,p],[s.heap.objs.size],its.toArray.size,_,_,fun i=>(bs[i]?).getD true,rfl,Walks.list (A:=X.A.in1) (I.ok.hd hc) _ p (yas hlt) its.toArray,⟨⟨_,yal _ rfl,rfl,rfl⟩,hl.push _⟩,fun i v s' Q' E' hP hQ=>?_,fun h' tk hk=>?_⟩
 ·have hv:its[i]?=some v:=by simpa using hP
  have hi:i<bs.length:=by rw [<-hn];exact (yap.mp hv).1
  obtain ⟨u,hu,ru⟩:=rv.get (i:=i) (x:=.bl bs[i]) (by rw [yaq,yac hi];rfl);rw [hv] at hu;cases hu;cases (show v=Value.bool bs[i] from ru);refine ya6 ?_;have hQ':Q' ((bs[i]?).getD true) s':=hQ;rwa [yac hi] at hQ'
 ·rw [yai,hn,zfA];refine ⟨.bl _,H,I.kept (t':=tk) fun b o e=>?_,rfl,q⟩;exact hk b o (fun hm=>by rw [yaH.mp hm] at e;exact yaR _ (yak e)) (yaf _ e)
theorem zfe{prog:Program}{w:World}:∀{k:List Int} {its:List Value},Vals (k.map V.int) its->ItemsAre (intKind prog w) k its
 | [],_,.nil=>.nil
 | i::k,_,.cons r t=>by
  obtain ⟨t',rfl⟩:=r;exact .cons (by show Value.isInt i (.int i t')=true;simp [Value.isInt]) (zfe t)
def Inv.key{pins:Z3}{σ:St}{H:Hp}{s:Shared}(I:Inv X pins σ H s){p:Addr}{k:List Int}(h:SqT X.K H p (k.map V.int)){prog:Program}{w:World}:ST.TK prog w s.heap k p:=by
 obtain ⟨its,rv,⟨o,e,c,n,d⟩,_⟩:=I.tuple h;exact ⟨o,_,n,e,c,d,zfe rv⟩
noncomputable def zhd(K:PySem.W.Frag)(H:Hp)(ys:List V)(keys:Z2):Prop:=Paired (fun (v:V) (k:List Int)=>∃b,v=.ref b/\SqT K H b (k.map V.int)) ys keys
theorem zhd.get{K:PySem.W.Frag}{H:Hp}:∀{ys:List V} {keys:Z2} {its:List Value},zhd K H ys keys->Vals ys its->∀(j:Nat) (v:Value),its[j]?=some v->∃b,v=.ref b/\SqT K H b ((keys.getD j []).map V.int)
 | _,_,_,.nil,.nil,j,v,e=>by simp at e
 | _,_,_,.cons ⟨b,eb,hb⟩ t,.cons r tr,0,v,e=>by
  subst eb;cases r;simp at e;subst e;exact ⟨b,rfl,by simpa using hb⟩
 | _,_,_,.cons _ t,.cons _ tr,j+1,v,e=>by
  obtain ⟨b,h1,h2⟩:=zhd.get t tr j v (by simpa using e);exact ⟨b,h1,by simpa using h2⟩
noncomputable def ziY(a:Addr)(c:Nat)(h:Heap):Prop:=∃o es ep t,h.get? a=some o/\o.ExactSet/\o.data=.set es ep t/\t.fits es.size=true/\es.size=c
def ze1(hc:X.calm=true)(hu:X.A.units+8<cLine):zcv X (.type "set") (fun xs H Q=>∃(p:Addr) (ys:List V) (keys:Z2),xs=[.ref p]/\SqT X.K H p ys/\zhd X.K H ys keys/\keys.length<=5/\keys.Nodup ∧
  ∀l,H l=none->Q (.ref l) (upd H l (.ext (ziY l keys.length)))):=by
 intro pins s σ H xs us Q I r h;obtain ⟨p,ys,keys,rfl,hq,hk,h18,nd,q⟩:=h;obtain ⟨u,rfl,rx⟩:=zej r;cases rx;obtain ⟨its,rv,pl,hz⟩:=I.tuple hq
 have hn:its.toArray.size=keys.length:=by rw [yai,<-rv.length];exact hk.length
 refine zeQ (I.ok.hd hc) hu (show s.heap.IsTuple p its.toArray from pl) hn h18 nd (fun j v hv=>?_) fun h' tk kp ts=>?_
 ·obtain ⟨b,e,hb⟩:=hk.get rv j v (by simpa using hv);exact ⟨b,e,I.key hb⟩
 ·obtain ⟨o,es,ep,t,e1,e2,e3,e4,e5,_⟩:=ts;refine ⟨.ref s.heap.objs.size,_,I.laid (t':=tk) (o:=.ext (ziY s.heap.objs.size keys.length)) kp (yah _) ?_,rfl,q _ (I.hok.fresh (yah _))⟩;exact ⟨⟨o,es,ep,t,e1,e2,e3,e4,e5⟩,⟨o,e1⟩,fun h1 h2 ⟨o,es,ep,t,f1,f⟩ k=>⟨o,es,ep,t,k o f1,f⟩⟩
theorem zf2:zcv X (.builtin "len") (fun xs H Q=>∃a c,xs=[.ref a]/\H a=some (.ext (ziY a c))/\c<=1000/\Q (.int c) H):=by
 intro pins s σ H xs us Q I r h;obtain ⟨a,c,rfl,ha,hc,q⟩:=h;obtain ⟨u,rfl,rx⟩:=zej r;cases rx;obtain ⟨⟨o,es,ep,t,e1,e2,e3,e4,e5⟩,_⟩:=I.hok a _ ha;refine call_len_set e1 e2 e3 e4 ?_ ?_
 ·have:(es.size:Int)<=1000:=by rw [e5];omega
  exact Int.lt_of_le_of_lt this (by decide)
 ·exact ⟨.int c,H,I.tok _,⟨_,by rw [e5]⟩,q⟩
def zmS:OpR X (binaryOp .Add) (fun x y H Q=>∃(a b:Addr) (ys:List V),x=.ref a/\y=.ref b/\SqT X.K H a []/\SqT X.K H b ys/\Q (.ref b) H):=by
 intro pins s σ H x y v u Q I rx ry h;obtain ⟨a,b,ys,rfl,rfl,ha,hb,q⟩:=h;cases rx;cases ry;obtain ⟨its,r1,p1,_⟩:=I.tuple ha;obtain ⟨its2,r2,p2,_⟩:=I.tuple hb;cases r1;obtain ⟨⟨cls,dd,data,sl⟩,ho,hc,n,hd⟩:=id p1;obtain ⟨⟨cls2,dd2,data2,sl2⟩,ho2,hc2,n2,hd2⟩:=id p2;simp only at hc hd hc2 hd2;subst hc hd hc2 hd2
 exact concat_meets ⟨_,ho,rfl⟩ ⟨_,ho2,rfl⟩ noFill_tuple_add seq_tuple_add ycu ycj (yce _ _)
  (tuple_addW0 a b ([]:List Value).toArray its2.toArray n n2 dd dd2 sl sl2 (by rfl)) ⟨ho,ho2,⟨.ref b,H,I,rfl,q⟩⟩
end
end L2
namespace PySem
open PySem.Spec PyProof.Rows
end PySem
namespace L2
open PySem PySem.Spec PyProof.Rows
inductive D where
 | non | bl (b:Bool) | int (i:Int) | str (x:Str) | tup (l:List D) | lst (l:List D)
mutual
inductive Rep(H:Hp):V->D->Prop
 | non:Rep H .non .non
 | bl (b:Bool):Rep H (.bl b) (.bl b)
 | int (i:Int):Rep H (.int i) (.int i)
 | str (x:Str):Rep H (.str x) (.str x)
 | tup {a:Addr} {xs:List V} {ds:List D}:H a=some (.tup xs)->Reps H xs ds->Rep H (.ref a) (.tup ds)
 | lst {a:Addr} {xs:List V} {ds:List D}:H a=some (.lst xs)->Reps H xs ds->Rep H (.ref a) (.lst ds)
inductive Reps(H:Hp):List V->List D->Prop
 | nil:Reps H [] []
 | cons {v:V} {d:D} {vs:List V} {ds:List D}:Rep H v d->Reps H vs ds->Reps H (v::vs) (d::ds)
end
end L2
namespace HT
open PySem PySem.Spec PyProof.Rows L2
section
variable{prog:Program}{w:World}{A:Around}{E:Z5}{s:Shared}
def zdT{t sl:Addr}{items:Array Value}{vl vu:Value}{lo hi:Option Int}{Q:Z5}(ht:IsTup s.heap t items)(hs:s.heap.IsSliceOf sl vl vu .none)(pl:IsPart vl lo)(pu:IsPart vu hi)
  (h1:sIx items.size 0 lo=0) (h2:sIx items.size items.size hi=items.size) (h:Q (.ref t) s):wpAny (model prog w) A (getItem (.ref t) (.ref sl)) Q E s:=by
 obtain ⟨os,hos,hcs,hds⟩:=id hs;have hTs:s.TypeIs (.ref sl) "slice":=⟨os,hos,hcs⟩;unfold getItem
 try with_reducible refine yaW ?_
 first | refine yaa (yad ?_) | skip
 refine yaa (wpAny_sequenceKey ht.typeIs (by decide) ?_)
 refine yaa (yaX (name:=Str.ofString "__getitem__") ht.typeIs yaV
  (yaY yaV ht.typeIs entry_tuple_getitem ?_ (args_tuple_getitem _ _)))
 show wpAny _ _ (Builtin.Tuple.tupleItemsOf (.ref t) >>= _) _ _ s;refine yaa (tupleItemsOf_ ht ?_);refine yaa (ybZ hTs ?_);rw [if_pos (by decide)];refine yaa (zct hs pl pu ?_);rw [h1,h2];show wpAny _ _ (if ((((0:Nat):Int) == 0&&(1:Int) == 1&&(items.size-0) == items.size)=true) then _ else _) _ _ s;rw [if_pos (by simp)];unfold Builtin.Tuple.tupleIsExact;refine yaa (yaa (ybZ ht.typeIs (yad ?_)));simp only [ycb,ybU];refine yaa (yc3 ?_)
 first
  | exact yad ⟨_,rfl,yad h⟩
  | exact yaa (yad (yad ⟨_,rfl,yad h⟩))
end
end HT
namespace L2
open PySem PySem.Spec PyProof.Rows
def zi6:SlR X (fun x lo hi H Q=>∃(a:Addr) (xs:List V),x=.ref a/\SqT X.K H a xs/\HT.sIx xs.length 0 lo=0/\HT.sIx xs.length xs.length hi=xs.length/\Q (.ref a) H):=by
 intro pins s σ H x v vl vu lo hi sl Q I rx hs pl pu h;obtain ⟨a,xs,rfl,hx,h1,h2,q⟩:=h;cases rx;obtain ⟨its,r,ht,hz⟩:=I.tuple hx
 have hlen:its.toArray.size=xs.length:=by rw [yai];exact r.length.symm
 refine ⟨"tuple",_,yaV.lookup,ht.typeIs,?_⟩;exact HT.zdT ht hs pl pu (by rw [hlen];exact h1) (by rw [hlen];exact h2) ⟨.ref a,H,I,rfl,q⟩
mutual
noncomputable def D.py:D->PyData
 | .non=>.none
 | .bl b=>.bool b
 | .int i=>.int i
 | .str x=>.str x
 | .tup l=>.tuple (D.pys l)
 | .lst l=>.list (D.pys l)
noncomputable def D.pys:List D->List PyData
 | []=>[]
 | d::l=>d.py::D.pys l
end
mutual
noncomputable def D.fit:Nat->D->Bool
 | _,.non=>true
 | _,.bl _=>false
 | _,.int _=>true
 | _,.str x=>PyData.strOk x
 | 0,.tup _=>false
 | n+1,.tup l=>D.fits n l
 | 0,.lst _=>false
 | n+1,.lst l=>D.fits n l
noncomputable def D.fits:Nat->List D->Bool
 | _,[]=>true
 | n,d::l=>d.fit n&&D.fits n l
end
theorem D.fits_iff:∀{l:List D},D.fits n l=true↔∀d∈l,d.fit n=true
 | []=>by simp [D.fits]
 | d::l=>by simp [D.fits,D.fits_iff (l:=l)]
mutual
theorem D.lay:∀{n:Nat} {d:D},d.fit n=true->d.py.canLay0=true/\d.py.depth<=n
 | _,.non,_=>⟨rfl,ya2 _⟩
 | _,.bl _,h=>by simp [D.fit] at h
 | _,.int _,_=>⟨rfl,ya2 _⟩
 | _,.str x,h=>⟨by simpa [D.fit,D.py,PyData.canLay0] using h,ya2 _⟩
 | 0,.tup _,h=>by simp [D.fit] at h
 | 0,.lst _,h=>by simp [D.fit] at h
 | n+1,.tup l,h=>by
  have h':D.fits n l=true:=by simpa [D.fit] using h
  obtain ⟨a,b⟩:=D.lays h';exact ⟨by simpa [D.py,PyData.canLay0] using a,by simp only [D.py,PyData.depth];omega⟩
 | n+1,.lst l,h=>by
  have h':D.fits n l=true:=by simpa [D.fit] using h
  obtain ⟨a,b⟩:=D.lays h';exact ⟨by simpa [D.py,PyData.canLay0] using a,by simp only [D.py,PyData.depth];omega⟩
theorem D.lays:∀{n:Nat} {l:List D},D.fits n l=true->PyData.canLayAll0 (D.pys l)=true/\PyData.depthAll (D.pys l)<=n
 | _,[],_=>⟨rfl,ya2 _⟩
 | n,d::l,h=>by
  simp only [D.fits,yab] at h;obtain ⟨a,b⟩:=D.lay h.1;obtain ⟨c,e⟩:=D.lays h.2;exact ⟨by simp [D.pys,PyData.canLayAll0,a,c],by simp only [D.pys,PyData.depthAll];omega⟩
end
section
variable{X:Cx}
def zkH(hl:d.canLay0=true)(r:Reads h v d as):SeqAt.readOf h v=d:=by
 have hx:∃d as,Reads h v d as:=⟨d,as,r⟩;unfold SeqAt.readOf;rw [dif_pos hx];obtain ⟨bs,rb⟩:=hx.choose_spec;exact (SeqAt.Reads.unique _ _ _ _ _ hl r rb).symm
end
noncomputable def zgN:V->D | .int i=>.int i | .str x=>.str x | _=>.non
noncomputable def Num(x:V):Prop:=x=.non\/∃i:Int,x=.int i
def zp1{H:Hp}{x:V}(h:Num x):Rep H x (zgN x)/\(zgN x).fit 0=true:=by
 rcases h with rfl | ⟨i,rfl⟩
 ·exact ⟨.non,rfl⟩
 ·exact ⟨.int i,rfl⟩
def zr0(r:List V):D:=.tup (r.map zgN)
theorem zgy{H:Hp}:∀{r:List V},(∀x∈r,Num x)->Reps H r (r.map zgN)/\D.fits 0 (r.map zgN)=true
 | [],_=>⟨.nil,rfl⟩
 | x::r,h=>by
  obtain ⟨a,b⟩:=zgy (H:=H) (r:=r) fun y hy=>h y (yan _ hy)
  obtain ⟨c,d⟩:=zp1 (H:=H) (h x yav);exact ⟨.cons c a,by simp [D.fits,b,d]⟩
theorem zef:∀{rs:List (List V)},(∀r∈rs,∀x∈r,Num x)->D.fits 1 (rs.map zr0)=true
 | [],_=>rfl
 | r::rs,h=>by
  have a:=zef (rs:=rs) fun y hy=>h y (yan _ hy)
  have b:=(zgy (H:=fun _=>none) (h r yav)).2;simp [D.fits,a,zr0,D.fit,b]
def CXE(P:Program)(w:World):CXT:=fun outer H s E e s'=>∃(a:Addr) (cls a0:Value) (H':Hp) (B:Heap),e=.ref a/\Heap.FlyingW B outer a cls a0 s'.heap ∧
 (∀b o,s'.heap.get? b=some o->H' b≠none->B.get? b=some o)/\(∀b o,s.heap.get? b=some o->H b=none->b ∉ frs outer->B.get? b=some o) ∧
 (∀b o,s.heap.get? b=some o->b ∉ frs outer->∃o',B.get? b=some o') ∧
 s'.os=s.os/\AllBare s'.gens/\Un (frs outer) [] H H' s.heap s'.heap/\HOk P w H' s'.heap/\E cls none H'
def zaI.has(x:zaI P w H h a o):∃ob,h.get? a=some ob:=by
 cases o with
 | lst xs=>obtain ⟨_,_,_,_,e⟩:=x;exact ⟨_,e⟩
 | tup xs=>obtain ⟨_,_,_,ob,e,_⟩:=x;exact ⟨_,e⟩
 | dK kvs=>obtain ⟨_,_,_,_,o,_,_,e,_⟩:=x;exact ⟨_,e⟩
 | dT kvs=>obtain ⟨_,_,_,_,o,_,_,e,_⟩:=x;exact ⟨_,e⟩
 | set S n=>obtain ⟨o,_,_,_,e,_⟩:=x;exact ⟨_,e⟩
 | ins C dx fs=>obtain ⟨_,_,_,e,_⟩:=x;exact ⟨_,e⟩
 | own y=>exact x
 | xd fs=>obtain ⟨_,⟨_,_,_,e,_⟩,_⟩:=x;exact ⟨_,e⟩
 | rng lo hi=>obtain ⟨_,_,_,e⟩:=x;exact ⟨_,e⟩
 | frz ob u=>obtain ⟨e,_⟩:=x;exact ⟨_,e⟩
 | tbl ps=>exact ⟨_,(show h.get? a=some _ from x)⟩
 | met f y=>exact ⟨_,(show h.get? a=some _ from x)⟩
 | ext φ=>obtain ⟨_,e,_⟩:=x;exact e
def HOk.same(x:HOk P w H h)(k:∀b u,h.get? b=some u->H b≠none->h'.get? b=some u):HOk P w H h':=fun a o e =>
 (x a o e).stay (fun b u hb q=>k b u q (hb.elim (fun z=>by rw [z,e];exact yaC _) (fun z=>by rw [z];exact yaC _))) (fun _ q=>q) fun _ _ q=>q
section
variable{X:Cx}{pins:Z3}{σ:St}{H:Hp}{s:Shared}{M:Model}
def znf(l:List Env):∀env∈l,∀b,env.frame=some b->b∈frs l:=fun env he b hb=>ybt.mpr ⟨env,he,hb⟩
def zju(I:Inv X pins σ H s)(hx:X.ex=[])(hs:X.stack=X.env::X.outer)(hf:X.env.frame=some X.env.locals)(mk:Heap.MadeExcOf s.heap h' e cls vs)(q:E cls none H) :
  wpAny M X.A (leaving X.env (.ref e)) (fun _ s''=>CXE X.prog X.w X.outer X.H₀ X.s₀ E (.ref e) s'') Er { s with heap:=h' }:=by
 have hfr:X.A.frames=some (X.env::X.outer):=by rw [<-hs];exact I.ok.frames
 have hst:s.heap.FunFrames X.base (X.env::X.outer):=by rw [<-hs];exact I.stack
 refine wpAny_leaves_madeW (base:=PySem.W.hideAll s.heap (frs (X.env::X.outer))) hfr hf (fun b o z=>PySem.W.of_hideAll _ z) (PySem.W.funFrames_hide hst (znf _)) mk fun h2 t fl tup _ up=>?_
 have inB:∀b o,s.heap.get? b=some o->b ∉ frs (X.env::X.outer)->(PySem.W.hideAll s.heap (frs (X.env::X.outer))).get? b=some o:=fun b o z n=>PySem.W.hideAll_get _ z n
 have sub:∀b,b∈frs (X.env::X.outer)->b=X.env.locals\/b∈X.fs:=fun b hb=>by
  rw [<-hs] at hb;exact yaw.mp (I.stkSub b hb)
 have fre:∀b,b∈frs (X.env::X.outer)->H b=none:=fun b hb=>by rw [<-hs] at hb;exact I.stkFree b hb
 have old:∀b o,X.s₀.heap.get? b=some o->b ∉ frs X.outer->b ∉ frs (X.env::X.outer):=fun b o z n hb=>by
  rcases sub b hb with r | r
  ·exact absurd (yag (yak z) I.ok.above) (by rw [r];exact yaR _)
  ·exact n r
 have nx:∀b:Addr,b ∉ X.ex:=fun b z=>by rw [hx] at z;cases z
 have trk:∀b o,s.heap.get? b=some o->H b≠none->h2.get? b=some o:=fun b o z n=>fl.1 b o (inB b o z fun hb=>n (fre b hb))
 have hok2:HOk X.prog X.w H h2:=I.hok.same trk
 have slt:∀b o,s.heap.get? b=some o->b∈frs X.stack->∃sl,h2.get? b=some { o with slots:=sl }:=fun b o z hb=>by
  obtain ⟨_,o',z',hd⟩:=I.stack.mem hb;rw [z] at z';cases z';exact up b o (mk.keeps b o z) hd
 have un2:Un (frs X.stack) [] H H s.heap h2:=⟨fun b o z n hb _=>fl.1 b o (inB b o z (by rw [<-hs];exact hb)),fun b o z n hb _=>slt b o z hb,fun b o z n _=>n,
  fun b o z _=>by
   by_cases hb:b∈frs X.stack
   ·obtain ⟨sl,r⟩:=slt b o z hb;exact ⟨_,r⟩
   ·exact ⟨o,fl.1 b o (inB b o z (by rw [<-hs];exact hb))⟩,
  fun _ _ z=>z,fun _ _ _ z=>z,fun _ ps z=>⟨#[],by rw [z,Array.append_empty]⟩⟩
 have J:=I.call (g':=s.gens) (t':=s.toks) (d':=s.drawn) (ch:=[]) un2 hok2 I.bare (fun b z=>absurd z (by simp));refine ⟨e,cls,.ref t,H,_,rfl,fl,fun b o z n=>?_,fun b o z n hb=>?_,fun b o z hb=>?_,J.os,J.bare,?_,J.hok,q⟩
 ·cases k:H b with
  | none=>exact absurd k n
  | some u =>
   obtain ⟨o',z'⟩:=(I.hok b u k).has;have:=trk b o' z' n;rw [show h2.get? b=some o from z] at this;cases this;exact inB b o z' fun hb=>n (fre b hb)
 ·exact inB b o (I.base.keep b o z n hb (nx b)) (old b o z hb)
 ·obtain ⟨o',z'⟩:=I.base.there b o z (nx b);exact ⟨o',inB b o' z' (old b o z hb)⟩
 ·have:=J.base;rwa [hx] at this
def ziC(I:Inv X pins σ H s)(hx:X.ex=[])(hs:X.stack=X.env::X.outer)(hf:X.env.frame=some X.env.locals)(q:CXE X.prog X.w X.stack H s E e s') :
  wpAny M X.A (leaving X.env e) (fun _ s''=>CXE X.prog X.w X.outer X.H₀ X.s₀ E e s'') Er s':=by
 have hfr:X.A.frames=some (X.env::X.outer):=by rw [<-hs];exact I.ok.frames
 obtain ⟨a,cls,a0,H',B,rfl,fl,c1,c2,c3,os,bare,un,hok,q⟩:=q
 have fl':Heap.FlyingW B (X.env::X.outer) a cls a0 s'.heap:=by rw [<-hs];exact fl
 refine wpAny_leaves_onW hfr hf fl' fun h2 fl2 up=>?_
 have sub:∀b,b∈frs X.stack->b=X.env.locals\/b∈X.fs:=fun b hb=>yaw.mp (I.stkSub b hb)
 have old:∀b o,X.s₀.heap.get? b=some o->b ∉ frs X.outer->b ∉ frs X.stack:=fun b o z n hb=>by
  rcases sub b hb with r | r
  ·exact absurd (yag (yak z) I.ok.above) (by rw [r];exact yaR _)
  ·exact n r
 have nx:∀b:Addr,b ∉ X.ex:=fun b z=>by rw [hx] at z;cases z
 have trk:∀b o,s'.heap.get? b=some o->H' b≠none->h2.get? b=some o:=fun b o z n=>fl2.1 b o (c1 b o z n)
 have hok2:HOk X.prog X.w H' h2:=hok.same trk
 have slt:∀b o,s.heap.get? b=some o->H b=none->b∈frs X.stack->∃sl,h2.get? b=some { o with slots:=sl }:=fun b o z n hb=>by
  obtain ⟨_,o',z',hd⟩:=I.stack.mem hb;rw [z] at z';cases z';obtain ⟨sl,r⟩:=un.slot b o z n hb (by simp);obtain ⟨sl',r'⟩:=up b ({ o with slots:=sl }:Obj) r hd;exact ⟨sl',r'⟩
 have un2:Un (frs X.stack) [] H H' s.heap h2:=⟨fun b o z n hb _=>fl2.1 b o (c2 b o z n hb),fun b o z n hb _=>slt b o z n hb,un.free,
  fun b o z _=>by
   by_cases hb:b∈frs X.stack
   ·obtain ⟨sl,r⟩:=slt b o z (I.stkFree b hb) hb;exact ⟨_,r⟩
   ·obtain ⟨o',r⟩:=c3 b o z hb
    exact ⟨o',fl2.1 b o' r⟩,
  un.tups,un.frzs,un.tbls⟩
 have J:=I.call (g':=s'.gens) (t':=s'.toks) (d':=s'.drawn) (ch:=[]) un2 hok2 bare (fun b z=>absurd z (by simp));refine ⟨a,cls,a0,H',B,rfl,fl2,fun b o z n=>?_,fun b o z n hb=>?_,fun b o z hb=>?_,os.trans I.os,bare,?_,J.hok,q⟩
 ·cases k:H' b with
  | none=>exact absurd k n
  | some u =>
   obtain ⟨o',z'⟩:=(hok b u k).has;have:=trk b o' z' n;rw [show h2.get? b=some o from z] at this;cases this;exact c1 b o z' n
 ·exact c2 b o (I.base.keep b o z n hb (nx b)) (I.base.free b o z n (nx b)) (old b o z hb)
 ·obtain ⟨o',z'⟩:=I.base.there b o z (nx b);exact c3 b o' z' (old b o z hb)
 ·have:=J.base;rwa [hx] at this
end
def zmP{P:Program}{K:PySem.W.Frag} :
  zoz (CXE P w) (zhK (CXE P w) P w K mg base N qual scope f cd A outer s H E) E:=fun pins σ H1 s1 e s' I q =>
 ziC (X:=zhK (CXE P w) P w K mg base N qual scope f cd A outer s H E) I rfl rfl rfl q
def zqD{K:PySem.W.Frag}{h:Heap}(k:K.In h)(z:PySem.W.excIn K C bmB nid=true) :
  ∃bm N nm qn bs hd sn sub ab col dd c0 c1 c2 c3 c5 mN,h.get? C=some (excClassObj nm qn C N bs bm hd sn sub ab col dd c0 c1 c2 c3 c5 nid)/\h.Ns N mN/\mN "__init__" = none/\OwnTail h bmB bm:=by
 unfold PySem.W.excIn at z;split at z
 case h_2=>cases z
 case h_1 dd cd sl ho =>
  split at z
  case h_2=>cases z
  case h_1 D bm c0 c1 c2 c3 n c5 e1 e2 =>
   simp only [yab,ycd,ybC] at z;obtain ⟨⟨⟨⟨⟨z1,z2⟩,z3⟩,z4⟩,z5⟩,z6⟩:=z;subst z1 z2
   have hsl:sl=#[c0,c1,c2,c3,some (.builtin n),c5]:=by
    cases sl with
    | mk l=>exact congrArg Array.mk e2
   have hcd:cd={ cd with mro:=.ref D::bm,hasDel:=false }:=by
    cases cd;simp only at e1 z3;simp only [e1,z3]
   rw [hsl,hcd] at ho;exact ⟨bm,cd.ns,cd.name,_,cd.bases,_,_,_,_,_,dd,c0,c1,c2,c3,c5,_,k _ _ ho,.of_isNs (PySem.W.isNs_of_in k z5),PySem.W.nsMap_none_of_in k z5 z6,PySem.W.tail_of_in k z4⟩
noncomputable def ztP(X:Cx)(E:XK):Prop:=∀(C:Addr) (pins:Z3) (σ:St) (H:Hp) (s:Shared) (e:Addr) (h':Heap) (vs:List Value),Inv X pins σ H s->Heap.MadeExcOf s.heap h' e (.ref C) vs->E (.ref C) none H->X.xe (.ref e) { s with heap:=h' }
def zkJ{P:Program}{K:PySem.W.Frag} :
  ztP (zhK (CXE P w) P w K mg base N qual scope f cd A outer s H E) E:=fun C pins σ H1 s1 e h' vs I mk q =>
 zju (X:=zhK (CXE P w) P w K mg base N qual scope f cd A outer s H E) I rfl rfl rfl mk q
noncomputable def XP(X:Cx)(pins:Z3)(σ:St)(E:XK)(e:Value)(s':Shared):Prop:=∃H1 s1,Inv X pins σ H1 s1/\CXE X.prog X.w X.stack H1 s1 E e s'
noncomputable def ztN(K:PySem.W.Frag)(C D:Addr):Prop:=(∃bC iC,PySem.W.excIn K C bC iC=true)/\∃cd d cl sl,K.lookup C=some ⟨cl,d,.cls cd,sl⟩/\cd.mro.contains (.ref D)=true
end L2
namespace PySem.W
open PySem
structure ExcCls(K:Frag)(C:Addr):Prop where
 ga:findIn K (.ref C) "__getattribute__" = some (some (.builtin "BaseException.__getattribute__"))
 gt:findIn K (.ref C) "__getattr__" = some none
 cl:findIn K (.ref C) "__class__" = some (some (.builtin "object.__class__"))
 ob:subIn K (.ref C) (.type "object")=some true
 be:subIn K (.ref C) (.type "BaseException")=some true
 is:∃c d cd sl,K.lookup C=some ⟨c,d,.cls cd,sl⟩
section
variable{prog:Program}{w:World}{A:Around}{E:Z5}{h:Heap}{g:Array GenState}{d:Drawn}{t:Nat}{os:OsState}{a C:Addr}{o:Obj}{K:Frag}
theorem zfU{R:Result->Shared->Prop}(k:K.In h)(X:ExcCls K C)(hx:h.get? a=some o)(hc:o.cls=.ref C)(hq:R (.ok (.ret (.ref C))) ⟨h,g,d,t,os⟩) :
  codeAny (model prog w) A (.call (.builtin "getset_descriptor.__get__") ⟨[.builtin "object.__class__",.ref a,.ref C],[]⟩) R ⟨h,g,d,t,os⟩:=by
 have isGs:Shared.TypeIs ⟨h,g,d,t,os⟩ (.builtin "object.__class__") "getset_descriptor":=ycF
 have f8:subIn K (.ref C) (.type (".".intercalate ("object.__class__".cutAt '.').dropLast))=some true:=by rw [F.owner_object_class];exact X.ob
 refine yb8 F.slot_gs_get.plain F.entry_gs_get ?_;refine F.slot_gs_get.check _ _ _ _ _ _ _ _ isGs (F.args_gs_get _ _ _) ?_
 repeat (any_goals (first | assumption | (with_reducible refine yb4 hx ?_;rw [hc]) | with_reducible refine Looks.at (looks_subIn k f8) ?_ | wp_step))
 refine And.intro (yc1 _ (by decide +kernel)) ?_;refine ybj F.entry_object_class ?_
 repeat (any_goals (first | assumption | (with_reducible refine yb4 hx ?_;rw [hc]) | wp_step))
def zeJ{tk:Tok}{Q:Fin->Shared->Prop}(k:K.In h)(X:ExcCls K C)(hx:h.get? a=some o)(hc:o.cls=.ref C)(hq:Q (.done (.ret (.ref C))) ⟨h,g,d,t,os⟩) :
  wpAny (model prog w) A (Builtin.«object.__getattribute__» { pos:=[.ref a,.str "__class__" tk],kw:=[] }) Q E ⟨h,g,d,t,os⟩:=by
 have isGs:Shared.TypeIs ⟨h,g,d,t,os⟩ (.builtin "object.__class__") "getset_descriptor":=ycF;have known:=And.intro ycF (And.intro F.slot_gs_get.lookup F.slot_gs_set.lookup);obtain ⟨p5,p6,p7⟩:=known
 repeat (any_goals (first | assumption | (with_reducible refine yb4 hx ?_;rw [hc]) | with_reducible refine Looks.at (looks_findIn k X.cl) ?_ | wp_step))
 refine zfU k X hx hc ?_
 repeat any_goals first | assumption | wp_step
end
section
variable{prog:Program}{w:World}{A:Around}{E:Z5}{h:Heap}{g:Array GenState}{d:Drawn}{t:Nat}{os:OsState}{a C:Addr}{o:Obj}{K:Frag}
theorem zeK{M:Model}{nameV:Value}{Q:Unit->Shared->Prop}(k:K.In h)(X:ExcCls K C)(hx:h.get? a=some o)(hc:o.cls=.ref C)(hq:Q () ⟨h,g,d,t,os⟩) :
  wpAny M A (checkBuiltinCall "BaseException.__getattribute__" ⟨[.ref a,nameV],[]⟩) Q E ⟨h,g,d,t,os⟩:=by
 have k1:builtinKind "BaseException.__getattribute__" = some .slot:=by decide +kernel
 have k2:splitId "BaseException.__getattribute__" = some ("BaseException","__getattribute__"):=by decide +kernel
 have fits:=F.args_bexc_ga (.ref a) nameV;simp only [checkBuiltinCall,k1,k2];refine yaa ?_;unfold isInstance
 repeat (first | (with_reducible refine yb4 hx ?_;rw [hc]) | with_reducible refine Looks.at (looks_subIn k X.be) ?_ | wp_step)
 exact hq
def zeX{tk:Tok}{R:Result->Shared->Prop}(k:K.In h)(X:ExcCls K C)(hx:h.get? a=some o)(hc:o.cls=.ref C)(hq:R (.ok (.ret (.ref C))) ⟨h,g,d,t,os⟩) :
  codeAny (model prog w) A (.call (.builtin "BaseException.__getattribute__") ⟨[.ref a,.str "__class__" tk],[]⟩) R ⟨h,g,d,t,os⟩ :=
 yb8 F.attr_ValueError.ga.plain F.entry_bexc_ga (zeK k X hx hc (zeJ k X hx hc hq))
theorem zgQ{tk:Tok}{fill expr:Bool}{Q:Z5}(k:K.In h)(X:ExcCls K C)(hx:h.get? a=some o)(hc:o.cls=.ref C)(hq:Q (.ref C) ⟨h,g,d,t,os⟩) :
  wpAny (model prog w) A (getAttrBy (.ref a) (.str "__class__" tk) fill expr) Q E ⟨h,g,d,t,os⟩:=by
 have f3:=F.attr_ValueError.ga.bind (.ref a)
 have n0:(expr&&onTheHeap (Value.builtin "BaseException.__getattribute__"))=false:=by cases expr<;>rfl
 have n2:(Value.builtin "BaseException.__getattribute__" == Value.builtin "object.__getattribute__")=false:=by decide +kernel
 have n1:(onTheHeap (Value.ref C)&&Value.builtin "BaseException.__getattribute__" == Value.builtin "object.__getattribute__")=false:=by rw [n2];rfl
 repeat (any_goals (first | assumption | (with_reducible refine yb4 hx ?_;rw [hc]) | with_reducible refine Looks.at (looks_findIn k X.ga) ?_ | with_reducible refine Looks.at (looks_findIn k X.gt) ?_ | wp_step))
 refine zeX k X hx hc ?_
 repeat any_goals first | assumption | wp_step
def zeY{Q:Option Value->Shared->Prop}(k:K.In h)(X:ExcCls K C)(hx:h.get? a=some o)(hc:o.cls=.ref C)(hq:Q (some (.ref C)) ⟨h,g,d,t+1,os⟩):wpAny (model prog w) A (getAttr? (.ref a) "__class__") Q E ⟨h,g,d,t,os⟩:=by
 unfold getAttr? getAttrBy?
 repeat (any_goals (first | assumption | with_reducible apply zgQ k X hx hc | wp_step))
end
def zm4{K:Frag}{a C:Addr}(X:ExcCls K C):KitX K (.ref a) (.ref C) (fun h=>∃o,h.get? a=some o/\o.cls=.ref C) where
 ty:=fun M h _ p=>by
  obtain ⟨o,h1,h2⟩:=p;rw [<-h2];exact Looks.andThen (Looks.ld h1) .now
 it:=fun _ _ k _=>by
  obtain ⟨c,d,cd,sl,lk⟩:=X.is;intro A' Q' E' s' kk q;unfold isType loadHead;exact yaa (wpAny_loadPart (kk _ _ (k _ _ lk)) (yad q))
 ne:=fun h tp dd its n sl k htp=>by
  obtain ⟨c,d,cd,sl',lk⟩:=X.is;refine Bool.eq_false_iff.mpr fun q=>?_
  have e:C=tp:=Value.ref.inj (ycd.mp q);have z:=k _ _ lk;rw [e,htp] at z;cases z
 ca:=fun {_ _ _ _ _ s} k p q=>by
  obtain ⟨o,h1,h2⟩:=p;obtain ⟨h,g,d,t,os⟩:=s;exact zeY k X h1 h2 q
end PySem.W
namespace L2
open PySem PySem.Spec PyProof.Rows
def zjH{X:Cx}:zcv X (.builtin "isinstance") (fun xs H Q=>∃(a C:Addr) (ob:Obj) (c:V) (cv:Value) (k:Bool),xs=[.ref a,c]/\H a=some (.frz ob (.own a))/\ob.cls=.ref C/\PySem.W.ExcCls X.K C/\(∀u,zaL c u->u=cv)/\PySem.W.kitOne X.K (.ref C) cv=some k/\Q (.bl k) H):=by
 intro pins s σ H xs us Q I r h;obtain ⟨a,C,ob,c,cv,k,rfl,ha,hc,Z,hv,e,q⟩:=h
 cases r with
 | cons r1 rr =>
  cases rr with
  | cons r2 r3 =>
   cases r3;cases (show _=Value.ref a from r1);rw [hv _ r2];obtain ⟨h1,_⟩:=(show zaI X.prog X.w H s.heap a (.frz ob (.own a)) from I.hok a _ ha);exact ya3 (PySem.W.zm4 Z) I.kIn ⟨ob,h1,hc⟩ e (fun z=>nomatch z) fun tk=>⟨.bl k,H,I.tok tk,rfl,q⟩
open PySem PySem.Spec PyProof.Rows PySem.SeqAt
end L2
namespace S2
open PySem PySem.Spec PyProof.Rows L2
mutual
noncomputable def D.py:D->PyData
 | .non=>.none
 | .bl b=>.bool b
 | .int i=>.int i
 | .str x=>.str x
 | .tup l=>.tuple (D.pys l)
 | .lst l=>.list (D.pys l)
 | .scr l=>.list (l.map PyData.int)
 | .dic _=>.none
 | .ref _=>.none
 | .exc _=>.none
noncomputable def D.pys:List D->List PyData
 | []=>[]
 | d::l=>d.py::D.pys l
end
mutual
noncomputable def D.fit:Nat->D->Bool
 | _,.non=>true
 | _,.bl _=>true
 | _,.int _=>true
 | _,.str x=>PyData.strOk x
 | 0,.tup _=>false
 | n+1,.tup l=>D.fits n l
 | 0,.lst _=>false
 | n+1,.lst l=>D.fits n l
 | 0,.scr _=>false
 | _+1,.scr _=>true
 | _,.dic _=>false
 | _,.ref _=>false
 | _,.exc _=>false
noncomputable def D.fits:Nat->List D->Bool
 | _,[]=>true
 | n,d::l=>d.fit n&&D.fits n l
end
theorem D.fits_iff:∀{l:List D},D.fits n l=true↔∀d∈l,d.fit n=true
 | []=>by simp [D.fits]
 | d::l=>by simp [D.fits,D.fits_iff (l:=l)]
theorem ziG:∀(l:List Int),PyData.canLayAll0 (l.map PyData.int)=true/\PyData.depthAll (l.map PyData.int)=0
 | []=>⟨rfl,rfl⟩
 | i::l=>by
  obtain ⟨a,b⟩:=ziG l;exact ⟨by simp [PyData.canLayAll0,PyData.canLay0,a],by simp [PyData.depthAll,PyData.depth,b]⟩
mutual
theorem D.lay:∀{n:Nat} {d:D},d.fit n=true->d.py.canLay0=true/\d.py.depth<=n
 | _,.non,_=>⟨rfl,ya2 _⟩
 | _,.bl _,h=>⟨rfl,ya2 _⟩
 | _,.int _,_=>⟨rfl,ya2 _⟩
 | _,.str x,h=>⟨by simpa [D.fit,D.py,PyData.canLay0] using h,ya2 _⟩
 | 0,.tup _,h=>by simp [D.fit] at h
 | 0,.lst _,h=>by simp [D.fit] at h
 | 0,.scr _,h=>by simp [D.fit] at h
 | n+1,.scr l,h=>by
  obtain ⟨a,b⟩:=ziG l;exact ⟨by simpa [D.py,PyData.canLay0] using a,by simp only [D.py,PyData.depth];omega⟩
 | _,.dic _,h=>by simp [D.fit] at h
 | _,.ref _,h=>by simp [D.fit] at h
 | _,.exc _,h=>by simp [D.fit] at h
 | n+1,.tup l,h=>by
  have h':D.fits n l=true:=by simpa [D.fit] using h
  obtain ⟨a,b⟩:=D.lays h';exact ⟨by simpa [D.py,PyData.canLay0] using a,by simp only [D.py,PyData.depth];omega⟩
 | n+1,.lst l,h=>by
  have h':D.fits n l=true:=by simpa [D.fit] using h
  obtain ⟨a,b⟩:=D.lays h';exact ⟨by simpa [D.py,PyData.canLay0] using a,by simp only [D.py,PyData.depth];omega⟩
theorem D.lays:∀{n:Nat} {l:List D},D.fits n l=true->PyData.canLayAll0 (D.pys l)=true/\PyData.depthAll (D.pys l)<=n
 | _,[],_=>⟨rfl,ya2 _⟩
 | n,d::l,h=>by
  simp only [D.fits,yab] at h;obtain ⟨a,b⟩:=D.lay h.1;obtain ⟨c,e⟩:=D.lays h.2;exact ⟨by simp [D.pys,PyData.canLayAll0,a,c],by simp only [D.pys,PyData.depthAll];omega⟩
end
section
variable{X:Cx}{cl:Cf}{w:Wd}
def TopV.lstI(h:TopV cl w v (.lst ds)):∃a xs,v=.ref a/\w.H a=some (.lst xs)/\Shds cl w xs ds:=by
 cases h with
 | sh h=>cases h with
  | lst e k r=>exact ⟨_,_,rfl,e,r⟩
 | ow e t=>cases t with
  | lst r=>exact ⟨_,_,rfl,e,r⟩
def TopV.tupI(h:TopV cl w v (.tup ds)):∃a xs,v=.ref a/\w.H a=some (.tup xs)/\w.ow a=none/\Shds cl w xs ds:=by
 cases h with
 | sh h=>cases h with
  | tup e k r=>exact ⟨_,_,rfl,e,k,r⟩
 | ow e t=>cases t
def TopV.intI(h:TopV cl w v (.int i)):v=.int i:=by
 cases h with
 | sh h=>cases h;rfl
 | ow e t=>cases t
def TopV.strI(h:TopV cl w v (.str i)):v=.str i:=by
 cases h with
 | sh h=>cases h;rfl
 | ow e t=>cases t
def TopV.blI(h:TopV cl w v (.bl i)):v=.bl i:=by
 cases h with
 | sh h=>cases h;rfl
 | ow e t=>cases t
def TopV.nonI(h:TopV cl w v .non):v=.non:=by
 cases h with
 | sh h=>cases h;rfl
 | ow e t=>cases t
def Shd.scrI(hK:X.K=cl.K)(h:Shd cl w v (.scr l)):∃a,v=.ref a/\SqL X.K w.H a (l.map V.int):=by
 cases h with
 | scr e k=>exact ⟨_,rfl,.inl (.inr ⟨_,e⟩)⟩
 | scrK h=>exact ⟨_,rfl,by rw [hK];exact h _⟩
theorem TopV.scrI(hK:X.K=cl.K)(h:TopV cl w v (.scr l)):∃a,v=.ref a/\SqL X.K w.H a (l.map V.int):=by
 cases h with
 | sh h=>exact h.scrI hK
 | ow e t=>cases t
def zic(I:Inv X pins σ w.H s)(hK:X.K=cl.K)(h:Shd cl w v (.scr l))(r:zaL v u):∃as,Reads s.heap u (D.scr l).py as:=by
  obtain ⟨a,rfl,hq⟩:=h.scrI hK;cases r;obtain ⟨its,rv,p,_⟩:=I.list hq;obtain ⟨o,ho,hc,n,hd⟩:=id p.isList
  have go:∀{l:List Int} {us:List Value},Vals (l.map V.int) us->∃as,ReadsAll s.heap us (l.map PyData.int) as:=by
   intro l
   induction l with
   | nil=>intro us h;cases h;exact ⟨_,.nil⟩
   | cons i l ih =>
    intro us h
    cases h with
    | cons h1 h2 =>
     obtain ⟨t,rfl⟩:=h1;obtain ⟨as,ra⟩:=ih h2;exact ⟨_,.cons (.int i t) ra⟩
  obtain ⟨as,ra⟩:=go rv;exact ⟨_,.list ho hc hd (by simpa using ra)⟩
def znk{n:Nat}{l:List D}(h:(D.tup l).fit n=true):∃m,n=m+1:=by
 cases n with
 | zero=>simp [D.fit] at h
 | succ m=>exact ⟨m,rfl⟩
def znl{n:Nat}{l:List D}(h:(D.lst l).fit n=true):∃m,n=m+1:=by
 cases n with
 | zero=>simp [D.fit] at h
 | succ m=>exact ⟨m,rfl⟩
mutual
theorem zmw{pins:Z3}{σ:St}{s:Shared}(I:Inv X pins σ w.H s)(hK:X.K=cl.K):∀{v:V} {d:D} {n:Nat},Shd cl w v d->d.fit n=true->∀{u:Value},zaL v u->∃as,Reads s.heap u d.py as
 | _,_,_,.non,_,_,r=>by cases r;exact ⟨_,.none⟩
 | _,_,_,.bl b,_,_,r=>by cases r;exact ⟨_,.bool b⟩
 | _,_,_,.int i,_,_,r=>by obtain ⟨t,rfl⟩:=r;exact ⟨_,.int i t⟩
 | _,_,_,.str x,_,_,r=>by obtain ⟨t,rfl⟩:=r;exact ⟨_,.str x t⟩
 | _,_,n,.tup (a:=a) e _ rs,h,_,r=>by
  obtain ⟨n,rfl⟩:=znk h;cases r;obtain ⟨its,rv,p,_⟩:=I.tuple (SqT.of (K:=X.K) e);obtain ⟨o,ho,hc,n,hd⟩:=id p;obtain ⟨as,ra⟩:=zdr I hK rs (by simpa [D.fit] using h) rv;exact ⟨_,.tuple ho hc hd (by simpa using ra)⟩
 | _,_,n,.lst (a:=a) e _ rs,h,_,r=>by
  obtain ⟨n,rfl⟩:=znl h;cases r;obtain ⟨its,rv,p,_⟩:=I.list (SqL.of (K:=X.K) e);obtain ⟨o,ho,hc,n,hd⟩:=id p.isList;obtain ⟨as,ra⟩:=zdr I hK rs (by simpa [D.fit] using h) rv;exact ⟨_,.list ho hc hd (by simpa using ra)⟩
 | _,_,n,.scr e k,h,_,r=>zic I hK (.scr e k) r
 | _,_,n,.scrK e,h,_,r=>zic I hK (.scrK e) r
 | _,_,n,.dicK _ _ _,h,_,_=>by simp [D.fit] at h
 | _,_,n,.ref _,h,_,_=>by simp [D.fit] at h
 | _,_,n,.exc _ _ _,h,_,_=>by simp [D.fit] at h
theorem zdr{pins:Z3}{σ:St}{s:Shared}(I:Inv X pins σ w.H s)(hK:X.K=cl.K):∀{vs:List V} {ds:List D} {n:Nat},Shds cl w vs ds->D.fits n ds=true->∀{us:List Value},Vals vs us->∃as,ReadsAll s.heap us (D.pys ds) as
 | _,_,_,.nil,_,_,r=>by cases r;exact ⟨_,.nil⟩
 | _,_,n,.cons h t,f,_,r=>by
  simp only [D.fits,yab] at f
  cases r with
  | cons r1 r2 =>
   obtain ⟨as,a⟩:=zmw I hK h f.1 r1;obtain ⟨bs,b⟩:=zdr I hK t f.2 r2;exact ⟨_,.cons a b⟩
end
def zhr(I:Inv X pins σ w.H s)(hK:X.K=cl.K)(h:TopV cl w v d)(f:d.fit n=true)(r:zaL v u):∃as,Reads s.heap u d.py as:=by
 cases h with
 | sh h=>exact zmw I hK h f r
 | ow e t =>
  cases t with
  | lst rs =>
   cases n with
   | zero=>simp [D.fit] at f
   | succ n =>
    cases r;obtain ⟨its,rv,p,_⟩:=I.list (SqL.of (K:=X.K) e);obtain ⟨o,ho,hc,n,hd⟩:=id p.isList;obtain ⟨as,ra⟩:=zdr I hK rs (by simpa [D.fit] using f) rv;exact ⟨_,.list ho hc hd (by simpa using ra)⟩
  | dicK _=>simp [D.fit] at f
noncomputable def zfC(d e:D):Bool:=d.py.eqv e.py
noncomputable def zqz(ds:List (D×D)):Bool:=ds.all fun p=>p.2.fit 8
def eqK(es:List (D×D)):List (D×D)->Bool
 | (.str k,d)::r=>(match zaB k es with | some e=>zfC d e | none=>false)&&eqK es r
 | _=>true
def znq(d e:D):Option Bool:=match d,e with | .dic ds,.dic es=>if zau ds&&zau es&&zqz ds&&zqz es then some (ds.length == es.length&&eqK es ds) else none | _,_=>none
def eqD(d e:D):Option D:=if d.fit 9&&e.fit 9 then some (.bl (zfC d e)) else (znq d e).map D.bl
def neD(d e:D):Option D:=if d.fit 9&&e.fit 9 then some (.bl (!zfC d e)) else (znq d e).map fun b=>D.bl (!b)
theorem zfQ{k:Str}:∀{ds:List (D×D)} {d:D},zaB k ds=some d->zqz ds=true->d.fit 8=true
 | (.str x,e)::r,d,h,f=>by
  unfold zqz at f;rw [ybh,yab] at f;unfold zaB at h;split at h
  ·cases h;exact f.1
  ·exact zfQ h f.2
theorem ziD{A:Around}{pins:Z3}{σ:St}{s:Shared}(I:Inv X pins σ w.H s)(hK:X.K=cl.K)(hu:A.units+32<cLine){kb:List (Key×V)}{vb:List (Key×Value)}{es:List (D×D)}(rb:KV kb vb)(hb:ShdK cl w kb es)(ob:zau es=true)(fb:zqz es=true) :
  ∀{ka:List (Key×V)} {va:List (Key×Value)} {ds:List (D×D)},ShdK cl w ka ds->KV ka va->zau ds=true->zqz ds=true->PySem.W.KeqHits A s vb va (eqK es ds)
 | _,_,_,.nil,.nil,_,_=>.nil
 | _,_,_,.consI _ _,_,o,_=>by cases o
 | _,_,_,.consS (x:=x) (v:=v) (d:=d) hd ht,.cons (b:=q) r t,o,f=>by
  unfold zau at o;rw [yab] at o;unfold zqz at f;rw [ybh,yab] at f;have ih:=ziD I hK hu rb hb ob fb ht t o.2 f.2;obtain ⟨qk,qv⟩:=q;obtain ⟨e1,rv⟩:=r;dsimp only at e1 rv;subst e1;have hv:=rb.val (.inr x);show PySem.W.KeqHits A s vb _ ((match zaB x es with | some e=>zfC d e | none=>false)&&eqK es _)
  rcases zb1 x hb ob with ⟨h1,h2⟩ | ⟨v',d',h1,h2,h3⟩
  ·rw [h1] at hv;rw [h2]
   cases hz:valueAt vb (.inr x) with
   | none=>exact .miss hz
   | some y=>rw [hz] at hv;exact hv.elim
  ·rw [h1] at hv;rw [h2]
   cases hz:valueAt vb (.inr x) with
   | none=>rw [hz] at hv;exact hv.elim
   | some y =>
    rw [hz] at hv;obtain ⟨as,ra⟩:=zmw I hK hd f.1 rv;obtain ⟨bs,rb'⟩:=zmw I hK h3 (zfQ h2 fb) hv;obtain ⟨l1,d1⟩:=D.lay f.1;obtain ⟨l2,d2⟩:=D.lay (zfQ h2 fb);exact .hit hz (SeqAt.eqAt_reads _ _ A s _ _ as bs ra rb' l1 l2 (by omega)) ih
theorem zlJ{pins:Z3}{σ:St}{s:Shared}{x y:V}{v u:Value}{d e:D}{b:Bool}(I:Inv X pins σ w.H s)(hK:X.K=cl.K)(hu:X.A.units+64<cLine)(hx:TopV cl w x d)(hy:TopV cl w y e)(rx:zaL x v)(ry:zaL y u)(h:znq d e=some b) :
  ∃(a c:Addr) (ka kc:List (Key×Value)) (r:Bool),v=.ref a/\u=.ref c/\(a == sysModules)=false/\(c == sysModules)=false/\s.heap.DictOf (zav X.prog X.w) a ka/\s.heap.DictOf (zav X.prog X.w) c kc/\PySem.W.KeqHits X.A.in1 s kc ka r/\b=(ka.length == kc.length&&r):=by
 unfold znq at h;split at h
 ·rename_i ds es;split at h
  ·rename_i hc;simp only [yab] at hc;cases h;obtain ⟨a,ka,rfl,ea,ra⟩:=hx.dicI;obtain ⟨c,kc,rfl,ec,rc⟩:=hy.dicI;cases rx;cases ry;obtain ⟨_,z1,va,k1,d1⟩:=zeZ I.hok ea;obtain ⟨_,z2,vc,k2,d2⟩:=zeZ I.hok ec;refine ⟨a,c,va,vc,eqK es ds,rfl,rfl,z1,z2,d1,d2,ziD I hK (by simp [Around.in1];omega) k2 rc hc.1.1.2 hc.2 ra k1 hc.1.1.1 hc.1.2,?_⟩;rw [<-k1.length,<-k2.length,ra.length,rc.length]
  ·cases h
 ·cases h
theorem zsO(hK:X.K=cl.K)(hu:X.A.units+64<cLine):OpD X cl (compareOp .Eq) eqD:=by
 intro pins s σ H x y v u Q I rx ry h;obtain ⟨w,d,e,r,rfl,hx,hy,hg,q⟩:=h;unfold eqD at hg;split at hg
 ·rename_i hf;cases hg;rw [yab] at hf;obtain ⟨as,ra⟩:=zhr I hK hx hf.1 rx;obtain ⟨bs,rb⟩:=zhr I hK hy hf.2 ry;obtain ⟨l1,d1⟩:=D.lay hf.1;obtain ⟨l2,d2⟩:=D.lay hf.2;exact SeqAt.compareEq_reads ra rb l1 l2 (by omega) ⟨.bl _,w.H,I,rfl,q _ w (Grow.refl _) (.bl _)⟩
 ·obtain ⟨b,hb,hg⟩:=yat.mp hg;subst hg;obtain ⟨a,c,ka,kc,r,rfl,rfl,z1,z2,d1,d2,hh,rfl⟩:=zlJ I hK hu hx hy rx ry hb;exact PySem.W.keq_eq z1 z2 d1 d2 (by omega) (fun _=>hh) ⟨.bl _,w.H,I,rfl,q _ w (Grow.refl _) (.bl _)⟩
def zu4(hK:X.K=cl.K)(hu:X.A.units+64<cLine):OpD X cl (compareOp .NotEq) neD:=by
 intro pins s σ H x y v u Q I rx ry h;obtain ⟨w,d,e,r,rfl,hx,hy,hg,q⟩:=h;unfold neD at hg;split at hg
 ·rename_i hf;cases hg;rw [yab] at hf;obtain ⟨as,ra⟩:=zhr I hK hx hf.1 rx;obtain ⟨bs,rb⟩:=zhr I hK hy hf.2 ry;obtain ⟨l1,d1⟩:=D.lay hf.1;obtain ⟨l2,d2⟩:=D.lay hf.2;exact SeqAt.compareNe_reads ra rb l1 l2 (by omega) ⟨.bl _,w.H,I,rfl,q _ w (Grow.refl _) (.bl _)⟩
 ·obtain ⟨b,hb,hg⟩:=yat.mp hg;subst hg;obtain ⟨a,c,ka,kc,r,rfl,rfl,z1,z2,d1,d2,hh,rfl⟩:=zlJ I hK hu hx hy rx ry hb;exact PySem.W.keq_ne z1 z2 d1 d2 (by omega) (fun _=>hh) ⟨.bl _,w.H,I,rfl,q _ w (Grow.refl _) (.bl _)⟩
noncomputable def zkp:D->Option (List D) | .lst l=>some l | .tup l=>some l | _=>none
noncomputable def zjS(d:D)(l:List D):Bool:=l.any fun e=>zfC e d
def zt4(d e:D):Option Bool:=match d,e with | .str k,.dic ds=>if zau ds then some (zaB k ds).isSome else none | _,_=>none
def inD(d e:D):Option D:=match zkp e with | some l=>if d.fit 8&&D.fits 8 l then some (.bl (zjS d l)) else none | none=>(zt4 d e).map D.bl
def zma(d e:D):Option D:=match zkp e with | some l=>if d.fit 8&&D.fits 8 l then some (.bl (!zjS d l)) else none | none=>(zt4 d e).map fun b=>D.bl (!b)
def zc1{s:Shared}{its:List Value}{d:D}(ra:ReadsAll s.heap its (D.pys ds) as)(f:D.fits 8 ds=true):(its.toArray.any fun y=>(SeqAt.readOf s.heap y).eqv d.py)=zjS d ds:=by
 rw [SeqAt.any_by_data (vs:=its.toArray) (xs:=D.pys ds) (as:=as) (by simpa using ra) (D.lays f).1]
 have:∀{l:List D},((D.pys l).any fun y=>y.eqv d.py)=zjS d l:=by
  intro l
  induction l with
  | nil=>rfl
  | cons e l ih =>
   show (e.py.eqv d.py||(D.pys l).any fun y=>y.eqv d.py)=(zfC e d||zjS d l);rw [ih];rfl
 exact this
theorem zb9{A:Around}{s:Shared}{d:D}(hu:A.units+64<cLine)(rx:Reads s.heap x d.py bs)(fd:d.fit 8=true):∀{its:List Value} {ds:List D} {as:List Addr},ReadsAll s.heap its (D.pys ds) as->D.fits 8 ds=true->∀y,y∈its.toArray->SeqAt.EqAt A.in1 s y x ((SeqAt.readOf s.heap y).eqv d.py)
 | [],[],_,_,_,y,hy=>by simp at hy
 | [],_::_,_,h,_,_,_=>by cases h
 | _::_,[],_,h,_,_,_=>by cases h
 | v::its,e::ds,_,h,f,y,hy=>by
  simp only [D.fits,yab] at f
  cases h with
  | cons h1 h2 =>
   simp at hy
   rcases hy with rfl | hy
   ·rw [zkH (D.lay f.1).1 h1];refine SeqAt.eqAt_reads _ _ _ _ _ _ _ _ h1 rx (D.lay f.1).1 (D.lay fd).1 ?_;have:=(D.lay f.1).2;show A.units+1+_<cLine;omega
   ·exact zb9 hu rx fd h2 f.2 y (by simpa using hy)
def zko(h:zkp e=some l):e=.lst l\/e=.tup l:=by
 cases e<;>simp [zkp] at h
 ·exact .inr (by rw [h])
 ·exact .inl (by rw [h])
def zol{w:Wd}{x y:V}{d e:D}{b:Bool}(hx:TopV cl w x d)(hy:TopV cl w y e)(h:zt4 d e=some b):∃a ov,y=.ref a/\zhS w.H a x ov/\ov.isSome=b:=by
 unfold zt4 at h;split at h
 ·rename_i k ds;split at h
  ·rename_i ho;cases h;obtain ⟨a,kvs,rfl,ea,ra⟩:=hy.dicI;obtain rfl:=hx.strI;refine ⟨a,_,rfl,.inl ⟨kvs,.inr k,ea,rfl,rfl⟩,?_⟩
   rcases zb1 k ra ho with ⟨h1,h2⟩ | ⟨_,_,h1,h2,_⟩<;>rw [h1,h2]<;>rfl
  ·cases h
 ·cases h
theorem zu5(hK:X.K=cl.K)(hu:X.A.units+64<cLine):OpD X cl (compareOp .In) inD:=by
 intro pins s σ H x y v u Q I rx ry h;obtain ⟨w,d,e,r,rfl,hx,hy,hg,q⟩:=h;unfold inD at hg;split at hg
 ·rename_i l hl;split at hg
  ·rename_i hf;cases hg;rw [yab] at hf;obtain ⟨bs,rb⟩:=zhr I hK hx hf.1 rx
   rcases zko hl with rfl | rfl
   ·obtain ⟨a,xs,rfl,e,rs⟩:=hy.lstI;cases ry;obtain ⟨its,rv,p,_⟩:=I.list (SqL.of (K:=X.K) e);obtain ⟨as,ra⟩:=zdr I hK rs hf.2 rv;refine SeqAt.in_listAt _ p.isList (zb9 hu rb hf.1 ra hf.2) ?_;rw [zc1 ra hf.2];exact ⟨.bl _,w.H,I,rfl,q _ w (Grow.refl _) (.bl _)⟩
   ·obtain ⟨a,xs,rfl,e,_,rs⟩:=hy.tupI;cases ry;obtain ⟨its,rv,p,_⟩:=I.tuple (SqT.of (K:=X.K) e);obtain ⟨as,ra⟩:=zdr I hK rs hf.2 rv;refine SeqAt.in_tupleAt _ p (zb9 hu rb hf.1 ra hf.2) ?_;rw [zc1 ra hf.2];exact ⟨.bl _,w.H,I,rfl,q _ w (Grow.refl _) (.bl _)⟩
  ·cases hg
 ·obtain ⟨b,hb,hg⟩:=yat.mp hg;subst hg;obtain ⟨a,ov,rfl,g,rfl⟩:=zol hx hy hb;cases ry;exact zxa (by omega) I g rx fun s' I'=>⟨.bl _,w.H,I',rfl,q _ w (Grow.refl _) (.bl _)⟩
def zsJ(hK:X.K=cl.K)(hu:X.A.units+64<cLine):OpD X cl (compareOp .NotIn) zma:=by
 intro pins s σ H x y v u Q I rx ry h;obtain ⟨w,d,e,r,rfl,hx,hy,hg,q⟩:=h;unfold zma at hg;split at hg
 ·rename_i l hl;split at hg
  ·rename_i hf;cases hg;rw [yab] at hf;obtain ⟨bs,rb⟩:=zhr I hK hx hf.1 rx
   rcases zko hl with rfl | rfl
   ·obtain ⟨a,xs,rfl,e,rs⟩:=hy.lstI;cases ry;obtain ⟨its,rv,p,_⟩:=I.list (SqL.of (K:=X.K) e);obtain ⟨as,ra⟩:=zdr I hK rs hf.2 rv;refine SeqAt.notIn_listAt _ p.isList (zb9 hu rb hf.1 ra hf.2) ?_;rw [zc1 ra hf.2];exact ⟨.bl _,w.H,I,rfl,q _ w (Grow.refl _) (.bl _)⟩
   ·obtain ⟨a,xs,rfl,e,_,rs⟩:=hy.tupI;cases ry;obtain ⟨its,rv,p,_⟩:=I.tuple (SqT.of (K:=X.K) e);obtain ⟨as,ra⟩:=zdr I hK rs hf.2 rv;refine SeqAt.notIn_tupleAt _ p (zb9 hu rb hf.1 ra hf.2) ?_;rw [zc1 ra hf.2];exact ⟨.bl _,w.H,I,rfl,q _ w (Grow.refl _) (.bl _)⟩
  ·cases hg
 ·obtain ⟨b,hb,hg⟩:=yat.mp hg;subst hg;obtain ⟨a,ov,rfl,g,rfl⟩:=zol hx hy hb;cases ry;exact zlL (by omega) I g rx fun s' I'=>⟨.bl _,w.H,I',rfl,q _ w (Grow.refl _) (.bl _)⟩
def zdJ:D->D->Option D
 | .int i,.int j=>some (.int (i+j))
 | .tup a,.tup b=>if zaE (a.length+b.length) then some (.tup (a++b)) else none
 | .lst a,.lst b=>if zaE (a.length+b.length) then some (.lst (a++b)) else none
 | .str a,.str b=>if zaE (a.length+b.length) then some (.str (a++b)) else none
 | _,_=>none
def zsQ:OpD X cl (binaryOp .Add) zdJ:=by
 intro pins s σ H x y v u Q I rx ry h;obtain ⟨w,d,e,r,rfl,hx,hy,hg,q⟩:=h;unfold zdJ at hg;split at hg
 ·cases hg;rename_i i j;obtain rfl:=hx.intI;obtain rfl:=hy.intI;exact zsE pins s σ w.H _ _ v u Q I rx ry ⟨i,j,rfl,rfl,q _ w (Grow.refl _) (.int _)⟩
 ·rename_i a b;split at hg
  ·rename_i hz;cases hg;obtain ⟨p,xs,rfl,ep,kp,rs⟩:=hx.tupI;obtain ⟨p2,ys,rfl,ep2,kp2,rs2⟩:=hy.tupI
   by_cases hxe:xs=[]
   ·subst hxe;cases rs;exact zmS pins s σ w.H _ _ v u Q I rx ry ⟨p,p2,ys,rfl,rfl,SqT.of ep,SqT.of ep2,q _ w (Grow.refl _) (.tup ep2 kp2 rs2)⟩
   ·refine zpW pins s σ w.H _ _ v u Q I rx ry ⟨p,p2,xs,ys,rfl,rfl,SqT.of ep,SqT.of ep2,hxe,by rw [rs.length,rs2.length];exact zaK hz,fun z=>?_,fun z l hl=>?_⟩
    ·subst z;cases rs2;rw [yaS] at q;exact q _ w (Grow.refl _) (.tup ep kp rs)
    ·exact q _ (w.add l _) (zaq hl _) (Shd.newT hl (rs.append rs2))
  ·cases hg
 ·rename_i a b;split at hg
  ·rename_i hz;cases hg;obtain ⟨p,xs,rfl,ep,rs⟩:=hx.lstI;obtain ⟨p2,ys,rfl,ep2,rs2⟩:=hy.lstI;exact zsD pins s σ w.H _ _ v u Q I rx ry ⟨p,p2,xs,ys,rfl,rfl,ep,ep2,by rw [rs.length,rs2.length];exact zaK hz,fun l hl=>q _ (w.add l _) (zaq hl _) (Shd.newL hl (rs.append rs2))⟩
  ·cases hg
 ·rename_i a b;split at hg
  ·rename_i hz;cases hg;obtain rfl:=hx.strI;obtain rfl:=hy.strI;exact zjn pins s σ w.H _ _ v u Q I rx ry ⟨a,b,rfl,rfl,zaK hz,q _ w (Grow.refl _) (.str _)⟩
  ·cases hg
 ·cases hg
noncomputable def zux:D->D->Option D | .int i,.int j=>some (.int (i-j)) | _,_=>none
def zsI:OpD X cl (binaryOp .Sub) zux:=by
 intro pins s σ H x y v u Q I rx ry h;obtain ⟨w,d,e,r,rfl,hx,hy,hg,q⟩:=h;unfold zux at hg;split at hg
 ·cases hg;rename_i i j;obtain rfl:=hx.intI;obtain rfl:=hy.intI;exact zsx pins s σ w.H _ _ v u Q I rx ry ⟨i,j,rfl,rfl,q _ w (Grow.refl _) (.int _)⟩
 ·cases hg
noncomputable def zbX(i:Int):Bool:=decide (-(2 ^ 64)<i/\i<2 ^ 64)
def zjR:D->D->Option D
 | .int i,.int j=>if zbX i||zbX j then some (.int (i*j)) else none
 | _,_=>none
theorem zsK:OpD X cl (binaryOp .Mult) zjR:=by
 intro pins s σ H x y v u Q I rx ry h;obtain ⟨w,d,e,r,rfl,hx,hy,hg,q⟩:=h;unfold zjR at hg;split at hg
 ·rename_i i j;split at hg
  ·rename_i hz;cases hg;obtain rfl:=hx.intI;obtain rfl:=hy.intI;refine zsz pins s σ w.H _ _ v u Q I rx ry ⟨i,j,rfl,rfl,?_,q _ w (Grow.refl _) (.int _)⟩;rw [ycU] at hz;exact hz.imp (fun z=>yao z) fun z=>yao z
  ·cases hg
 ·cases hg
noncomputable def zod:D->D->Option D | .int i,.int j=>if 0<j then some (.int (i % j)) else none | _,_=>none
noncomputable def ztt:D->D->Option D | .int i,.int j=>if 0<j/\j<1073741824 then some (.int (i / j)) else none | _,_=>none
def zsL:OpD X cl (binaryOp .Mod) zod:=by
 intro pins s σ H x y v u Q I rx ry h;obtain ⟨w,d,e,r,rfl,hx,hy,hg,q⟩:=h;unfold zod at hg;split at hg
 ·rename_i i j;split at hg
  ·rename_i hz;cases hg;obtain rfl:=hx.intI;obtain rfl:=hy.intI;exact zsA pins s σ w.H _ _ v u Q I rx ry ⟨i,j,rfl,rfl,hz,q _ w (Grow.refl _) (.int _)⟩
  ·cases hg
 ·cases hg
def zsP:OpD X cl (binaryOp .FloorDiv) ztt:=by
 intro pins s σ H x y v u Q I rx ry h;obtain ⟨w,d,e,r,rfl,hx,hy,hg,q⟩:=h;unfold ztt at hg;split at hg
 ·rename_i i j;split at hg
  ·rename_i hz;cases hg;obtain rfl:=hx.intI;obtain rfl:=hy.intI;exact zpV pins s σ w.H _ _ v u Q I rx ry ⟨i,j,rfl,rfl,hz,q _ w (Grow.refl _) (.int _)⟩
  ·cases hg
 ·cases hg
noncomputable def zrb(p:Int->Int->Bool):D->D->Option D | .int i,.int j=>some (.bl (p i j)) | _,_=>none
def zfG(ho:OpR X (compareOp op) (rI0 fun i j=>.bl (p i j))):OpD X cl (compareOp op) (zrb p):=by
 intro pins s σ H x y v u Q I rx ry h;obtain ⟨w,d,e,r,rfl,hx,hy,hg,q⟩:=h;unfold zrb at hg;split at hg
 ·cases hg;rename_i i j;obtain rfl:=hx.intI;obtain rfl:=hy.intI;exact ho pins s σ w.H _ _ v u Q I rx ry ⟨i,j,rfl,rfl,q _ w (Grow.refl _) (.bl _)⟩
 ·cases hg
noncomputable def zva:D->D->Option D
 | .str a,.str b=>some (.bl (!decide (b.cps.toList<a.cps.toList)))
 | d,e=>zrb (fun i j=>decide (i<=j)) d e
def zsM:OpD X cl (compareOp .LtE) zva:=by
 intro pins s σ H x y v u Q I rx ry h;obtain ⟨w,d,e,r,rfl,hx,hy,hg,q⟩:=h;unfold zva at hg;split at hg
 ·cases hg;rename_i a b;obtain rfl:=hx.strI;obtain rfl:=hy.strI;exact zsB pins s σ w.H _ _ v u Q I rx ry ⟨a,b,rfl,rfl,q _ w (Grow.refl _) (.bl _)⟩
 ·exact zfG zu1 pins s σ w.H _ _ v u Q I rx ry ⟨w,_,_,r,rfl,hx,hy,hg,q⟩
noncomputable def zc3:D->Bool | .non=>true | _=>false
def zmb(d e:D):Option D:=if zc3 e then some (.bl (zc3 d)) else none
def zjo(d e:D):Option D:=if zc3 e then some (.bl (!zc3 d)) else none
def TopV.non_iff(h:TopV cl w v d):decide (v=.non)=zc3 d:=by
 cases h with
 | sh h=>cases h<;>simp [zc3]
 | ow e t=>cases t<;>simp [zc3]
def zez(h:zc3 d=true):d=.non:=by cases d<;>simp [zc3] at h;rfl
def zsN:OpD X cl (compareOp .Is) zmb:=by
 intro pins s σ H x y v u Q I rx ry h;obtain ⟨w,d,e,r,rfl,hx,hy,hg,q⟩:=h;unfold zmb at hg;split at hg
 ·rename_i hz;cases hg;rw [zez hz] at hy;obtain rfl:=hy.nonI;refine zsC pins s σ w.H _ _ v u Q I rx ry ⟨rfl,?_⟩;rw [hx.non_iff];exact q _ w (Grow.refl _) (.bl _)
 ·cases hg
def zp0:OpD X cl (compareOp .IsNot) zjo:=by
 intro pins s σ H x y v u Q I rx ry h;obtain ⟨w,d,e,r,rfl,hx,hy,hg,q⟩:=h;unfold zjo at hg;split at hg
 ·rename_i hz;cases hg;rw [zez hz] at hy;obtain rfl:=hy.nonI;refine zpU pins s σ w.H _ _ v u Q I rx ry ⟨rfl,?_⟩;rw [hx.non_iff];exact q _ w (Grow.refl _) (.bl _)
 ·cases hg
def ixD:D->D->Option D
 | .lst l,.int i=>atI l i
 | .tup l,.int i=>atI l i
 | .scr l,.int i=>(atI l i).map D.int
 | .dic ds,.str k=>if zau ds then zaB k ds else none
 | _,_=>none
def zh5(r:Shds cl w xs ds)(h:atI ds i=some d):∃v,atI xs i=some v/\Shd cl w v d:=by
 unfold atI at h ⊢;rw [r.length]
 cases e:ixN ds.length i with
 | none=>rw [e] at h;cases h
 | some j =>
  rw [e] at h;exact r.at h
def zqk(hu:X.A.units+64<cLine):IxR X fun x y H Q=>∃a z,x=.ref a/\zhS H a y (some z)/\Q z H:=by
 intro value slice pins s σ H x y v u Q I rx ry h hs;obtain ⟨a,z,rfl,g,q⟩:=h;cases rx;have hT:=zeN I g;unfold subscriptTail;refine yaa ?_;rw [getitemInPython_of_ne hT.not_modules];refine yaa (ycS hT PySem.F.slot_dict_getitem.lookup ?_)
 have fin:wpAny (model X.prog X.w) X.A (subscripted slice false (.ref a) u) (fun r s₃=>wpAny (model X.prog X.w) X.A (letTemporaryGo value (.ref a) r >>= fun _=>pure r) (EP X pins σ Q) X.xe s₃) X.xe s:=by
  rw [hs];exact wpAny_operating (zgX (by omega) I g ry fun w' s3 I3 rw'=>yaa (wpAny_letTemporaryGo (yad ⟨z,H,I3,rw',q⟩)))
 first
  | exact yad (yaa fin)
  | exact yaa (yad (yaa fin))
  | exact yaa fin
def zvp(hK:X.K=cl.K)(hu:X.A.units+64<cLine):IxD X cl ixD:=by
 intro value slice pins s σ H x y v u Q I rx ry h hsub;obtain ⟨w,d,e,r,rfl,hx,hy,hg,q⟩:=h;unfold ixD at hg;split at hg
 ·rename_i l i;obtain ⟨p,xs,rfl,ep,rs⟩:=hx.lstI;obtain rfl:=hy.intI;obtain ⟨z,e1,e2⟩:=zh5 rs hg;exact zlm value slice pins s σ w.H _ _ v u Q I rx ry ⟨p,xs,i,z,rfl,rfl,SqL.of ep,e1,q _ w (Grow.refl _) e2⟩ hsub
 ·rename_i l i;obtain ⟨p,xs,rfl,ep,_,rs⟩:=hx.tupI;obtain rfl:=hy.intI;obtain ⟨z,e1,e2⟩:=zh5 rs hg;exact ztd value slice pins s σ w.H _ _ v u Q I rx ry ⟨p,xs,i,z,rfl,rfl,SqT.of ep,e1,q _ w (Grow.refl _) e2⟩ hsub
 ·rename_i l i;obtain ⟨p,rfl,ep⟩:=hx.scrI hK;obtain rfl:=hy.intI
  cases hl:atI l i with
  | none=>rw [hl] at hg;cases hg
  | some k =>
   rw [hl] at hg;cases hg
   have e1:atI (l.map V.int) i=some (.int k):=by
    unfold atI at hl ⊢;rw [yae]
    cases e:ixN l.length i with
    | none=>rw [e] at hl;cases hl
    | some j =>
     rw [e] at hl;have hl':l[j]?=some k:=hl;show (l.map V.int)[j]?=_;rw [yaq,hl'];rfl
   exact zlm value slice pins s σ w.H _ _ v u Q I rx ry ⟨p,_,i,_,rfl,rfl,ep,e1,q _ w (Grow.refl _) (.int _)⟩ hsub
 ·rename_i ds k;split at hg
  ·rename_i ho;obtain ⟨a,kvs,rfl,ea,ra⟩:=hx.dicI;obtain rfl:=hy.strI
   rcases zb1 k ra ho with ⟨_,h2⟩ | ⟨z,d',h1,h2,h3⟩
   ·rw [h2] at hg;cases hg
   ·rw [h2] at hg;cases hg;exact zqk hu value slice pins s σ w.H _ _ v u Q I rx ry ⟨a,z,rfl,.inl ⟨kvs,.inr k,ea,rfl,h1.symm⟩,q _ w (Grow.refl _) h3⟩ hsub
  ·cases hg
 ·cases hg
def zdQ:List D->Option D
 | [.lst l]=>some (.int l.length)
 | [.tup l]=>some (.int l.length)
 | [.scr l]=>some (.int l.length)
 | [.str x]=>if zaE x.length then some (.int x.length) else none
 | _=>none
def ztC(hK:X.K=cl.K):zjP X cl (.builtin "len") zdQ:=by
 intro pins s σ H xs us Q I r h;obtain ⟨w,ds,d,rfl,hx,hg,q⟩:=h;unfold zdQ at hg;split at hg
 ·rename_i l;cases hg
  cases hx with
  | cons h1 h2 =>
   cases h2;obtain ⟨p,ys,rfl,ep,rs⟩:=h1.lstI;refine zbY pins s σ w.H _ us Q I r ⟨p,ys,rfl,.inl (SqL.of ep),?_⟩;rw [rs.length];exact q _ w (Grow.refl _) (.int _)
 ·rename_i l;cases hg
  cases hx with
  | cons h1 h2 =>
   cases h2;obtain ⟨p,ys,rfl,ep,_,rs⟩:=h1.tupI;refine zbY pins s σ w.H _ us Q I r ⟨p,ys,rfl,.inr (SqT.of ep),?_⟩;rw [rs.length];exact q _ w (Grow.refl _) (.int _)
 ·rename_i l;cases hg
  cases hx with
  | cons h1 h2 =>
   cases h2;obtain ⟨p,rfl,ep⟩:=h1.scrI hK;refine zbY pins s σ w.H _ us Q I r ⟨p,l.map V.int,rfl,.inl ep,?_⟩;rw [yae];exact q _ w (Grow.refl _) (.int _)
 ·rename_i x;split at hg
  ·rename_i hz;cases hg
   cases hx with
   | cons h1 h2 =>
    cases h2;obtain rfl:=h1.strI;exact zg2 pins s σ w.H _ us Q I r ⟨x,rfl,zaK hz,q _ w (Grow.refl _) (.int _)⟩
  ·cases hg
 ·cases hg
noncomputable def zdp:List D->Option D
 | [.lst l]=>some (.tup l)
 | [.tup l]=>some (.tup l)
 | _=>none
def znx:zjP X cl (.type "tuple") zdp:=by
 intro pins s σ H xs us Q I r h;obtain ⟨w,ds,d,rfl,hx,hg,q⟩:=h;unfold zdp at hg;split at hg
 ·rename_i l;cases hg
  cases hx with
  | cons h1 h2 =>
   cases h2;obtain ⟨p,ys,rfl,ep,rs⟩:=h1.lstI;exact zdI pins s σ w.H _ us Q I r ⟨p,ys,rfl,.inl ⟨SqL.of ep,fun l hl=>q _ (w.add l _) (zaq hl _) (Shd.newT hl rs)⟩⟩
 ·rename_i l;cases hg
  cases hx with
  | cons h1 h2 =>
   cases h2;obtain ⟨p,ys,rfl,ep,kp,rs⟩:=h1.tupI;exact zdI pins s σ w.H _ us Q I r ⟨p,ys,rfl,.inr ⟨SqT.of ep,q _ w (Grow.refl _) (.tup ep kp rs)⟩⟩
 ·cases hg
noncomputable def zjs:List D->Option D
 | [.lst l]=>some (.lst l)
 | [.tup l]=>some (.lst l)
 | _=>none
def zqK:zq2 X cl (.type "list") zjs:=by
 intro pins s σ H xs us Q I r h;obtain ⟨w,ds,d,rfl,hx,hg,q⟩:=h;unfold zjs at hg;split at hg
 ·rename_i l;cases hg
  cases hx with
  | cons h1 h2 =>
   cases h2;obtain ⟨p,ys,rfl,ep,rs⟩:=h1.lstI;exact zd7 pins s σ w.H _ us Q I r ⟨p,ys,rfl,.inl (SqL.of ep),fun l hl=>q _ _ w (Grow.refl _) hl (.lst rs)⟩
 ·rename_i l;cases hg
  cases hx with
  | cons h1 h2 =>
   cases h2;obtain ⟨p,ys,rfl,ep,_,rs⟩:=h1.tupI;exact zd7 pins s σ w.H _ us Q I r ⟨p,ys,rfl,.inr (SqT.of ep),fun l hl=>q _ _ w (Grow.refl _) hl (.lst rs)⟩
 ·cases hg
noncomputable def zea:List D->Option (List Bool)
 | []=>some []
 | .bl b::l=>(zea l).map (b::·)
 | _=>none
def znG:∀{xs:List V},Shds cl w xs ds->zea ds=some bs->xs=bs.map V.bl:=by
 induction ds generalizing bs with
 | nil=>intro xs r h;cases r;cases h;rfl
 | cons d ds ih =>
  intro xs r e
  cases r with
  | cons h t =>
   cases d with
   | bl b =>
    cases h;unfold zea at e
    cases hr:zea ds with
    | none=>rw [hr] at e;cases e
    | some cs=>rw [hr] at e;cases e;rw [ih t hr];rfl
   | _=>cases e
def ziV:List D->Option D
 | [.lst l]=>(zea l).map fun bs=>.bl (bs.all id)
 | _=>none
def ztD(hc:X.calm=true):zjP X cl (.builtin "all") ziV:=by
 intro pins s σ H xs us Q I r h;obtain ⟨w,ds,d,rfl,hx,hg,q⟩:=h;unfold ziV at hg;split at hg
 ·rename_i l
  cases hb:zea l with
  | none=>rw [hb] at hg;cases hg
  | some bs =>
   rw [hb] at hg;cases hg
   cases hx with
   | cons h1 h2 =>
    cases h2;obtain ⟨p,ys,rfl,ep,rs⟩:=h1.lstI;obtain rfl:=znG rs hb;exact zhO hc pins s σ w.H _ us Q I r ⟨p,bs,rfl,SqL.of ep,q _ w (Grow.refl _) (.bl _)⟩
 ·cases hg
noncomputable def zca:List D->Option (List Int)
 | []=>some []
 | .int b::l=>(zca l).map (b::·)
 | _=>none
def zgI:∀{xs:List V},Shds cl w xs ds->zca ds=some bs->xs=bs.map V.int:=by
 induction ds generalizing bs with
 | nil=>intro xs r h;cases r;cases h;rfl
 | cons d ds ih =>
  intro xs r e
  cases r with
  | cons h t =>
   cases d with
   | int b =>
    cases h;unfold zca at e
    cases hr:zca ds with
    | none=>rw [hr] at e;cases e
    | some cs=>rw [hr] at e;cases e;rw [ih t hr];rfl
   | _=>cases e
end
end S2
namespace L2
open PySem PySem.Spec PyProof.Rows
def Itk(a:Addr)(ob:Obj)(kvs:List (Key×V)):It:=⟨fun i H=>H a=some (.frz ob (.dK kvs))/\i<kvs.length,fun i H v H'=>H'=H/\∃x,(kvs.map (·.1))[i]?=some (.inr x)/\v=.str x,fun i H=>H a=some (.frz ob (.dK kvs))/\i=kvs.length⟩
def zqe{P:Program}{w:World}{x:Str}{v:Value}(h:(zav P w).is (.inr x) v=true):∃t,v=.str x t:=by
 have h':Value.isStrOf x v=true:=h
 cases v<;>first | (cases h';done) | skip
 rename_i y t
 have e:y=x:=by simpa [Value.isStrOf] using h'
 exact ⟨t,by rw [e]⟩
def zon{X:Cx}{pins:Z3}{σ:St}{H:Hp}{s:Shared}{a:Addr}{ob:Obj}{kvs:List (Key×V)}{es:Array DictEntry}{ep:Nat}(I:Inv X pins σ H s)(e:H a=some (.frz ob (.dK kvs)))(hd:ob.data=.dict es ep):∃vs,KV kvs vs/\s.heap.DictAt (zav X.prog X.w) a vs ep:=by
 obtain ⟨g,x⟩:=(show zaI X.prog X.w H s.heap a (.frz ob (.dK kvs)) from I.hok a _ e);obtain ⟨_,_,vs,r,o',es',ep',g',c,d,zbH⟩:=(show zaI X.prog X.w H s.heap a (.dK kvs) from x);rw [g] at g';cases g';rw [hd] at d;cases d;exact ⟨vs,r,ob,es,g,c,hd,zbH⟩
def zjY{P:Program}{w:World}{K:PySem.W.Frag}{tg:Expr}(it a:Addr)(ob:Obj)(kvs:List (Key×V))(es:Array DictEntry)(ep:Nat)(hd:ob.data=.dict es ep)(ks:List Str)(hks:kvs.map (·.1)=ks.map Sum.inr):Turn P w K tg (Itk a ob kvs) [it] it (fun i h=>h.IsKeyIter it a i kvs.length ep) where
 mem:=by simp
 obj:=fun i h st b hb=>by
  have e:b=it:=by simpa using hb
  subst e;obtain ⟨o,e,c,d⟩:=st;exact ⟨o,e,fun v z=>by rw [d] at z;cases z⟩
 keep:=fun i h h' st k=>by
  obtain ⟨o,e,r⟩:=st;exact ⟨o,k it (by simp) o e,r⟩
 item:=by
  intro X hP hw hK hc i pins s σ H E I hf st hg;subst hP hw hK;obtain ⟨f0,f1,f2,f3,f4,f5⟩:=hf it (by simp);obtain ⟨vs,r,da⟩:=zon I hg.1 hd
  have hne:a≠it:=fun z=>by have h1:H a=_:=hg.1;rw [z,f0] at h1;cases h1
  have st':s.heap.IsKeyIter it a i vs.length ep:=by rw [<-r.length];exact st
  refine (Walks.dictKeys (I.ok.hd hc) it a hne vs ep).item i s _ _ (by rw [<-r.length];exact hg.2) ⟨st',da⟩ fun v h' tk hv st2 kk=>?_
  obtain ⟨k,x,hx,hk⟩:=hv;have I1:Inv X pins σ H { s with heap:=h',toks:=tk }:=I.turned (fun b o hb e=>kk b o (by simpa using hb) e) f0 f1 f3 f4 f5
  have hki:(kvs.map (·.1))[i]?=some k:=by rw [r.keys,yaq,hx];rfl
  have hki':=hki;rw [hks,yaq] at hki';obtain ⟨y,hy,ek⟩:=yat.mp hki';subst ek;have st3:=st2.1;rw [<-r.length] at st3;obtain ⟨o,e,c',d⟩:=id st3;exact ⟨_,rfl,zlx (s:={ s with heap:=h',toks:=tk }) e c' d (by decide) ⟨.str y,H,I1,zqe hk,⟨rfl,y,hki,rfl⟩,st3,fun b hb=>(hf b hb).1⟩⟩
 done:=by
  intro X hP hw hK hc i pins s σ H E I hf st hg;subst hP hw hK;obtain ⟨f0,f1,f2,f3,f4,f5⟩:=hf it (by simp);obtain ⟨vs,r,da⟩:=zon I hg.1 hd
  have hne:a≠it:=fun z=>by have h1:H a=_:=hg.1;rw [z,f0] at h1;cases h1
  have hi:i=vs.length:=by rw [<-r.length];exact hg.2
  have st':s.heap.IsKeyIter it a vs.length vs.length ep:=by
   have:=st;rwa [r.length,hi] at this
  exact (Walks.dictKeys (I.ok.hd hc) it a hne vs ep).done s _ _ ⟨st',da⟩ fun h' tk kk=>⟨rfl,I.turned (fun b o hb e=>kk b o (by simpa using hb) e) f0 f1 f3 f4 f5⟩
 self:=fun A i s Q E st h=>wpAny_pyIter_keyiter st h
noncomputable def zys(tl:TE):TI:=fun σ H R=>tl σ H fun v H1=>∃a ob kvs,v=.ref a/\H1 a=some (.frz ob (.dK kvs))/\(∃ks:List Str,kvs.map (·.1)=ks.map Sum.inr)/\R (Itk a ob kvs) H1
def zpM{X:Cx}{tg l:Expr}{tl:TE}(hl:PE X l tl):PI X tg l (zys tl):=by
 intro pins s σ H R I h;refine thn (hl pins s σ H _ I h) fun v s1 ⟨x,H1,I1,r1,q1⟩=>?_
 obtain ⟨a,ob,kvs,e,ha,⟨ks,hks⟩,q⟩:=q1;subst e;cases r1;obtain ⟨g,x⟩:=(show zaI X.prog X.w H1 s1.heap a (.frz ob (.dK kvs)) from I1.hok a _ ha);obtain ⟨_,z,vs,r,o',es,ep,g',c,d,zbH⟩:=(show zaI X.prog X.w H1 s1.heap a (.dK kvs) from x)
 have eo:o'=ob:=by rw [g] at g';cases g';rfl
 subst eo;have da:s1.heap.DictAt (zav X.prog X.w) a vs ep:=⟨o',es,g,c,d,zbH⟩;refine wpAny_pyIter_dict z da ?_;refine ⟨s1.heap.objs.size,[s1.heap.objs.size],_,_,H1,rfl,I1.kept (t':=s1.toks) fun b o e=>yaf _ e,zjY _ a o' kvs es ep d ks hks,?_,fun b hb=>?_,q⟩
 ·rw [r.length];exact ⟨_,yal _ rfl,rfl,rfl⟩
 ·have e:b=s1.heap.objs.size:=by simpa using hb
  subst e;exact I1.fpOk (yah _) (I1.hok.fresh (yah _))
end L2
namespace S2
open PySem PySem.Spec PyProof.Rows L2
def zcM(g g':D->D->Option D)(f h k:Fe):Fe:=fun ρ S=>(f ρ S).bind fun a S1=>(h ρ S1).bind fun b S2=>match (g a b).bind isB with
 | some true=>(k ρ S2).bind fun c S3=>Out.of (g' b c) S3
 | some false=>.ok (.bl false) S2
 | none=>.bad
section
variable{X:Cx}{cl:Cf}{E:St->XK}{a b c e:Expr}{f h k:Fe}{pos:Pos}
def zh0(hr:∀x y H Q,(∃w d e r,w.H=H/\TopV cl w x d/\TopV cl w y e/\g d e=some r/\∀v w',Grow w w'->Shd cl w' v r->Q v w'.H)->r x y H Q)
  (hr':∀x y H Q,(∃w d e r,w.H=H/\TopV cl w x d/\TopV cl w y e/\g' d e=some r/\∀v w',Grow w w'->Shd cl w' v r->Q v w'.H)->r' x y H Q) (q:tE cl E (zcM g g' f h k) σ H Q):zke r r' (tH cl E f) (tH cl E h) (tH cl E k) σ H Q:=by
 obtain ⟨B,w,ρ,S,rfl,R,q⟩:=q;refine ⟨B,w,ρ,S,rfl,R,?_⟩;unfold zcM at q
 cases hf:f ρ S with
 | bad=>rwa [hf] at q
 | exc c S1=>rwa [hf] at q
 | ok d S1 =>
  rw [hf] at q;intro v w1 R1 F1 h1;refine ⟨B,w1,ρ,S1,rfl,R1,?_⟩;dsimp only [Out.bind] at q
  cases hh:h ρ S1 with
  | bad=>rwa [hh] at q
  | exc c S2=>rw [hh] at q;exact fun w2 R2 F2=>q w2 R2 (F1.trans F2)
  | ok e S2 =>
   rw [hh] at q;intro y w2 R2 F2 h2;dsimp only at q
   cases hg:g d e with
   | none=>rw [hg] at q;exact q.elim
   | some z =>
    rw [hg] at q;dsimp only [Option.bind] at q
    cases hb:isB z with
    | none=>rw [hb] at q;exact q.elim
    | some bb =>
     rw [hb] at q;rw [zcX hb] at hg;refine hr _ _ _ _ ⟨w2,d,e,_,rfl,(h1.up F2).top R2,h2.top R2,hg,fun v' w3 gr sh=>⟨bb,zgl sh,?_⟩⟩;have R3:=R2.grow gr
     cases bb with
     | false=>exact zoi (q _ w3 R3 (F1.trans (F2.trans gr.fut)) (.bl _))
     | true =>
      refine zoh ⟨B,w3,ρ,S2,rfl,R3,?_⟩;dsimp only at q
      cases hk:k ρ S2 with
      | bad=>rwa [hk] at q
      | exc c S3=>rw [hk] at q;exact fun w4 R4 F4=>q w4 R4 (F1.trans (F2.trans (gr.fut.trans F4)))
      | ok c S3 =>
       rw [hk] at q;intro z' w4 R4 F4 h4;dsimp only at q
       cases hg':g' e c with
       | none=>rw [hg'] at q;exact q.elim
       | some r2 =>
        rw [hg'] at q;exact hr' _ _ _ _ ⟨w4,e,c,r2,rfl,(h2.up (gr.fut.trans F4)).top R4,h4.top R4,hg',fun v' w5 gr5 sh5=>q v' w5 (R4.grow gr5) (F1.trans (F2.trans (gr.fut.trans (F4.trans gr5.fut)))) sh5⟩
def zmp(ho:OpD X cl (compareOp op) g)(ho':OpD X cl (compareOp op') g')(ha:PE X a (tH cl E f))(hb:PE X b (tH cl E h))(hc:PE X c (tH cl E k))(hm:lastMarks [op,op'] [b,c]=false):PE X (.Compare a [op,op'] [b,c] pos) (tE cl E (zcM g g' f h k)) :=
 PE.imp (zmN ho ho' ha hb hc hm) fun _ _ _ q=>zh0 (fun _ _ _ _ z=>z) (fun _ _ _ _ z=>z) q
def zmk(ho:OpD X cl (compareOp op) g)(ho':OpD X cl (compareOp op') g')(ha:PE X a (tH cl E f))(hb:PE X b (tH cl E h))(hc:PE X c (tH cl E k))(hm:lastMarks [op,op'] [b,c]=false):PT X (.Compare a [op,op'] [b,c] pos) (tTr cl E (zcM g g' f h k)) :=
 PT.imp (zmB ho ho' ha hb hc hm) fun _ _ _ q=>zh0 (fun _ _ _ _ z=>z) (fun _ _ _ _ z=>z) (zgb q)
def znu{α:Type}(l:List α)(lo hi:Option Int):List α:=(l.drop (HT.sIx l.length 0 lo)).take (HT.sIx l.length l.length hi-HT.sIx l.length 0 lo)
def slD(d:D)(lo hi:Option Int):Option D:=match d with
 | .lst l=>some (.lst (znu l lo hi))
 | .tup l=>some (.tup (znu l lo hi))
 | _=>none
def zcL(o:Option Fe)(ρ:Env)(S:Sto):Out (Option Int):=match o with
 | none=>.ok none S
 | some f=>(f ρ S).bind fun d S1=>match d with | .int i=>.ok (some i) S1 | _=>.bad
def eSl(f:Fe)(lo hi:Option Fe):Fe:=fun ρ S=>(f ρ S).bind fun d S1=>(zcL lo ρ S1).bind fun l S2=>(zcL hi ρ S2).bind fun u S3=>Out.of (slD d l u) S3
def zgZ(r:Shds cl w xs ds)(lo hi:Option Int):Shds cl w (zou xs lo hi) (znu ds lo hi):=by
 unfold zou znu;rw [r.length];exact (r.drop _).take _
noncomputable def SlD(X:Cx)(cl:Cf):Prop:=SlR X fun x lo hi H Q=>∃w d r,w.H=H/\TopV cl w x d/\slD d lo hi=some r/\∀v w',Grow w w'->Shd cl w' v r->Q v w'.H
def zuL:SlD X cl:=by
 intro pins s σ H x v vl vu lo hi sl Q I rx hs pl pu h;obtain ⟨w,d,r,rfl,hx,hg,q⟩:=h;unfold slD at hg;split at hg
 ·rename_i l;cases hg;obtain ⟨p,xs,rfl,ep,rs⟩:=hx.lstI;exact zpc pins s σ w.H _ v vl vu lo hi sl Q I rx hs pl pu ⟨p,xs,rfl,SqL.of ep,fun p' hp=>q _ (w.add p' _) (zaq hp _) (Shd.newL hp (zgZ rs lo hi))⟩
 ·rename_i l;cases hg;obtain ⟨p,xs,rfl,ep,kp,rs⟩:=hx.tupI
  by_cases hw:HT.sIx xs.length 0 lo=0/\HT.sIx xs.length xs.length hi=xs.length
  ·refine zi6 pins s σ w.H _ v vl vu lo hi sl Q I rx hs pl pu ⟨p,xs,rfl,SqT.of ep,hw.1,hw.2,q _ w (Grow.refl _) (.tup ep kp ?_)⟩
   have:znu l lo hi=l:=by
    unfold znu;rw [<-rs.length,hw.1,hw.2,List.drop_zero,Nat.sub_zero,ybF (by rw [rs.length];exact yah _)]
   rw [this];exact rs
  ·exact zrE pins s σ w.H _ v vl vu lo hi sl Q I rx hs pl pu ⟨p,xs,rfl,SqT.of ep,hw,fun p' hp=>q _ (w.add p' _) (zaq hp _) (Shd.newT hp (zgZ rs lo hi))⟩
 ·cases hg
noncomputable def ztU(cl:Cf)(E:St->XK)(o:Option Fe):TO:=match o with | none=>zkc | some f=>zri (tH cl E f)
def zrP{lo hi:Option Expr}{fl fh:Option Fe}{p2:Pos}(he:PE X e (tH cl E f))(hl:PO X lo (ztU cl E fl))(hu:PO X hi (ztU cl E fh)):PE X (.Subscript e (.Slice lo hi none p2) pos) (tE cl E (eSl f fl fh)):=by
 refine PE.imp (zmG (zuL (cl:=cl)) he hl hu) ?_;rintro σ H Q ⟨B,w,ρ,S,rfl,R,q⟩;refine ⟨B,w,ρ,S,rfl,R,?_⟩;unfold eSl at q
 cases hf:f ρ S with
 | bad=>rwa [hf] at q
 | exc c S1=>rwa [hf] at q
 | ok d S1 =>
  rw [hf] at q;intro v w1 R1 F1 h1;dsimp only [Out.bind] at q
  have last:∀(l u:Option Int) (w3:Wd) (S3:Sto),Rel cl B σ w3 ρ S3->Fut w1 w3->(match Out.of (slD d l u) S3 with
    | .ok d S'=>∀v w',Rel cl B σ w' ρ S'->Fut w w'->Shd cl w' v d->Q v w'.H
    | .exc c S'=>∀w',Rel cl B σ w' ρ S'->Fut w w'->E σ (.ref (cl c)) none w'.H
    | .bad=>False)->∃w d r,w.H=w3.H/\TopV cl w v d/\slD d l u=some r/\∀v w',Grow w w'->Shd cl w' v r->Q v w'.H:=by
   intro l u w3 S3 R3 F3 q3
   cases hg:slD d l u with
   | none=>rw [hg] at q3;exact q3.elim
   | some r =>
    rw [hg] at q3;exact ⟨w3,d,r,rfl,(h1.up F3).top R3,hg,fun v' w' gr sh=>q3 v' w' (R3.grow gr) (F1.trans (F3.trans gr.fut)) sh⟩
  have second:∀(l:Option Int) (w2:Wd) (S2:Sto),Rel cl B σ w2 ρ S2->Fut w1 w2->(match (zcL fh ρ S2).bind fun u S3=>Out.of (slD d l u) S3 with
    | .ok d S'=>∀v w',Rel cl B σ w' ρ S'->Fut w w'->Shd cl w' v d->Q v w'.H
    | .exc c S'=>∀w',Rel cl B σ w' ρ S'->Fut w w'->E σ (.ref (cl c)) none w'.H
    | .bad=>False)->ztU cl E fh σ w2.H fun u H3=>∃w d r,w.H=H3/\TopV cl w v d/\slD d l u=some r/\∀v w',Grow w w'->Shd cl w' v r->Q v w'.H:=by
   intro l w2 S2 R2 F2 q2
   cases fh with
   | none=>exact last l none w2 S2 R2 F2 q2
   | some fh =>
    refine ⟨B,w2,ρ,S2,rfl,R2,?_⟩;unfold zcL at q2;dsimp only at q2
    cases hh:fh ρ S2 with
    | bad=>rwa [hh] at q2
    | exc c S3=>rw [hh] at q2;exact fun w3 R3 F3=>q2 w3 R3 (F1.trans (F2.trans F3))
    | ok dh S3 =>
     rw [hh] at q2;intro y w3 R3 F3 h3;dsimp only [Out.bind] at q2
     cases dh with
     | int i =>
      refine ⟨i,(h3.top R3).intI,?_⟩;exact last l (some i) w3 S3 R3 (F2.trans F3) q2
     | _=>exact q2.elim
  cases fl with
  | none=>exact second none w1 S1 R1 (Fut.refl _) q
  | some fl =>
   refine ⟨B,w1,ρ,S1,rfl,R1,?_⟩;unfold zcL at q;dsimp only at q
   cases hh:fl ρ S1 with
   | bad=>rwa [hh] at q
   | exc c S3=>rw [hh] at q;exact fun w3 R3 F3=>q w3 R3 (F1.trans F3)
   | ok dl S2 =>
    rw [hh] at q;intro y w2 R2 F2 h2;dsimp only [Out.bind] at q
    cases dl with
    | int i =>
     refine ⟨i,(h2.top R2).intI,?_⟩;exact second (some i) w2 S2 R2 F2 q
    | _=>exact q.elim
noncomputable def zcu(T:String)(d:D):Option D :=
 if T = "int" then (match d with | .int _=>some (.bl true) | .bl _=>some (.bl true) | .non=>some (.bl false) | .str _=>some (.bl false) | .tup _=>some (.bl false) | .lst _=>some (.bl false) | _=>none)
 else if T = "bool" then (match d with | .int _=>some (.bl false) | .bl _=>some (.bl true) | .non=>some (.bl false) | .str _=>some (.bl false) | .tup _=>some (.bl false) | .lst _=>some (.bl false) | _=>none)
 else if T = "tuple" then (match d with | .int _=>some (.bl false) | .bl _=>some (.bl false) | .non=>some (.bl false) | .str _=>some (.bl false) | .tup _=>some (.bl true) | .lst _=>some (.bl false) | _=>none)
 else if T = "str" then (match d with | .int _=>some (.bl false) | .bl _=>some (.bl false) | .non=>some (.bl false) | .str _=>some (.bl true) | .tup _=>some (.bl false) | .lst _=>some (.bl false) | _=>none)
 else if T = "list" then (match d with | .int _=>some (.bl false) | .bl _=>some (.bl false) | .non=>some (.bl false) | .str _=>some (.bl false) | .tup _=>some (.bl false) | .lst _=>some (.bl true) | _=>none)
 else none
def zcY{K:PySem.W.Frag}{t:Value}{r:D}{T:String}{b1 b2 b3 b4 b5:Bool}(hg:(if T = "int" then some (D.bl b1) else if T = "bool" then some (.bl b2) else if T = "tuple" then some (.bl b3) else if T = "str" then some (.bl b4) else if T = "list" then some (.bl b5) else none)=some r)(k1:PySem.W.kitOne K t (.type "int")=some b1)(k2:PySem.W.kitOne K t (.type "bool")=some b2)(k3:PySem.W.kitOne K t (.type "tuple")=some b3)(k4:PySem.W.kitOne K t (.type "str")=some b4)(k5:PySem.W.kitOne K t (.type "list")=some b5):∃b,PySem.W.kitOne K t (.type T)=some b/\r=.bl b:=by
 split at hg
 ·rename_i e;cases hg;exact ⟨b1,by rw [e];exact k1,rfl⟩
 split at hg
 ·rename_i e;cases hg;exact ⟨b2,by rw [e];exact k2,rfl⟩
 split at hg
 ·rename_i e;cases hg;exact ⟨b3,by rw [e];exact k3,rfl⟩
 split at hg
 ·rename_i e;cases hg;exact ⟨b4,by rw [e];exact k4,rfl⟩
 split at hg
 ·rename_i e;cases hg;exact ⟨b5,by rw [e];exact k5,rfl⟩
 ·cases hg
def zqr{r:D}{T:String}(hg:(if T = "int" then none else if T = "bool" then none else if T = "tuple" then none else if T = "str" then none else if T = "list" then none else none)=some r):False:=by
 simp at hg
def zqq{K:PySem.W.Frag}{w:Wd}(h:TopV cl w v d)(hg:zcu T d=some r):∃t b,TyOf K w.H v t/\PySem.W.kitOne K t (.type T)=some b/\r=.bl b:=by
 cases d with
 | int i=>obtain rfl:=h.intI;obtain ⟨b,h1,h2⟩:=zcY (K:=K) (t:=.type "int") hg (by with_unfolding_all rfl) (by with_unfolding_all rfl) (by with_unfolding_all rfl) (by with_unfolding_all rfl) (by with_unfolding_all rfl);exact ⟨_,b,.int _,h1,h2⟩
 | bl i=>obtain rfl:=h.blI;obtain ⟨b,h1,h2⟩:=zcY (K:=K) (t:=.type "bool") hg (by with_unfolding_all rfl) (by with_unfolding_all rfl) (by with_unfolding_all rfl) (by with_unfolding_all rfl) (by with_unfolding_all rfl);exact ⟨_,b,.bl _,h1,h2⟩
 | non=>obtain rfl:=h.nonI;obtain ⟨b,h1,h2⟩:=zcY (K:=K) (t:=.type "NoneType") hg (by with_unfolding_all rfl) (by with_unfolding_all rfl) (by with_unfolding_all rfl) (by with_unfolding_all rfl) (by with_unfolding_all rfl);exact ⟨_,b,.non,h1,h2⟩
 | str i=>obtain rfl:=h.strI;obtain ⟨b,h1,h2⟩:=zcY (K:=K) (t:=.type "str") hg (by with_unfolding_all rfl) (by with_unfolding_all rfl) (by with_unfolding_all rfl) (by with_unfolding_all rfl) (by with_unfolding_all rfl);exact ⟨_,b,.str _,h1,h2⟩
 | tup i=>obtain ⟨_,_,rfl,e,_⟩:=h.tupI;obtain ⟨b,h1,h2⟩:=zcY (K:=K) (t:=.type "tuple") hg (by with_unfolding_all rfl) (by with_unfolding_all rfl) (by with_unfolding_all rfl) (by with_unfolding_all rfl) (by with_unfolding_all rfl);exact ⟨_,b,.tup e,h1,h2⟩
 | lst i=>obtain ⟨_,_,rfl,e,_⟩:=h.lstI;obtain ⟨b,h1,h2⟩:=zcY (K:=K) (t:=.type "list") hg (by with_unfolding_all rfl) (by with_unfolding_all rfl) (by with_unfolding_all rfl) (by with_unfolding_all rfl) (by with_unfolding_all rfl);exact ⟨_,b,.lst e,h1,h2⟩
 | _=>exact (zqr hg).elim
theorem zg4:bootBuiltins "isinstance" = some (.builtin "isinstance"):=by decide +kernel
def zpo(hg:Gl X "isinstance")(hm:X.mg "isinstance" = none)(hgT:Gl X x)(hmT:X.mg x=none)(hvT:bootBuiltins x=some (.type T))(hn:x ≠ "__name__")(hdb:(x == ("__debug__":Str))=false)(hp:zbi e=true)(he:PE X e (tH cl E f)) :
  PE X (.Call (.Name "isinstance" p) [e,.Name x p2] [] pos) (tE cl E (eUn (zcu T) f)):=by
 refine PE.imp (zcg zhN hg hm zg4 (zaF he (zaF (zk0 (v:=.ty T) hgT hmT hvT rfl hn hdb) zbx rfl) (zaO hp)) (he:=zaO hp) (hpl:=rfl)) ?_;rintro σ H Q ⟨B,w,ρ,S,rfl,R,q⟩;refine ⟨B,w,ρ,S,rfl,R,?_⟩;unfold eUn at q
 cases hf:f ρ S with
 | bad=>rwa [hf] at q
 | exc c S1=>rwa [hf] at q
 | ok d S1 =>
  rw [hf] at q;intro v w1 R1 F1 h1;dsimp only [Out.bind] at q
  cases hg:zcu T d with
  | none=>rw [hg] at q;exact q.elim
  | some r =>
   rw [hg] at q;obtain ⟨t,b,h2,h3,rfl⟩:=zqq (K:=X.K) (h1.top R1) hg;exact ⟨v,t,T,b,rfl,h2,h3,q _ w1 R1 F1 (.bl _)⟩
noncomputable def znU(x:Str):List D:=x.cps.toList.map fun c=>D.str ⟨#[c]⟩
def zhG(f:Fe):Fi:=fun ρ S=>(f ρ S).bind fun d S1=>match d with | .str x=>.ok (znU x) S1 | _=>.bad
def zrH{tg:Expr}(he:PE X e (tE cl E f)):PI X tg e (tI cl E (zhG f)):=by
 refine PI.imp (zsl he) ?_;rintro σ H Q ⟨B,w,ρ,S,rfl,R,q⟩;refine ⟨B,w,ρ,S,rfl,R,?_⟩;unfold zhG at q
 cases hf:f ρ S with
 | bad=>rwa [hf] at q
 | exc c S1=>rwa [hf] at q
 | ok d S1 =>
  rw [hf] at q;intro v w' R' F' h';dsimp only [Out.bind] at q
  cases h' with
  | str x =>
   refine ⟨x,rfl,q _ w' R' F' ?_⟩
   have hl:(znU x).length=x.cps.size:=by simp [znU]
   refine ⟨fun w1 F1 i hi=>?_,fun w1 F1=>?_,fun w1 F1 i d v H1 hd y=>?_⟩
   ·show i<x.cps.size;rw [<-hl];exact hi
   ·exact hl
   ·obtain ⟨rfl,c,hc,rfl⟩:=y;refine ⟨w1,rfl,Grow.refl _,?_⟩
    have e:(znU x)[i]?=some (.str ⟨#[c]⟩):=by
     unfold znU;rw [yaq,yaM,hc];rfl
    rw [hd] at e;cases e;exact .str _
  | _=>exact q.elim
def zhF(f:Fe):Fi:=fun ρ S=>(f ρ S).bind fun d S1=>match d with | .dic ds=>if zau ds then .ok ((zd9 ds).map D.str) S1 else .bad | _=>.bad
def zrJ{tg:Expr}(he:PE X e (tE cl E f)):PI X tg e (tI cl E (zhF f)):=by
 refine PI.imp (zpM he) ?_;rintro σ H Q ⟨B,w,ρ,S,rfl,R,q⟩;refine ⟨B,w,ρ,S,rfl,R,?_⟩;unfold zhF at q
 cases hf:f ρ S with
 | bad=>rwa [hf] at q
 | exc c S1=>rwa [hf] at q
 | ok d S1 =>
  rw [hf] at q;intro v w' R' F' h';dsimp only [Out.bind] at q
  cases h' with
  | dicK ea ka ra =>
   rename_i ob kvs ds
   by_cases ho:zau ds=true
   ·dsimp only at q;rw [if_pos ho] at q;obtain ⟨h1,h2⟩:=zfJ ra ho
    have hl:kvs.length=((zd9 ds).map D.str).length:=by rw [yae,h2,ra.length]
    refine ⟨_,ob,kvs,rfl,ea,⟨_,h1⟩,q _ w' R' F' ⟨fun w1 F1 i hi=>⟨(F1.keep _ _ ea ka).1,by rw [hl];exact hi⟩,fun w1 F1=>⟨(F1.keep _ _ ea ka).1,hl.symm⟩,fun w1 F1 i d v H1 hd y=>?_⟩⟩;obtain ⟨rfl,x,hx,rfl⟩:=y;rw [h1,yaq] at hx;obtain ⟨z,hz,ez⟩:=yat.mp hx;cases ez;rw [yaq,hz] at hd;cases hd;exact ⟨w1,rfl,Grow.refl _,.str _⟩
   ·dsimp only at q;rw [if_neg ho] at q;exact q.elim
  | _=>exact q.elim
def zaH(f:Fe):Fi:=fun ρ S=>(f ρ S).bind fun d S1=>match d with | .str x=>.ok (znU x) S1 | .lst l=>.ok l S1 | .tup l=>.ok l S1 | .dic ds=>if zau ds then .ok ((zd9 ds).map D.str) S1 else .bad | _=>.bad
def zrK(hK:X.K=cl.K)(he:PE X e (tE cl E f)):PI X tg e (tI cl E (zaH f)):=by
 intro pins s σ H R' I q;obtain ⟨B,w,ρ,S,rfl,R,q⟩:=q;unfold zaH at q
 cases hf:f ρ S with
 | bad=>rw [hf] at q;exact q.elim
 | exc c S1 =>
  refine zkl he pins s σ w.H R' I ⟨B,w,ρ,S,rfl,R,?_⟩;unfold ziM;rw [hf] at q ⊢;exact q
 | ok d S1 =>
  rw [hf] at q;dsimp only [Out.bind] at q
  cases d with
  | lst l =>
   refine zkl he pins s σ w.H R' I ⟨B,w,ρ,S,rfl,R,?_⟩;unfold ziM;rw [hf];exact q
  | tup l =>
   refine zrG he pins s σ w.H R' I ⟨B,w,ρ,S,rfl,R,?_⟩;unfold zhE;rw [hf];exact q
  | str x =>
   refine zrH he pins s σ w.H R' I ⟨B,w,ρ,S,rfl,R,?_⟩;unfold zhG;rw [hf];exact q
  | dic ds =>
   refine zrJ he pins s σ w.H R' I ⟨B,w,ρ,S,rfl,R,?_⟩;unfold zhF;rw [hf];exact q
  | _=>exact q.elim
end
end S2
namespace L2
open PySem PySem.Spec PyProof.Rows
noncomputable abbrev IsT(h:Heap)(T:Addr)(os:List Value):Prop:=h.get? T=some { cls:=.type "tuple",data:=.seq os.toArray }
noncomputable abbrev Stops(h:Heap)(e:Addr):Prop:=∃o,h.get? e=some o/\o.cls=.type "StopIteration"
structure ZSt(a l m i:Nat)(f:Value)(h:Heap):Prop where
 z:IsZip h (a+4) (a+2) (a+3) f
 ti:IsT h (a+2) [.ref a,.ref (a+1)]
 to:∃x y,IsT h (a+3) [x,y]
 i1:h.IsTupleIter a l i
 i2:h.IsTupleIter (a+1) m i
section
variable{prog:Program}{w:World}{A:Around}{E:Z5}{s:Shared}{a l m k:Nat}{us vs:Array Value}
def zhW{h h':Heap}{t:Addr}(p:h.IsTuple t vs)(q:∀o,h.get? t=some o->h'.get? t=some o):h'.IsTuple t vs:=by
 obtain ⟨o,ho,r⟩:=p;exact ⟨o,q o ho,r⟩
theorem zoB{β:Type}{f:Value×Nat->β->Sem (ForInStep β)}{b:β}{Q:β->Shared->Prop}{x0 y0:Value}
  (hf:∀(c l n:Nat) (vs:Array Value) (os:List Value) (s:Shared) (Q:ForInStep β->Shared->Prop),l<c->c<a+3->os.length=2->IsZip s.heap (a+4) (a+2) (a+3) .ellipsis->IsT s.heap (a+3) os->s.heap.IsTupleIter c l k->s.heap.IsTuple l vs->k<=vs.size →
   (∀x h' tk,vs[k]?=some x->IsT h' (a+3) (os.set n x)->h'.IsTupleIter c l (k+1)->h'.objs.size=s.heap.objs.size->(∀(d:Nat) (o:Obj),d≠a+3->d≠c->s.heap.get? d=some o->h'.get? d=some o)->Q (.yield b) { s with heap:=h',toks:=tk }) →
   (k=vs.size->∀h' e tk,(∀(d:Nat) (o:Obj),d≠a+4->d≠c->s.heap.get? d=some o->h'.get? d=some o)->Stops h' e->E (.ref e) { s with heap:=h',toks:=tk })->wpAny (model prog w) A (f (.ref c,n) b) Q E s)
  (hl:l<a) (hm:m<a) (hz:IsZip s.heap (a+4) (a+2) (a+3) .ellipsis) (hO:IsT s.heap (a+3) [x0,y0]) (h1:s.heap.IsTupleIter a l k) (h2:s.heap.IsTupleIter (a+1) m k) (hu:s.heap.IsTuple l us) (hv:s.heap.IsTuple m vs) (hk:k<=us.size) (hk2:k<=vs.size)
  (hQ:∀x y h' tk,us[k]?=some x->vs[k]?=some y->IsT h' (a+3) [x,y]->h'.IsTupleIter a l (k+1)->h'.IsTupleIter (a+1) m (k+1)->h'.objs.size=s.heap.objs.size->(∀(d:Nat) (o:Obj),d≠a->d≠a+1->d≠a+3->s.heap.get? d=some o->h'.get? d=some o)->Q b { s with heap:=h',toks:=tk })
  (hE:(k=us.size\/k=vs.size)->∀h' e tk,(∀(d:Nat) (o:Obj),(d<a\/a+4<d)->s.heap.get? d=some o->h'.get? d=some o)->Stops h' e->E (.ref e) { s with heap:=h',toks:=tk }) :
  wpAny (model prog w) A (forIn [((.ref a:Value),0),(.ref (a+1),1)] b f) Q E s:=by
 rw [yb0];refine yaa (hf a l 0 us _ s _ hl (by omega) rfl hz hO h1 hu hk (fun x g tk hx hO1 hI1 hs1 k1=>?_) (fun e h' e' tk k1=>hE (.inl e) h' e' tk fun d o p q=>k1 d o (by omega) (by omega) q));show wpAny _ _ (forIn [((.ref (a+1):Value),1)] b f) _ _ _;rw [yb0];refine yaa (hf (a+1) m 1 vs _ _ _ (by omega) (by omega) rfl (k1 _ _ (by omega) (by omega) hz) hO1 (h2.at fun o e=>k1 _ o (by omega) (by omega) e) (zhW hv fun o e=>k1 _ o (by omega) (by omega) e) hk2 (fun y g2 tk2 hy hO2 hI2 hs2 k2=>?_) (fun e h' e' tk' k2=>hE (.inr e) h' e' tk' fun d o p q=>k2 d o (by omega) (by omega) (k1 d o (by omega) (by omega) q)));exact yad (hQ x y g2 tk2 hx hy hO2 (hI1.at fun o e=>k2 _ o (by omega) (by omega) e) hI2 (hs2.trans hs1) fun d o p1 p2 p3 e=>k2 d o p3 p2 (k1 d o p3 p1 e))
theorem zhT{Q:Z5}(hh:A.handled=none)(Z:ZSt a l m k .none s.heap)(hl:l<a)(hm:m<a)(hu:s.heap.IsTuple l us)(hv:s.heap.IsTuple m vs)(hk:k<=us.size)(hk2:k<=vs.size)
  (hQ:∀x y h' tk,us[k]?=some x->vs[k]?=some y->ZSt a l m (k+1) (rawInt s.heap.objs.size) h'->IsT h' s.heap.objs.size [x,y]->(∀(c:Nat) (o:Obj),(c<a\/a+4<c)->s.heap.get? c=some o->h'.get? c=some o)->Q (.ref s.heap.objs.size) { s with heap:=h',toks:=tk })
  (hE:(k=us.size\/k=vs.size)->∀h' e tk,(∀(c:Nat) (o:Obj),(c<a\/a+4<c)->s.heap.get? c=some o->h'.get? c=some o)->Stops h' e->E (.ref e) { s with heap:=h',toks:=tk }) :
  wpAny (model prog w) A (Builtin.«zip.__next__» ⟨[.ref (a+4)],[]⟩) (fun fin s'=>∃v,fin=.done (.ret v)/\Q v s') E s:=by
 obtain ⟨hz,hI,⟨x0,y0,hO⟩,h1,h2⟩:=Z;show wpAny _ _ (field (.ref (a+4)) 2 >>= _) _ _ _;refine yaa (ybL hz rfl (x:=.bool false) rfl ?_);show wpAny _ _ (field (.ref (a+4)) 3 >>= _) _ _ _;refine yaa (ybL hz rfl (x:=.ref (a+2)) rfl ?_);refine yaa (ybq hI rfl ?_);show wpAny _ _ (Builtin.SmallTypes.ownedTupleIsFree (.ref (a+4)) >>= _) _ _ _;refine yaa ?_;unfold Builtin.SmallTypes.ownedTupleIsFree;refine yaa (ybL hz rfl (x:=.none) rfl (yad ?_));simp only [ybU];refine yaa (yc3 ?_);refine yaa (ybL hz rfl (x:=.ref (a+3)) rfl ?_);refine yaa (yco hz (by simp) fun g hz₁ hs₁=>?_);replace hz₁:IsZip g (a+4) (a+2) (a+3) .ellipsis:=hz₁;have k₁:∀(c:Nat) (o:Obj),c≠a+4->s.heap.get? c=some o->g.get? c=some o:=fun c o hc e=>hs₁.extBut _ _ hc e
 refine yaa (zoB (a:=a) (l:=l) (m:=m) (k:=k) (us:=us) (vs:=vs) (fun c l n vs os s Q hc hb ho hz hO hI hv hk hx he=>?_) hl hm hz₁ (k₁ _ _ (by omega) hO) (h1.at fun o e=>k₁ _ o (by omega) e) (h2.at fun o e=>k₁ _ o (by omega) e) (zhW hu fun o e=>k₁ _ o (by omega) e) (zhW hv fun o e=>k₁ _ o (by omega) e) hk hk2 (fun x y h₂ tk hx hy hO₂ i1 i2 hs₂ k₂=>?_) (fun e h' e' tk k'=>hE e h' e' tk fun c o hc q=>k' c o hc (k₁ c o (by omega) q)))
 ·have D:=zlH (prog:=prog) (w:=w) hh c l (yas hc) vs;refine yaa (wpAny_onRaise ?_);show wpAny _ _ (Builtin.SmallTypes.nextOf (.ref c) >>= _) _ _ _
  rcases Nat.lt_or_eq_of_le hk with hlt | rfl
  ·refine yaa (D.item k _ _ _ hlt ⟨hI,hv⟩ fun x h₂ tk₂ px hI₂ hs₂=>yad ?_);have hO₂:IsT h₂ (a+3) os:=hs₂.extBut _ _ (yaT hb) hO;refine yaa (ybq hO₂ rfl ?_)
   have h9:os.length<=9:=by omega
   refine yaa (wpAny_updateSeq hO₂ rfl ?_ (by simp;exact yam h9 (by decide)) (by simp;exact yam h9 (by decide)));have hs₃:=Heap.SameBut.update h₂ (a+3) (Obj.mapSeq (·.setIfInBounds n x));refine yaa (wpAny_letGo (yad (hx x _ tk₂ px ?_ (hI₂.1.at fun o e=>hs₃.extBut _ _ (yas hb) e) (hs₃.1.trans hs₂.1) fun d o c1 c2 e=>hs₃.extBut _ _ c1 (hs₂.extBut _ _ c2 e))));show Heap.get? _ (a+3)=_;rw [ybs _ hO₂ rfl];simp [Obj.mapSeq]
  ·refine yaa (D.done _ _ _ ⟨hI,hv⟩ fun h₂ e hs₂ hs=>?_);obtain ⟨oe,hoe,hce⟩:=hs;have hz₂:=hs₂ _ _ (show a+4≠c by omega) hz
   have hez:e≠a+4:=fun x=>by subst x;rw [hz₂] at hoe;cases hoe;simp at hce
   exact yco hz₂ (by simp) fun h₃ _ hs₃=>he rfl h₃ e _ (fun d o c1 c2 q=>hs₃.extBut _ _ c1 (hs₂ _ _ c2 q)) ⟨oe,hs₃.extBut _ _ hez hoe,hce⟩
 ·refine yaa (ybq hO₂ rfl ?_);refine yaa (wpAny_newTuple ?_ (hsz:=by show (2:Nat)<=_;decide));have hz₂:IsZip h₂ (a+4) (a+2) (a+3) .ellipsis:=k₂ _ _ (by omega) (by omega) (by omega) hz₁;have hsz:h₂.objs.size=s.heap.objs.size:=hs₂.trans hs₁.1;show wpAny _ _ (Builtin.SmallTypes.ownedTupleHandOut (.ref (a+4)) (.ref h₂.objs.size) >>= _) _ _ _;refine yaa ?_;unfold Builtin.SmallTypes.ownedTupleHandOut;refine yaa (yco (yaf _ hz₂) (by simp) fun h₄ hz₄ hs₄=>?_);replace hz₄:IsZip h₄ (a+4) (a+2) (a+3) (rawInt h₂.objs.size):=hz₄;refine yco hz₄ (by simp) fun h₅ hz₅ hs₅=>?_
  replace hz₅:IsZip h₅ (a+4) (a+2) (a+3) (rawInt h₂.objs.size):=hz₅;have lt:a+4<h₂.objs.size:=yak hz₂;have up:∀(c:Nat) (o:Obj),c≠a+4->h₂.get? c=some o->h₅.get? c=some o:=fun c o c1 e=>hs₅.extBut _ _ c1 (hs₄.extBut _ _ c1 (yaf _ e))
  have hT:IsT h₅ h₂.objs.size [x,y]:=hs₅.extBut _ _ (yaT lt) (hs₄.extBut _ _ (yaT lt) (yal _ rfl));rw [hsz] at hz₅ hT;refine yad ⟨_,rfl,?_⟩;show Q (.ref h₂.objs.size) _;rw [hsz];exact hQ x y h₅ tk hx hy ⟨hz₅,up _ _ (by omega) (k₂ _ _ (by omega) (by omega) (by omega) (k₁ _ _ (by omega) hI)),⟨x,y,up _ _ (by omega) hO₂⟩,i1.at fun o e=>up _ o (by omega) e,i2.at fun o e=>up _ o (by omega) e⟩ hT fun c o hc e=>up c o (by omega) (k₂ c o (by omega) (by omega) (by omega) (k₁ c o (by omega) e))
def zk7:Meets (Builtin.«zip.__new__» ⟨[.type "zip",.ref l,.ref m],[]⟩) (fun _ R s=>s.heap.IsTuple l us/\s.heap.IsTuple m vs ∧
   ∀h' n,n=s.heap.objs.size->(∀(c:Nat) (o:Obj),s.heap.get? c=some o->h'.get? c=some o)->ZSt n l m 0 .none h'->R (.ok (.ret (.ref (n+4)))) { s with heap:=h' }) :=
 .of_wp fun prog w A R s h=>by
  obtain ⟨hp,g,d,tk,os⟩:=s;obtain ⟨hl1,hl2,h⟩:=h;have hsub:=sub_zip;have hL1:Heap.IsTuple (Shared.heap ⟨hp,g,d,tk,os⟩) l us:=hl1;have hL2:Heap.IsTuple (Shared.heap ⟨hp.push { cls:=.type "tuple_iterator",data:=.fields #[.ref l,.int 0 0] },g,d,tk,os⟩) m vs:=zhW hl2 fun o e=>yaf _ e
  wp_walk using ycg hL1,ycg hL2
  refine ⟨_,rfl,?_⟩;have p {h:Heap} {o':Obj} {a:Addr} {o:Obj} (e:h.get? a=some o):(h.push o').get? a=some o:=yaf _ e
  have u:∀{h:Heap} {o:Obj} {a:Addr},a=h.objs.size->o.isFreed=false->(h.push o).get? a=some o:=fun e ho=>by rw [e];exact yal _ ho
  simp only [ya5];exact h _ _ rfl (fun c o e=>p (p (p (p (p e))))) ⟨u (by simp only [ya5]) rfl,p (p (u (by simp only [ya5]) rfl)),⟨_,_,p (u (by simp only [ya5]) rfl)⟩,⟨_,p (p (p (p (u rfl rfl)))),rfl,rfl⟩,⟨_,p (p (p (u (by simp only [ya5]) rfl))),rfl,rfl⟩⟩
end
noncomputable def zFp(a:Nat):List Addr:=(List.range 5).map (a+·)
theorem zdK{a b:Nat}:b∈zFp a↔a<=b/\b<a+5:=by
 unfold zFp;rw [yau];exact ⟨fun ⟨j,hj,e⟩=>by rw [ybg] at hj;have e:a+j=b:=e;omega,fun ⟨h1,h2⟩=>⟨b-a,ybg.mpr (by omega),by show a+(b-a)=b;omega⟩⟩
theorem zhf{a b:Nat}(h:b ∉ zFp a):b<a\/a+4<b:=by rw [zdK] at h;omega
theorem ZSt.keep{a l m i:Nat}{f:Value}{h h':Heap}(Z:ZSt a l m i f h)(k:∀(c:Nat) (o:Obj),a<=c->c<a+5->h.get? c=some o->h'.get? c=some o):ZSt a l m i f h' :=
 ⟨k _ _ (by omega) (by omega) Z.z,k _ _ (by omega) (by omega) Z.ti,let ⟨x,y,e⟩:=Z.to;⟨x,y,k _ _ (by omega) (by omega) e⟩,Z.i1.at fun o e=>k _ o (by omega) (by omega) e,Z.i2.at fun o e=>k _ o (by omega) (by omega) e⟩
section
variable{X:Cx}{pins:Z3}{σ:St}{H:Hp}{s:Shared}
noncomputable def ItZ(l m:Addr):It :=
 ⟨fun i H=>∃xs ys,H l=some (.tup xs)/\H m=some (.tup ys)/\i<xs.length/\i<ys.length,
  fun i H v H'=>∃t x y xs ys,v=.ref t/\H t=none/\H'=upd H t (.tup [x,y])/\H l=some (.tup xs)/\H m=some (.tup ys)/\xs[i]?=some x/\ys[i]?=some y,
  fun i H=>∃xs ys,H l=some (.tup xs)/\H m=some (.tup ys)/\i<=xs.length/\i<=ys.length/\(i=xs.length\/i=ys.length)⟩
def zoC{fp:List Addr}{T:Addr}{h2:Heap}{tk:Nat}{us:List Value}{ys:List V}(I:Inv X pins σ H s)(hf:∀b∈fp,zl7 X pins H b)(hT:T=s.heap.objs.size)(te:IsT h2 T us)
  (k:∀b o,b ∉ fp->s.heap.get? b=some o->h2.get? b=some o) (r:Vals ys us) (h9:us.length<=9):Inv X pins σ (upd H T (.tup ys)) { s with heap:=h2,toks:=tk }/\H T=none:=by
 have fr:H T=none:=by rw [hT];exact I.hok.fresh (yah _)
 refine ⟨?_,fr⟩;have I1:Inv X pins σ H { s with heap:=h2,toks:=tk }:=I.turnedL (ch:=fp) (fun b o hb q=>k b o hb q) hf;refine I1.track fr (by rw [hT];exact I.sz) (by rw [hT];exact yaT I.lt) (fun z c q=>?_) (fun p hp=>?_) ?_
 ·obtain ⟨v,cq⟩:=I.cell z c q;rw [hT];exact yas cq.lt
 ·rw [hT];exact yas (yak (I.pin p hp).1)
 ·exact ⟨yam (r.length ▸ h9) (by decide),us,r,_,te,rfl,_,rfl,rfl⟩
theorem zmf{P:Program}{w:World}{K:PySem.W.Frag}{elts:List Expr}{x1:Nat}{pos:Pos}{a l m:Nat}(hl:l<a)(hm:m<a) :
  Turn P w K (.Tuple elts x1 pos) (ItZ l m) (zFp a) (a+4) (fun i h=>ZSt a l m i .none h) where
 mem:=zdK.mpr (by omega)
 obj:=fun i h st b hb=>by
  obtain ⟨hz,hI,⟨x,y,hO⟩,⟨o1,e1,_,d1⟩,⟨o2,e2,_,d2⟩⟩:=st;obtain ⟨h1,h2⟩:=zdK.mp hb;obtain ⟨j,rfl⟩:∃j,b=a+j:=⟨b-a,(Nat.add_sub_cancel' h1).symm⟩
  match j,h2 with
  | 0,_=>exact ⟨_,e1,fun v e=>by rw [d1] at e;cases e⟩
  | 1,_=>exact ⟨_,e2,fun v e=>by rw [d2] at e;cases e⟩
  | 2,_=>exact ⟨_,hI,fun v e=>by cases e⟩
  | 3,_=>exact ⟨_,hO,fun v e=>by cases e⟩
  | 4,_=>exact ⟨_,hz,fun v e=>by cases e⟩
  | j+5,h=>omega
 keep:=fun i h h' st k=>st.keep fun c o c1 c2 e=>k _ (zdK.mpr ⟨c1,c2⟩) _ e
 item:=by
  intro X hP hw hK hc i pins s σ H E I hf st hg;subst hP hw hK;obtain ⟨xs,ys,g1,g2,hi,hj⟩:=hg;obtain ⟨us,ru,t1,_⟩:=I.tuple (SqT.of g1);obtain ⟨vs,rv,t2,_⟩:=I.tuple (SqT.of g2);have hT:s.TypeIs (.ref (a+4)) "zip":=⟨_,st.z,rfl⟩;unfold pyNext
  refine yaa (ydd (yaX (name:=Str.ofString "__next__") hT ycV (yaY ycV hT F.entry_zip_next
   (zhT (A:=X.A.in1) (I.ok.hd hc) st hl hm t1 t2 (by rw [yai,<-ru.length];exact ycA hi) (by rw [yai,<-rv.length];exact ycA hj) (fun x y h' tk hx hy a1 a4 a5=>yad ?_)
    (fun e=>by rw [yai,yai,<-ru.length,<-rv.length] at e;omega)) (F.args_zip_next_1 _))))
  have ltz:a+4<s.heap.objs.size:=yak st.z;refine ⟨_,rfl,wpAny_letOwnedTupleGo_zip a1.z fun h2' hz2 sb=>?_⟩;have kb:∀(c:Nat) (o:Obj),c≠a+4->h'.get? c=some o->h2'.get? c=some o:=fun c o hc e=>(sb.2 c hc).trans e
  obtain ⟨x',hx1,hx2⟩:=ru.get (yac hi);obtain ⟨y',hy1,hy2⟩:=rv.get (yac hj);rw [ycG,hx1] at hx;cases hx;rw [ycG,hy1] at hy;cases hy;obtain ⟨I2,fr⟩:=zoC (tk:=tk) (h2:=h2') I hf rfl (kb _ _ (yaT ltz) a4) (fun b o hb q=>kb b o (by have:=zhf hb;omega) (a5 b o (zhf hb) q)) (.cons hx2 (.cons hy2 .nil)) (by simp);refine ⟨.ref s.heap.objs.size,_,I2,rfl,⟨_,_,_,xs,ys,rfl,fr,rfl,g1,g2,yac hi,yac hj⟩,⟨hz2,kb _ _ (by omega) a1.ti,let ⟨x,y,e⟩:=a1.to;⟨x,y,kb _ _ (by omega) e⟩,a1.i1.at fun o e=>kb _ o (by omega) e,a1.i2.at fun o e=>kb _ o (by omega) e⟩,fun b hb=>?_⟩;rw [zac (fun e=>by have:=(zdK.mp (e ▸ hb)).2;omega)];exact (hf b hb).1
 done:=by
  intro X hP hw hK hc i pins s σ H E I hf st hg;subst hP hw hK;obtain ⟨xs,ys,g1,g2,h1,h2,hi⟩:=hg;obtain ⟨us,ru,t1,_⟩:=I.tuple (SqT.of g1);obtain ⟨vs,rv,t2,_⟩:=I.tuple (SqT.of g2);have hT:s.TypeIs (.ref (a+4)) "zip":=⟨_,st.z,rfl⟩;unfold pyNext
  refine yaa (ydd (yaX (name:=Str.ofString "__next__") hT ycV (yaY ycV hT F.entry_zip_next
   (zhT (A:=X.A.in1) (I.ok.hd hc) st hl hm t1 t2 (by rw [yai,<-ru.length];exact h1) (by rw [yai,<-rv.length];exact h2) (fun x y h' tk hx hy=>by
     have e1:=(ybm.mp hx).1;have e2:=(ybm.mp hy).1;rw [yai,<-ru.length] at e1;rw [yai,<-rv.length] at e2
     omega) (fun _ h' e tk hk he'=>?_)) (F.args_zip_next_1 _))))
  obtain ⟨o,ho,hcl⟩:=he';refine yaa (wpAny_isInstance (T:="StopIteration") (b:=true) ⟨o,ho,hcl⟩ isSubtype_stop ?_);exact yad ⟨rfl,I.turnedL (ch:=zFp a) (fun b o hb q=>hk b o (zhf hb) q) hf⟩
 self:=fun _ _ _ _ _ st h=>wpAny_pyIter_zip st.z h
theorem znB:bootBuiltins "zip" = some (.type "zip"):=by decide +kernel
def zrc(I1:Inv X pins σ H1 s1)(g1:H1 l=some (.tup xs))(g2:H1 m=some (.tup ys))(q:R (ItZ l m) H1) :
  wpAny (model X.prog X.w) X.A (call (.type "zip") [.ref l,.ref m]) (fun v s2=>wpAny (model X.prog X.w) X.A (pyIter v) (PIE X pins σ (.Tuple elts x1 tp) R) X.xe s2) X.xe s1:=by
 obtain ⟨us,ru,t1,_⟩:=I1.tuple (SqT.of g1);obtain ⟨vs,rv,t2,_⟩:=I1.tuple (SqT.of g2);refine callType_new F.called_zip (by decide) (F.typeCall_zip_2 _ _) (F.newCall_zip_2 _ _) (fun o=>F.args_object_init_3 o _ _) F.entry_zip_new zk7 ⟨t1,t2,fun h' n hn hk Z=>?_⟩;refine ⟨⟨_,Z.z,rfl⟩,wpAny_pyIter_zip Z.z ?_⟩;refine ⟨n+4,zFp n,_,_,H1,rfl,I1.kept (t':=s1.toks) hk,zmf ?_ ?_,Z,fun c hb=>?_,q⟩
 ·obtain ⟨o,ho,_⟩:=t1;rw [hn];exact yak ho
 ·obtain ⟨o,ho,_⟩:=t2;rw [hn];exact yak ho
 ·have hc:s1.heap.objs.size<=c:=hn ▸ (zdK.mp hb).1;exact I1.fpOk hc (I1.hok.fresh hc)
end
end L2
namespace S2
open PySem PySem.Spec PyProof.Rows L2
section
variable{X:Cx}{cl:Cf}{E:St->XK}{e tg:Expr}{f:Fe}{own:Bool}{pos pos':Pos}
noncomputable def zq7:List D->Option D | [.int i,.int j]=>some (.int (if j > i then j else i)) | _=>none
def ztB(hc:X.calm=true):zjP X cl (.builtin "max") zq7:=by
 intro pins s σ H xs us Q I r h;obtain ⟨w,ds,d,rfl,hx,hg,q⟩:=h;unfold zq7 at hg;split at hg
 ·rename_i i j;cases hg
  cases hx with
  | cons h1 h2=>cases h2 with
   | cons h2 h3 =>
    cases h3;obtain rfl:=h1.intI;obtain rfl:=h2.intI;exact zlT hc pins s σ w.H _ us Q I r ⟨i,j,rfl,q _ w (Grow.refl _) (.int _)⟩
 ·cases hg
noncomputable def zf5:List D->List D->List D
 | x::xs,y::ys=>.tup [x,y]::zf5 xs ys
 | _,_=>[]
theorem zeb:∀(xs ys:List D),(zf5 xs ys).length=min xs.length ys.length
 | [],_=>by simp [zf5]
 | _::_,[]=>by simp [zf5]
 | _::xs,_::ys=>by simp [zf5,zeb xs ys]
theorem zfs:∀{xs ys:List D} {i:Nat} {d:D},(zf5 xs ys)[i]?=some d->∃x y,xs[i]?=some x/\ys[i]?=some y/\d=.tup [x,y]
 | [],_,_,_,h=>by simp [zf5] at h
 | _::_,[],_,_,h=>by simp [zf5] at h
 | x::xs,y::ys,0,d,h=>by
  simp only [zf5,List.getElem?_cons_zero,Option.some.injEq] at h;exact ⟨x,y,rfl,rfl,h.symm⟩
 | x::xs,y::ys,i+1,d,h=>by
  simp only [zf5,ycp] at h ⊢;exact zfs h
def zq9(f g:Fe):Fi:=fun ρ S=>(zai [f,g] ρ S).bind fun ds S1=>match ds with | [.tup l,.tup k]=>.ok (zf5 l k) S1 | _=>.bad
theorem zte(h1:∀w',Fut w w'->w'.H l1=some (.tup xs))(h2:∀w',Fut w w'->w'.H l2=some (.tup ys))(r1:Shds cl w xs ds)(r2:Shds cl w ys es):ItOk cl w (ItZ l1 l2) (zf5 ds es):=by
 have e1:=r1.length;have e2:=r2.length;have el:=zeb ds es;refine ⟨fun w1 F1 i hi=>⟨xs,ys,h1 w1 F1,h2 w1 F1,by omega,by omega⟩,fun w1 F1=>⟨xs,ys,h1 w1 F1,h2 w1 F1,by omega,by omega,by omega⟩,fun w1 F1 i d x H1 hd y=>?_⟩;obtain ⟨t,v1,v2,xs',ys',rfl,ht,rfl,g1,g2,hx,hy⟩:=y;obtain ⟨z1,z2,hz1,hz2,rfl⟩:=zfs hd;cases (h1 w1 F1).symm.trans g1;cases (h2 w1 F1).symm.trans g2;obtain ⟨d1,q1,s1⟩:=r1.get hx;obtain ⟨d2,q2,s2⟩:=r2.get hy;rw [hz1] at q1;cases q1;rw [hz2] at q2;cases q2;exact ⟨w1.add t _,rfl,zaq ht _,Shd.newT ht (.cons (s1.up F1) (.cons (s2.up F1) .nil))⟩
def zrF(hg:Gl X "zip")(hm:X.mg "zip" = none)(ha:PA X [a,e] (tAs cl E [fa,f]))(hs:starEach [a,e] X.env=(false,eval a X.env)::starEach [e] X.env)(hs2:(backTo pos (starEach [e] X.env)).any (·.1)=false):PI X (.Tuple es kk tp) (.Call (.Name "zip" p) [a,e] [] pos) (tI cl E (zq9 fa f)):=by
 intro pins s σ H R' I q;refine Call_ (zfb I hg hm L2.znB (ybD (thn (ha pos pins s σ H (fun vs H1=>∃l m xs ys,vs=[.ref l,.ref m]/\H1 l=some (.tup xs)/\H1 m=some (.tup ys)/\R' (ItZ l m) H1) I ?_) fun us s1 ⟨vs,H1,I1,r1,q1⟩=>?_) hs hs2))
 ·obtain ⟨B,w,ρ,S,rfl,R,q⟩:=q;refine ⟨B,w,ρ,S,rfl,R,?_⟩;dsimp only [zq9] at q
  cases hf:zai [fa,f] ρ S with
  | bad=>rw [hf] at q;exact q.elim
  | exc c S1=>rwa [hf] at q
  | ok ds S1 =>
   rw [hf] at q;dsimp only [Out.bind] at q;intro vs w' R2 F2 sh
   have hz:(∃l k,ds=[.tup l,.tup k])\/(match ds with | [.tup l,.tup k]=>Out.ok (zf5 l k) S1 | _=>.bad)=.bad:=by
    split
    ·exact .inl ⟨_,_,rfl⟩
    ·exact .inr rfl
   rcases hz with ⟨l,k,rfl⟩ | e
   ·cases sh with
    | cons h1 h2 =>
     cases h2 with
     | cons h2 h3 =>
      cases h3
      cases h1 with
      | tup e1 k1 r1 =>
       cases h2 with
       | tup e2 k2 r2 =>
        exact ⟨_,_,_,_,rfl,(Fut.refl w').keep _ _ e1 k1 |>.1,(Fut.refl w').keep _ _ e2 k2 |>.1,q _ w' R2 F2 (zte (fun w1 F1=>(F1.keep _ _ e1 k1).1) (fun w1 F1=>(F1.keep _ _ e2 k2).1) r1 r2)⟩
   ·rw [e] at q;exact q.elim
 ·obtain ⟨l,m,xs,ys,rfl,g1,g2,q⟩:=q1
  cases r1 with
  | cons a1 r1 =>
   cases r1 with
   | cons a2 r1=>cases r1;cases a1;cases a2;exact zrc I1 g1 g2 q
end
section
variable{X:Cx}{cl:Cf}{E:St->XK}{e:Expr}{f:Fe}{pos':Pos}
def eMt(g:List D->D->Option D)(i:Nat)(f:Fe):Fe:=fun ρ S=>match ρ[i]? with | some (some (_,.lst l))=>(f ρ S).bind fun d S1=>Out.of (g l d) S1 | _=>.bad
def zdH(l:List D)(d:D):Option D:=if d.fit 8&&D.fits 8 l then some (.int ((l.countP (zfC · d):Nat):Int)) else none
def Rel.lstAny{B:Base}{σ:St}{w:Wd}{ρ:Env}{S:Sto}{i:Nat}{o:Bool}{l:List D}(R:Rel cl B σ w ρ S)(h:ρ[i]?=some (some (o,.lst l))):∃a xs,σ[i]?=some (some (.ref a))/\w.H a=some (.lst xs)/\Shds cl w xs l:=by
 cases o with
 | true=>obtain ⟨a,xs,e1,_,h2,t⟩:=R.list h;exact ⟨a,xs,e1,h2,t⟩
 | false =>
  obtain ⟨v,e1,sh⟩:=R.slots i false _ h
  cases sh with
  | lst ep k r=>exact ⟨_,_,e1,ep,r⟩
noncomputable def MtB(X:Cx)(cl:Cf)(id:String)(g:List D->D->Option D):Prop:=MtM X id fun x vs H Q=>∃(a:Addr) (xs:List V) (l:List D) (w:Wd) (d:D) (v:V) (r:Int),w.H=H/\x=.ref a/\vs=[v]/\w.H a=some (.lst xs)/\Shds cl w xs l/\TopV cl w v d/\g l d=some (.int r)/\Q (.int r) H
theorem zd6{s:Shared}{d:D}:∀{its:List Value} {ds:List D} {as:List Addr},ReadsAll s.heap its (D.pys ds) as->D.fits 8 ds=true->its.countP (fun y=>(SeqAt.readOf s.heap y).eqv d.py)=ds.countP (zfC · d)
 | [],[],_,_,_=>rfl
 | [],_::_,_,h,_=>by cases h
 | _::_,[],_,h,_=>by cases h
 | v::its,e::ds,_,h,f=>by
  simp only [D.fits,yab] at f
  cases h with
  | cons h1 h2 =>
   rw [List.countP_cons,List.countP_cons,zd6 h2 f.2,zkH (D.lay f.1).1 h1];rfl
def zmX(hK:X.K=cl.K)(hu:X.A.units+64<cLine):MtB X cl "list.count" zdH:=by
 intro pins s σ H x vs v us Q I rx rv h;obtain ⟨a,xs,l,w,d,v',r,rfl,rfl,rfl,hH,sh,tv,hg,q⟩:=h;unfold zdH at hg;split at hg
 ·rename_i hf;cases hg;rw [yab] at hf;cases rx;obtain ⟨u,rfl,ru⟩:=rv.one;obtain ⟨bs,rb⟩:=zhr I hK tv hf.1 ru;obtain ⟨z,its,n,r,hl,e⟩:=I.lstM hH;obtain ⟨as,ra⟩:=zdr I hK sh hf.2 r;refine ycP F.slot_list_count ⟨_,e,rfl⟩ F.entry_list_count (F.args_list_count_2 _ _) (SeqAt.list_countAt a _ n none #[] u (fun y=>(SeqAt.readOf s.heap y).eqv d.py)) ⟨e,fun y hy=>zb9 hu rb hf.1 ra hf.2 y hy,?_⟩;rw [zd6 ra hf.2];exact ⟨.int _,w.H,I.tok _,⟨_,rfl⟩,q⟩
 ·cases hg
def zuH{id:String}{ap cp:Pos}(slot:Slot "list" name id)(hty:typeOf (.builtin id)=pure (.type "method_descriptor"))(hm:MtB X cl id g)(hgb:∀l d r,g l d=some r->∃n,r=.int n)
  (hN:X.N[i]?=some x) (hv:Vis X.env.scope x) (hd:(x == ("__debug__":Str))=false) (hcd:(x == ("__classdict__":Str))=false) (he:PE X e (tH cl E f)) (hpl:zbi e=true) (hln:(ap.endLine == cp.line)=true) :
  PE X (.Call (.Attribute (.Name x pos') name ap) [e] [] cp) (tE cl E (eMt g i f)):=by
 refine PE.imp (zjm (es:=[]) ya7 slot hty hm (zaD hN hv hd hcd) (zkm he znT (zaO hpl)) (hfew:=zgO (by simp [hpl]) (by simp)) (hline:=hln) (hs:=zaO hpl) (hplain:=rfl)) ?_;rintro σ H Q ⟨B,w,ρ,S,rfl,R,q⟩
 have key:(∃o l,ρ[i]?=some (some (o,.lst l)))\/eMt g i f ρ S=.bad:=by
  unfold eMt;split
  ·rename_i o l hl;exact .inl ⟨o,l,hl⟩
  ·exact .inr rfl
 rcases key with ⟨o,l,hl⟩ | hb
 ·have e':eMt g i f ρ S=(f ρ S).bind fun d S1=>Out.of (g l d) S1:=by unfold eMt;rw [hl]
  rw [e'] at q;obtain ⟨a,xs,e1,h2,t⟩:=R.lstAny hl;refine ⟨_,e1,.inl ⟨rfl,_,SqL.of h2⟩,B,w,ρ,S,rfl,R,?_⟩
  cases hf:f ρ S with
  | bad=>rw [hf] at q;exact q.elim
  | exc c S1 =>
   rw [hf] at q;simp only [zai,hf,Out.bind];exact q
  | ok d S1 =>
   rw [hf] at q;simp only [zai,hf,Out.bind];intro vs w' R' F' sh;dsimp only [Out.bind] at q
   cases hg:g l d with
   | none=>rw [hg] at q;exact q.elim
   | some r =>
    rw [hg] at q;obtain ⟨n,rfl⟩:=hgb l d r hg;obtain ⟨a',xs',e1',h2',t'⟩:=R'.lstAny hl;rw [e1] at e1';cases e1'
    cases sh with
    | cons h1 hn =>
     cases hn;exact ⟨a,xs',l,w',d,_,n,rfl,rfl,rfl,h2',t',h1.top R',hg,q _ w' R' F' (.int _)⟩
 ·rw [hb] at q;exact q.elim
end
noncomputable def zvm(g:Str->Str->Option Bool)(C:Str):D->Option D
 | .exc c=>(g c C).map .bl
 | _=>none
noncomputable def ztA(cl:Cf)(C:Str):Value:=if C = "ValueError" then .type "ValueError" else .ref (cl C)
section
variable{X:Cx}{cl:Cf}{E:St->XK}{own:Bool}{e:Expr}{f fe:Fe}{pos pos':Pos}
def Shd.excI{w:Wd}{v:V}{c:Str}(h:Shd cl w v (.exc c)):∃a ob,v=.ref a/\w.H a=some (.frz ob (.own a))/\ob.cls=.ref (cl c):=by
 cases h with
 | exc h1 _ h2=>exact ⟨_,_,rfl,h1,h2⟩
theorem TopV.excI{w:Wd}{v:V}{c:Str}(h:TopV cl w v (.exc c)):∃a ob,v=.ref a/\w.H a=some (.frz ob (.own a))/\ob.cls=.ref (cl c):=by
 cases h with
 | sh h=>exact h.excI
 | ow _ t=>cases t
theorem zjJ:bootBuiltins "ValueError" = some (.type "ValueError"):=by decide +kernel
def znW{g:Str->Str->Option Bool}{C:Str}{vC:V}{p p2:Pos}(hg:Gl X "isinstance")(hm:X.mg "isinstance" = none)(hC:PE X (.Name C p2) (tC vC))(hv:∀u,zaL vC u->u=ztA cl C)
  (hk:∀c b,g c C=some b->PySem.W.ExcCls X.K (cl c)/\PySem.W.kitOne X.K (.ref (cl c)) (ztA cl C)=some b) (hp:zbi e=true) (he:PE X e (tH cl E f)) :
  PE X (.Call (.Name "isinstance" p) [e,.Name C p2] [] pos) (tE cl E (eUn (zvm g C) f)):=by
 refine PE.imp (zcg zjH hg hm zg4 (zaF he (zaF hC zbx rfl) (zaO hp)) (he:=zaO hp) (hpl:=rfl)) ?_;rintro σ H Q ⟨B,w,ρ,S,rfl,R,q⟩;refine ⟨B,w,ρ,S,rfl,R,?_⟩;unfold eUn at q
 cases hf:f ρ S with
 | bad=>rwa [hf] at q
 | exc c S1=>rwa [hf] at q
 | ok d S1 =>
  rw [hf] at q;intro v w1 R1 F1 h1;dsimp only [Out.bind] at q
  cases d with
  | exc c =>
   dsimp only [zvm] at q
   cases hb:g c C with
   | none=>rw [hb] at q;exact q.elim
   | some b =>
    rw [hb] at q;obtain ⟨k1,k2⟩:=hk c b hb;obtain ⟨a,ob,rfl,h2,h3⟩:=(h1.top R1).excI;exact ⟨a,_,ob,vC,_,b,rfl,h2,h3,k1,hv,k2,q _ w1 R1 F1 (.bl _)⟩
  | _=>exact q.elim
noncomputable def OpN(X:Cx)(cl:Cf)(op:Value->Value->Sem Value)(g:D->D->Option D):Prop:=OpR X op fun x y H Q=>∃w d e r,w.H=H/\TopV cl w x d/\TopV cl w y e/\g d e=some r/\∀p o w',Grow w w'->w'.H p=none->Top cl w' o r->Q (.ref p) (upd w'.H p o)
def zxE{a b:Expr}{h:Fe}{gg:D->D->Option D}{r2:R2}(hr:∀x y H Q,(∃w d e r,w.H=H/\TopV cl w x d/\TopV cl w y e/\gg d e=some r/\∀p o w',Grow w w'->w'.H p=none->Top cl w' o r->Q (.ref p) (upd w'.H p o))->r2 x y H Q)(σ:St)(H:Hp)(Q:VK)(q:tN cl E (zat gg f h) σ H Q):tOp r2 (tH cl E f) (tH cl E h) σ H Q:=by
 obtain ⟨B,w,ρ,S,rfl,R,q⟩:=q;refine ⟨B,w,ρ,S,rfl,R,?_⟩;unfold zat at q
 cases hf:f ρ S with
 | bad=>rwa [hf] at q
 | exc c S1=>rwa [hf] at q
 | ok d S1 =>
  rw [hf] at q;intro v w1 R1 F1 h1;refine ⟨B,w1,ρ,S1,rfl,R1,?_⟩;dsimp only [Out.bind] at q
  cases hh:h ρ S1 with
  | bad=>rwa [hh] at q
  | exc c S2=>rw [hh] at q;exact fun w2 R2 F2=>q w2 R2 (F1.trans F2)
  | ok e S2 =>
   rw [hh] at q;intro y w2 R2 F2 h2;dsimp only at q
   cases hg:gg d e with
   | none=>rw [hg] at q;exact q.elim
   | some r =>
    rw [hg] at q;exact hr _ _ _ _ ⟨w2,d,e,r,rfl,(h1.up F2).top R2,h2.top R2,hg,fun p o w' gr hp t=>q p o w' (R2.grow gr) (F1.trans (F2.trans gr.fut)) hp t⟩
noncomputable def zhv:D->D->Option D
 | .lst a,.int j=>if decide (0<=j/\j<=1000/\a.length<=1000) then some (.lst (List.replicate j.toNat a).flatten) else none
 | _,_=>none
def zpX:OpN X cl (binaryOp .Mult) zhv:=by
 intro pins s σ H x y v u Q I rx ry h;obtain ⟨w,d,e,r,rfl,hx,hy,hg,q⟩:=h;unfold zhv at hg;split at hg
 ·rename_i a j;split at hg
  ·rename_i hz;cases hg;have hz':=yao hz;obtain ⟨p,xs,rfl,ep,rs⟩:=hx.lstI;obtain rfl:=hy.intI;have hl:=rs.length;refine zsy pins s σ w.H _ _ v u Q I rx ry ⟨p,j,xs,rfl,rfl,ep,by omega,by omega,?_,fun l hl=>q l _ w (Grow.refl _) hl (.lst (rs.flat _))⟩;refine yam (ybz (show xs.length<=1000 by omega) (show j.toNat<=1000 by omega)) (by decide)
  ·cases hg
 ·cases hg
def zpm(ha:PE X a (tH cl E f))(hb:PE X b (tH cl E h)):PE X (.BinOp a .Mult b pos) (tN cl E (zat zhv f h)) :=
 PE.imp (zso zpX ha hb) (zxE (a:=a) (b:=b) fun _ _ _ _ z=>z)
noncomputable def zqo:Expr->Bool | .List _ _=>true | _=>false
noncomputable def ztg:Operator->Bool | .Mult=>true | _=>false
end
end S2
namespace PySem.F
end PySem.F
namespace L2
open PySem PySem.Spec PyProof.Rows
end L2
namespace PySem.F
end PySem.F
namespace L2
open PySem PySem.Spec PyProof.Rows
end L2
namespace S2
open PySem PySem.Spec PyProof.Rows L2
section
variable{X:Cx}{cl:Cf}{E:St->XK}{e:Expr}{f:Fe}{pos:Pos}
noncomputable def zqf:D->Option (List Int) | .tup l=>zca l | _=>none
def keysOf:List D->Option (List (List Int))
 | []=>some []
 | d::l=>(zqf d).bind fun k=>(keysOf l).bind fun ks=>some (k::ks)
def zdf:D->Option D | .tup l=>(keysOf l).bind fun ks=>if ks.length<=5/\ks.Nodup then some (.int ks.length) else none | _=>none
theorem zlh{K:PySem.W.Frag}{w:Wd}:∀{xs:List V} {ds:List D} {ks:Z2},Shds cl w xs ds->keysOf ds=some ks->zhd K w.H xs ks
 | _,_,ks,.nil,h=>by cases h;exact .nil
 | _,_,ks,.cons r t,h=>by
  unfold keysOf at h;rename_i v d vs ds'
  cases hk:zqf d with
  | none=>rw [hk] at h;cases h
  | some k =>
   rw [hk] at h;dsimp only [Option.bind] at h
   cases hks:keysOf ds' with
   | none=>rw [hks] at h;cases h
   | some ks' =>
    rw [hks] at h;cases h;refine .cons ?_ (zlh t hks)
    cases r with
    | tup e' _ rs =>
     have:zca _=some k:=hk;obtain rfl:=zgI rs this;exact ⟨_,rfl,SqT.of e'⟩
    | _=>cases hk
theorem zkr{p p2 pos2:Pos}(hc:X.calm=true)(hu:X.A.units+8<cLine)(hg:Gl X "len")(hm:X.mg "len" = none)(hg2:Gl X "set")(hm2:X.mg "set" = none)(he:PE X e (tE cl E f))(hs:starEach [e] X.env=[(false,eval e X.env)]) :
  PE X (.Call (.Name "len" p) [.Call (.Name "set" p2) [e] [] pos2] [] pos) (tE cl E (eUn zdf f)):=by
 refine PE.imp (zcg zf2 hg hm PySem.boot_len (zaF (zdw (ze1 hc hu) hg2 hm2 (by decide +kernel) (zcx he ze6 hs) (he:=hs) (hpl:=rfl)) zbx)) ?_;rintro σ H Q ⟨B,w,ρ,S,rfl,R,q⟩;refine ⟨B,w,ρ,S,rfl,R,?_⟩;unfold eUn at q
 cases hf:f ρ S with
 | bad=>rw [hf] at q;exact q.elim
 | exc c S1=>rw [hf] at q;simp only [zai,hf,Out.bind];exact q
 | ok d S1 =>
  rw [hf] at q;simp only [zai,hf,Out.bind];intro vs w1 R1 F1 sh;dsimp only [Out.bind] at q
  cases d with
  | tup l =>
   cases hk:keysOf l with
   | none=>simp [zdf,hk,Out.of] at q
   | some ks =>
    by_cases h18:ks.length<=5/\ks.Nodup
    ·simp only [zdf,hk,Option.bind,if_pos h18] at q
     cases sh with
     | cons h1 hn =>
      cases hn
      cases h1 with
      | tup ep k r =>
       refine ⟨_,_,ks,rfl,SqT.of ep,zlh r hk,h18.1,h18.2,fun l hl=>?_⟩;refine ⟨l,_,rfl,zag,yam h18.1 (by decide),?_⟩;exact q _ (w1.add l (.ext (ziY l ks.length))) (R1.grow (zaq hl _)) (F1.trans (zaq hl _).fut) (.int _)
    ·simp only [zdf,hk,Option.bind,if_neg h18,Out.of] at q
  | _=>exact q.elim
end
noncomputable def zjk(f:Str)(o:Bool)(d:D):List (Str×Bool×D)->List (Str×Bool×D)
 | []=>[(f,o,d)]
 | (g,x)::r=>if g=f then (g,o,d)::r else (g,x)::zjk f o d r
def Ob.put(ob:Ob)(f:Str)(o:Bool)(d:D):Ob:=⟨ob.cls,zjk f o d ob.fs⟩
section
variable{cl:Cf}{w:Wd}{n:Nat}
def zcw.len(h:zcw cl w n fs gs):fs.length=gs.length:=Paired.length h
def zcw.look(h:zcw cl w n fs gs)(e:gs.lookup f=some (o,d)):∃v,fs.lookup f=some v/\zhR cl w (.fld n f) o v d:=by
 induction h with
 | nil=>cases e
 | @cons p q l1 l2 h t ih =>
  obtain ⟨h1,h2⟩:=h;obtain ⟨g,v⟩:=p;obtain ⟨g',o',d'⟩:=q;have h1':g=g':=h1;subst h1';rw [yaD] at e ⊢
  cases hb:f == g with
  | true =>
   rw [hb] at e;cases e;have:=eq_of_beq hb;subst this;exact ⟨v,rfl,h2⟩
  | false =>
   rw [hb] at e;exact ih e
def zcw.miss(h:zcw cl w n fs gs)(e:gs.lookup f=none):fs.lookup f=none:=by
 induction h with
 | nil=>rfl
 | @cons p q l1 l2 h t ih =>
  obtain ⟨h1,h2⟩:=h;obtain ⟨g,v⟩:=p;obtain ⟨g',o',d'⟩:=q;have h1':g=g':=h1;subst h1';rw [yaD] at e ⊢
  cases hb:f == g with
  | true=>rw [hb] at e;cases e
  | false=>rw [hb] at e;exact ih e
def zcw.put(h:zcw cl w n fs gs)(hy:zhR cl w (.fld n f) o y d):zcw cl w n (zda f y fs) (zjk f o d gs):=by
 induction h with
 | nil=>exact .cons ⟨rfl,hy⟩ .nil
 | @cons p q l1 l2 h t ih =>
  obtain ⟨h1,h2⟩:=h;obtain ⟨g,v⟩:=p;obtain ⟨g',o',d'⟩:=q;have h1':g=g':=h1;subst h1';show zcw cl w n (if g=f then (g,y)::l1 else (g,v)::zda f y l1) (if g=f then (g,o,d)::l2 else (g,o',d')::zjk f o d l2)
  by_cases hg:g=f
  ·subst hg;rw [if_pos rfl,if_pos rfl];exact .cons ⟨rfl,hy⟩ t
  ·rw [if_neg hg,if_neg hg];exact .cons ⟨rfl,h2⟩ ih
def zcw.keepBut(f:Fut w w')(k:∀a o g,g≠x->w.H a=some o->w.ow a=some (.fld n g)->w'.H a=some o/\w'.ow a=some (.fld n g))(h:zcw cl w n fs gs)(hn:∀q∈gs,q.1=x->q.2.1=false):zcw cl w' n fs gs:=by
 induction h with
 | nil=>exact .nil
 | @cons p q l1 l2 h t ih =>
  obtain ⟨h1,h2⟩:=h;refine .cons ⟨h1,?_⟩ (ih fun q hq=>hn q (yan _ hq))
  by_cases hx:q.1=x
  ·have ho:=hn q yav hx;rw [ho] at h2 ⊢
   rcases h2 with ⟨_,h2⟩ | ⟨e,_⟩
   ·exact .inl ⟨rfl,Shd.up f h2⟩
   ·cases e
  ·exact h2.keep f fun a o ha hr=>k a o q.1 hx ha hr
def zcw.keepF(f:Fut w w')(k:∀a o g,w.H a=some o->w.ow a=some (.fld n g)->w'.H a=some o/\w'.ow a=some (.fld n g))(h:zcw cl w n fs gs):zcw cl w' n fs gs:=by
 induction h with
 | nil=>exact .nil
 | @cons p q l1 l2 h t ih=>exact .cons ⟨h.1,h.2.keep f fun a o ha hr=>k a o q.1 ha hr⟩ ih
variable{B:Base}{σ:St}{ρ:Env}{S:Sto}
def World'.atObj(W:World' cl B w S)(h:S[n]?=some ob)(e:w.mu[n]?=some a):ztQ cl w n a ob:=by
 obtain ⟨a',e',x⟩:=W.obj n ob h;rw [e] at e';cases e';exact x
def zhy(h:(S.set n ob)[m]?=some ob'):(m=n/\ob'=ob)\/(m≠n/\S[m]?=some ob'):=by
 by_cases e:n=m
 ·subst e
  have hlt:n<S.length:=by
   have:=(yap.mp h).1;rwa [yaK] at this
  rw [yaG hlt] at h;cases h;exact .inl ⟨rfl,rfl⟩
 ·rw [yaU e] at h;exact .inr ⟨fun z=>e z.symm,h⟩
def Rel.setf(R:Rel cl B σ w ρ S)(hn:S[n]?=some ob)(hmu:w.mu[n]?=some a)(how:w.ow a=some (.obj n))(hH:w.H a=some (.ins (cl ob.cls) dx fs))(hF:zcw cl w n fs ob.fs)(hy:Shd cl w y d) :
  Rel cl B σ (w.mut a (.ins (cl ob.cls) dx (zda f y fs))) ρ (S.set n (ob.put f false d))/\Fut w (w.mut a (.ins (cl ob.cls) dx (zda f y fs))):=by
 have ff:=zcG (w:=w) (p:=a) (o:=.ins (cl ob.cls) dx (zda f y fs)) (by rw [how];exact yaC _)
 have kp:∀b u,w.H b=some u->w.ow b≠some (.obj n)->(w.mut a (.ins (cl ob.cls) dx (zda f y fs))).H b=some u/\(w.mut a (.ins (cl ob.cls) dx (zda f y fs))).ow b=w.ow b:=fun b u hb hne=>⟨by
  show upd w.H a _ b=_
  rw [zac (fun z=>hne (by rw [z];exact how))];exact hb,rfl⟩
 have hB:B.Fr a=none:=(R.wd.own a _ how).elim (fun z=>by cases z) fun z=>z
 refine ⟨⟨⟨fun b u h=>?_,R.wd.own,by rw [yaK];exact R.wd.len,fun m ob' h=>?_,R.wd.tab.keep ff fun P ps h1 h2=>⟨(kp P _ h1 (by rw [h2];simp)).1,(kp P _ h1 (by rw [h2];simp)).2.trans h2⟩⟩,R.len,fun i o e h=>?_⟩,ff⟩
 ·refine ⟨?_,(R.wd.fr b u h).2⟩;show upd w.H a _ b=_;rw [zac (fun z=>by rw [z,hB] at h;cases h)];exact (R.wd.fr b u h).1
 ·rcases zhy h with ⟨rfl,rfl⟩ | ⟨hne,h⟩
  ·refine ⟨a,hmu,how,dx,_,zag,?_⟩;exact zcw.put (hF.keepF ff fun b u g hb hg=>⟨(kp b u hb (by rw [hg];exact fun z=>by cases z)).1,hg⟩) (.inl ⟨rfl,hy.up ff⟩)
  ·obtain ⟨b,e,x⟩:=R.wd.obj m ob' h;exact ⟨b,e,x.keep ff fun b u hb hm=>kp b u hb fun z=>by rw [z] at hm;exact hne hm.symm⟩
 ·obtain ⟨v,e1,x⟩:=R.slots i o e h;exact ⟨v,e1,x.keep ff fun b u hb hr=>⟨(kp b u hb (by rw [hr];exact fun z=>by cases z)).1,hr⟩⟩
def Wd.addF(w:Wd)(p:Addr)(o:HO)(n:Nat)(f:Str):Wd:=⟨upd w.H p o,fun b=>if b=p then some (.fld n f) else w.ow b,w.mu⟩
noncomputable def zd3(ob:Ob):Bool:=decide (ob.fs.map (·.1)).Nodup
def zcw.dic(ff:Fut w w')(k:∀b o g,g≠f->w.H b=some o->w.ow b=some (.fld n g)->w'.H b=some o/\w'.ow b=some (.fld n g))(hy:zhR cl w' (.fld n f) true (.ref a) d):∀{fs:List (Str×V)} {gs:List (Str×Bool×D)},zcw cl w n fs gs->(gs.map (·.1)).Nodup->fs.lookup f=some (.ref a)->zcw cl w' n fs (zjk f true d gs):=by
 intro fs gs h
 induction h with
 | nil=>intro _ e;cases e
 | @cons p q l1 l2 h t ih =>
  intro nd e;obtain ⟨h1,h2⟩:=h;obtain ⟨g,v⟩:=p;obtain ⟨g',o',d'⟩:=q;have h1':g=g':=h1;subst h1';rw [yaz,ybY] at nd;show zcw cl w' n ((g,v)::l1) (if g=f then (g,true,d)::l2 else (g,o',d')::zjk f true d l2);rw [yaD] at e
  by_cases hg:g=f
  ·subst hg;rw [if_pos rfl];simp only [ycb] at e;cases e;refine .cons ⟨rfl,hy⟩ ?_;have t':zcw cl w n l1 l2:=t;exact t'.keepBut ff k fun q hq hx=>absurd (yau.mpr ⟨q,hq,hx⟩) nd.1
  ·rw [if_neg hg];have hb:(f == g)=false:=ybn.mpr fun z=>hg z.symm
   rw [hb] at e;exact .cons ⟨rfl,h2.keep ff fun b o hb hr=>k b o g hg hb hr⟩ (ih nd.2 e)
def Wd.addO(w:Wd)(x dx C:Addr)(n:Nat):Wd:=⟨upd (upd w.H dx (.own x)) x (.ins C dx []),fun b=>if b=x then some (.obj n) else if b=dx then none else w.ow b,w.mu++[x]⟩
theorem Rel.made(R:Rel cl B σ w ρ S)(hx:w.H x=none)(hdx:w.H dx=none)(ne:dx≠x):Rel cl B σ (w.addO x dx (cl c) S.length) ρ (S++[⟨c,[]⟩])/\Fut w (w.addO x dx (cl c) S.length):=by
 have kp:∀b o,w.H b=some o->(w.addO x dx (cl c) S.length).H b=some o/\(w.addO x dx (cl c) S.length).ow b=w.ow b:=fun b o hb=>by
  have n1:b≠x:=zam hb hx;have n2:b≠dx:=zam hb hdx;refine ⟨?_,?_⟩
  ·show upd (upd w.H dx _) x _ b=_;rw [zac n1,zac n2];exact hb
  ·show (if b=x then _ else if b=dx then _ else w.ow b)=_;rw [if_neg n1,if_neg n2]
 have ff:Fut w (w.addO x dx (cl c) S.length):=⟨fun b o hb hk=>⟨(kp b o hb).1,(kp b o hb).2.trans hk⟩,fun n a h=>by
  show (w.mu++[x])[n]?=some a
  rw [yaE (yap.mp h).1];exact h⟩
 have hBx:B.Fr x=none:=by
  cases z:B.Fr x with
  | none=>rfl
  | some u=>have:=(R.wd.fr x u z).1;rw [hx] at this;cases this
 refine ⟨⟨⟨fun b o h=>?_,fun b r h=>?_,by show (w.mu++[x]).length=_;rw [yar,yar,R.wd.len];rfl,fun m ob h=>?_,R.wd.tab.keep ff fun P ps h1 h2=>⟨(kp P _ h1).1,(kp P _ h1).2.trans h2⟩⟩,R.len,fun i o e h=>?_⟩,ff⟩
 ·have:=kp b o (R.wd.fr b o h).1;exact ⟨this.1,this.2.trans (R.wd.fr b o h).2⟩
 ·have h':(if b=x then some (Root.obj S.length) else if b=dx then none else w.ow b)=some r:=h;split at h'
  ·rename_i z;rw [z];exact .inr hBx
  ·split at h'
   ·cases h'
   ·exact R.wd.own b r h'
 ·by_cases hm:m<S.length
  ·rw [yaE hm] at h;obtain ⟨b,e,y⟩:=R.wd.obj m ob h;exact ⟨b,ff.mu _ _ e,y.keep ff fun b o hb _=>kp b o hb⟩
  ·have hm':m=S.length:=by
    have:=(yap.mp h).1;rw [yar,List.length_singleton] at this;omega
   subst hm';rw [yaA (yah _),ycE] at h;cases h;refine ⟨x,?_,if_pos rfl,dx,[],zag,.nil⟩;show (w.mu++[x])[S.length]?=some x;rw [yaA (by rw [R.wd.len];exact yah _),R.wd.len,ycE];rfl
 ·obtain ⟨v,e1,y⟩:=R.slots i o e h;exact ⟨v,e1,y.keep ff fun b o hb hr=>⟨(kp b o hb).1,(kp b o hb).2.trans hr⟩⟩
end
noncomputable def zop(cn f:Str)(d:D)(S:Sto):Option D:=match d with
 | .ref n=>(match S[n]? with
  | some ob=>if ob.cls=cn then (match ob.fs.lookup f with | some (false,d)=>some d | _=>none) else none
  | none=>none)
 | _=>none
def zra(cn f:Str)(fe:Fe):Fe:=fun ρ S=>(fe ρ S).bind fun d S1=>match zop cn f d S1 with | some r=>.ok r S1 | none=>.bad
noncomputable def zf8(cl:Cf)(cn f:Str):Prop:=Cls cl.K (cl cn)/\zcd cl.K (cl cn) f
section
variable{cl:Cf}{cn:Str}{X:Cx}{E:St->XK}{e:Expr}{fe:Fe}{f:Str}{pos:Pos}{B:Base}{σ:St}{w:Wd}{ρ:Env}{S:Sto}
def zfq(R:Rel cl B σ w ρ S)(hv:Shd cl w v (.ref n))(hn:S[n]?=some ob):∃a dx fs,v=.ref a/\w.mu[n]?=some a/\w.ow a=some (.obj n)/\w.H a=some (.ins (cl ob.cls) dx fs)/\zcw cl w n fs ob.fs:=by
 cases hv with
 | ref e =>
  obtain ⟨h1,dx,fs,h2,h3⟩:=R.wd.atObj hn e;exact ⟨_,dx,fs,rfl,e,h1,h2,h3⟩
def ztJ(hk:zf8 cl cn f)(R:Rel cl B σ w ρ S)(hv:Shd cl w v d)(hd:zop cn f d S=some r):∃a C dx fs y,v=.ref a/\w.H a=some (.ins C dx fs)/\Cls cl.K C/\zcd cl.K C f/\fs.lookup f=some y/\Shd cl w y r:=by
 unfold zop at hd
 cases d with
 | ref n =>
  dsimp only at hd
  cases hS:S[n]? with
  | none=>rw [hS] at hd;cases hd
  | some ob =>
   rw [hS] at hd;dsimp only at hd;split at hd
   ·rename_i hfk;split at hd
    ·rename_i d hl;cases hd;obtain ⟨a,dx,fs,rfl,_,_,hH,hF⟩:=zfq R hv hS;obtain ⟨v,lv,fr⟩:=hF.look hl
     rcases fr with ⟨_,fr⟩ | ⟨z,_⟩
     ·exact ⟨a,_,dx,fs,v,rfl,hH,hfk ▸ hk.1,hfk ▸ hk.2,lv,fr⟩
     ·cases z
    ·cases hd
   ·cases hd
 | _=>cases hd
def zrS(hk:zf8 cl cn f)(kk:X.K=cl.K)(he:PE X e (tE cl E fe))(hb:attributeBase e f X.env (eval e X.env)=eval e X.env):PE X (.Attribute e f pos) (tE cl E (zra cn f fe)):=by
 refine PE.imp (zbV he hb) ?_;rintro σ H Q ⟨B,w,ρ,S,rfl,R,q⟩;refine ⟨B,w,ρ,S,rfl,R,?_⟩;unfold zra at q
 cases hf:fe ρ S with
 | bad=>rwa [hf] at q
 | exc c S1=>rwa [hf] at q
 | ok d S1 =>
  rw [hf] at q;intro v w1 R1 F1 h1;dsimp only [Out.bind] at q
  cases hd:zop cn f d S1 with
  | none=>rw [hd] at q;exact q.elim
  | some r =>
   rw [hd] at q;obtain ⟨a,C,dx,fs,y,rfl,e1,e2,e3,e4,e5⟩:=ztJ hk R1 h1 hd;rw [kk];exact ⟨a,C,dx,fs,y,rfl,e1,e2,e3,e4,q y w1 R1 F1 e5⟩
end
end S2
namespace L2
open PySem PySem.Spec PyProof.Rows
end L2
namespace S2
open PySem PySem.Spec PyProof.Rows L2
def zkv(cn f:Str)(fo fe:Fe):Fs:=fun ρ S=>match fe ρ S with
 | .bad=>.bad
 | .exc c S1=>.ex c ρ S1
 | .ok r S1=>(match fo ρ S1 with
  | .bad=>.bad
  | .exc c S2=>.ex c ρ S2
  | .ok (.ref n) S2=>(match S2[n]? with
   | some ob=>if decide (ob.cls=cn)&&decide (ob.fs.length<1000) then .nx ρ (S2.set n (ob.put f false r)) else .bad
   | none=>.bad)
  | .ok _ _=>.bad)
noncomputable def zby(c m:Str)(d:D)(S:Sto):Bool:=match d with
 | .ref n=>(match S[n]? with | some ob=>decide (ob.cls=c)&&(ob.fs.lookup m).isNone | none=>false)
 | _=>false
def zdG(c m:Str)(G:List D->Sto->Out D)(fo:Fe)(fs:List Fe):Fe:=fun ρ S=>(fo ρ S).bind fun d S1=>if zby c m d S1 then (zai fs ρ S1).bind fun ds S2=>G (d::ds) S2 else .bad
def eMk(c:Str)(dds:List D)(G:List D->Sto->Out D)(fs:List Fe):Fe:=fun ρ S=>(zai fs ρ S).bind fun ds S1=>(G (.ref S1.length::(ds++dds)) (S1++[⟨c,[]⟩])).bind fun r S2=>match r with | .non=>.ok (.ref S1.length) S2 | _=>.bad
structure Same'(cl:Cf)(X:Cx):Prop where
 kk:X.K=cl.K
 pp:X.prog=cl.P
 ww:X.w=cl.wo
section
variable{cl:Cf}{cn:Str}{X:Cx}{E:St->XK}{a o e:Expr}{fa fo fe:Fe}{f:Str}{pos apos:Pos}{own:Bool}
def zo2(sm:Same' cl X)(hk:zf8 cl cn f)(ho:PE X o (tE cl E fo))(he:PE X e (tE cl E fe))(hs:swapsWith e (some (.Attribute o f apos)) pos.line X.env=pure false):PS X (.Assign [.Attribute o f apos] e pos) (tS cl E own (zkv cn f fo fe)):=by
 refine PS.imp (zkO ho he hs) ?_;rintro De σ H ⟨B,w,ρ,S,rfl,R,q⟩;refine ⟨B,w,ρ,S,rfl,R,?_⟩;unfold zkv at q
 cases hf:fe ρ S with
 | bad=>rwa [hf] at q
 | exc c S1=>rw [hf] at q;exact fun w' R' F'=>q σ w' R' F'
 | ok r S1 =>
  rw [hf] at q;intro v w1 R1 F1 h1;dsimp only at q;refine ⟨B,w1,ρ,S1,rfl,R1,?_⟩
  cases hfo:fo ρ S1 with
  | bad=>rwa [hfo] at q
  | exc c S2=>rw [hfo] at q;exact fun w' R' F'=>q σ w' R' (F1.trans F')
  | ok d S2 =>
   rw [hfo] at q;intro y w2 R2 F2 h2
   cases d with
   | ref n =>
    dsimp only at q
    cases hS:S2[n]? with
    | none=>rw [hS] at q;exact q.elim
    | some ob =>
     rw [hS] at q;dsimp only at q;split at q
     ·rename_i hc0;rw [yab] at hc0;obtain ⟨a,dx,fs,rfl,hmu,how,hH,hF⟩:=zfq R2 h2 hS;rw [sm.kk];refine ⟨a,_,dx,fs,rfl,hH,yao hc0.1 ▸ hk.1,yao hc0.1 ▸ hk.2,by rw [hF.len];exact yao hc0.2,?_⟩;obtain ⟨R3,F3⟩:=R2.setf (f:=f) hS hmu how hH hF (h1.up F2);exact q σ _ R3 (F1.trans (F2.trans F3))
     ·exact q.elim
   | _=>exact q.elim
end
noncomputable def zgc(C:Addr)(m:Str)(sp:Sp)(dvs:List V)(E:St->XK)(ta:TE)(t:TA):TE:=fun σ H Q=>ta σ H fun x H1=>∃a dx fs,x=.ref a/\H1 a=some (.ins C dx fs)/\fs.lookup m=none ∧
 t σ H1 fun vs H2=>sp (x::(vs++dvs)) H2 Q (E σ)
noncomputable def znQ(C:Addr)(sp:Sp)(dvs:List V)(E:St->XK)(t:TA):TE:=fun σ H Q=>t σ H fun vs H1=>∀x dx,H1 x=none->H1 dx=none->dx≠x →
 sp (.ref x::(vs++dvs)) (upd (upd H1 dx (.own x)) x (.ins C dx [])) (fun v H2=>v=.non/\Q (.ref x) H2) (E σ)
section
variable{X:Cx}{CX:CXT}{k:Nat}{f C:Addr}{fd:FuncData}{ps:List Str}{sp:Sp}{dvs:List V}{ds:List Value}{E:St->XK}{x m:Str}{p pos apos:Pos}{e o:Expr}{es:List Expr}{ta:TE}{t:TA}
def zmH(he:PE X o ta)(c:Cls X.K C)(hm:Meth X.K C m f)(F:FnOk X.prog X.w X.K X.mg X.base CX k f fd ps sp)(hr:Room k X.A)(hb:zcs X.K fd ps ds)(hd:Vals dvs ds)(hx:zcP CX X E)(ha:PA X (e::es) t)
  (hst:starEach (e::es) X.env=(false,eval e X.env)::starEach es X.env) (hpl:(backTo pos (starEach es X.env)).any (·.1)=false)
  (ht:eval (.Call (.Attribute o m apos) (e::es) [] pos) X.env=(do
   let ov ← eval o X.env
   standAt apos.atName
   let (f,first) ← holding [ov] (getMethod ov m pl)
   callWith pos f first (backTo pos (starEach (e::es) X.env)) (backToKw pos (keywordEach [] X.env)))) :
  PE X (.Call (.Attribute o m apos) (e::es) [] pos) (zgc C m sp dvs E ta t):=by
 intro pins s σ H Q I h;refine PySem.W.methodCall_KW (pl:=pl) (thn (he pins s σ H _ I h) fun u s1 ⟨x,H1,I1,rx,a,dx,fs,ex,ea,l,q⟩=>?_) ht;subst ex;obtain rfl:u=Value.ref a:=rx;refine zfh I1 ea c hm l ?_;refine ycl (first:=[.ref a]) (h₀:=X.base) I.ok.mod.kin hm.kp (thn (ha pos pins s1 σ H1 _ I1 q) fun us s2 ⟨vs,H2,I2,r,q2⟩=>⟨I2.kIn,?_⟩) hst hpl;exact zfx (us:=.ref a::us) (vs:=.ref a::vs) F hr hb hd hx I2 (.cons rfl r) q2
def zkW(he:PE X o ta)(c:Cls X.K C)(hm:Meth X.K C m f)(F:FnOk X.prog X.w X.K X.mg X.base CX k f fd ps sp)(hr:Room k X.A)(hb:zcs X.K fd ps ds)(hd:Vals dvs ds)(hx:zcP CX X E)
  (ht:eval (.Call (.Attribute o m apos) [] [] pos) X.env=(do
   let ov ← eval o X.env
   standAt apos.atName
   let (f,first) ← holding [ov] (getMethod ov m pl)
   callWith pos f first (backTo pos (starEach [] X.env)) (backToKw pos (keywordEach [] X.env)))) :
  PE X (.Call (.Attribute o m apos) [] [] pos) (zgc C m sp dvs E ta zrj):=by
 intro pins s σ H Q I h;refine PySem.W.methodCall_KW (pl:=pl) (thn (he pins s σ H _ I h) fun u s1 ⟨x,H1,I1,rx,a,dx,fs,ex,ea,l,q⟩=>?_) ht;subst ex;obtain rfl:u=Value.ref a:=rx;refine zfh I1 ea c hm l ?_;exact PySem.W.callWith_K0 (first:=[.ref a]) I1.kIn hm.kp (zfx (us:=[.ref a]) (vs:=[.ref a]) F hr hb hd hx I1 (.cons rfl .nil) q)
def zkC(M:Mk X.K C f)(F:FnOk X.prog X.w X.K X.mg X.base CX k f fd ps sp)(hr:Room (k+1) X.A)(hb:zcs X.K fd ps ds)(hd:Vals dvs ds)
  (hx:zcP CX X E) (I:Inv X pins σ H s) (r:Vals vs us)
  (h:∀x dx,H x=none->H dx=none->dx≠x->sp (.ref x::(vs++dvs)) (upd (upd H dx (.own x)) x (.ins C dx [])) (fun v H2=>v=.non/\Q (.ref x) H2) (E σ)) :
  wpAny (model X.prog X.w) X.A (call (.ref C) us) (EP X pins σ Q) X.xe s:=by
 have hq:=h (s.heap.objs.size+1) s.heap.objs.size (I.hok.fresh (ybE _)) (I.hok.fresh (yah _)) (yas (ybS _));have I2:=Inv.made (C:=C) I;have r2:Vals (V.ref (s.heap.objs.size+1)::(vs++dvs)) (Value.ref (s.heap.objs.size+1)::(us++ds)):=.cons rfl (r.append hd)
 have hl:(Value.ref (s.heap.objs.size+1)::us++ds).length=ps.length:=by
  have e:=r2.length;rw [F.len _ _ _ _ hq] at e;exact e.symm
 refine yc8 (zmY (f:=f) I.kIn M.makes M.init (ycd.mp M.fn) (ybK (F.run _ X.stack _ _ ⟨Value.ref (s.heap.objs.size+1)::us,[]⟩ (Value.ref (s.heap.objs.size+1)::(us++ds)) _ _ (E σ) (hr.make C us [])
  (I2.env0.make C us []) (hb _ (Value.ref (s.heap.objs.size+1)::us) I2.kIn hl) r2 hq) fun r s' hq'=>?_))
 cases r with
 | error e=>exact hx pins σ _ _ e s' I2 hq'
 | ok fl =>
  cases fl with
  | ret u =>
   obtain ⟨v,H',I3,rv,ev,q3⟩:=I2.after hq';subst ev;exact ⟨rv,⟨V.ref (s.heap.objs.size+1),H',I3,rfl,q3⟩⟩
  | next=>exact False.elim hq'
  | brk=>exact False.elim hq'
  | cont=>exact False.elim hq'
def zik(M:Mk X.K C f)(F:FnOk X.prog X.w X.K X.mg X.base CX k f fd ps sp)(hr:Room (k+1) X.A)(hg:Gl X x)(hm:X.mg x=some (.ref C))(hb:zcs X.K fd ps ds)(hd:Vals dvs ds)(hx:zcP CX X E)
  (ha:PA X (e::es) t) (hdb:(x == ("__debug__":Str))=false) (he:starEach (e::es) X.env=(false,eval e X.env)::starEach es X.env) (hpl:(backTo pos (starEach es X.env)).any (·.1)=false) :
  PE X (.Call (.Name x p) (e::es) [] pos) (znQ C sp dvs E t):=by
 intro pins s σ H Q I h;refine ybu (zdR I hg hm ?_ hdb);refine ycl (h₀:=X.base) I.ok.mod.kin M.kp (thn (ha pos pins s σ H _ I h) fun us s1 ⟨vs,H1,I1,r,q⟩=>⟨I1.kIn,?_⟩) he hpl;exact zkC M F hr hb hd hx I1 r q
end
section
variable{cl:Cf}{E:St->XK}{fs:List Fe}{fo:Fe}{G:List D->Sto->Out D}{σ:St}{H:Hp}{Q:VK}{n:Nat}{c m:Str}{ρ:Env}
theorem zdE:∀{fs:List Fe} {S S1:Sto} {ds:List D},zai fs ρ S=.ok ds S1->ds.length=fs.length
 | [],S,S1,ds,h=>by cases h;rfl
 | f::fs,S,S1,ds,h=>by
  unfold zai at h
  cases h1:f ρ S with
  | bad=>rw [h1] at h;cases h
  | exc c S2=>rw [h1] at h;cases h
  | ok d S2 =>
   rw [h1] at h;dsimp only [Out.bind] at h
   cases h2:zai fs ρ S2 with
   | bad=>rw [h2] at h;cases h
   | exc c S3=>rw [h2] at h;cases h
   | ok es S3=>rw [h2] at h;cases h;rw [yaj,yaj,zdE h2]
def zk5(R:Rel cl B σ w ρ S)(hv:Shd cl w v d)(h:zby c m d S=true):∃a dx fs,v=.ref a/\w.H a=some (.ins (cl c) dx fs)/\fs.lookup m=none:=by
 unfold zby at h
 cases d with
 | ref n =>
  dsimp only at h
  cases hS:S[n]? with
  | none=>rw [hS] at h;cases h
  | some ob =>
   rw [hS] at h;dsimp only at h;rw [yab] at h;obtain ⟨a,dx,fs,rfl,_,_,hH,hF⟩:=zfq R hv hS;have e:=yao h.1;subst e;exact ⟨a,dx,fs,rfl,hH,hF.miss (by simpa using h.2)⟩
 | _=>cases h
def zsZ(q:tE cl E (zdG c m G fo fs) σ H Q)(hn:fs.length+1=n):zgc (cl c) m (zgg cl n false G) [] E (tE cl E fo) (tAs cl E fs) σ H Q:=by
 obtain ⟨B,w,ρ,S,rfl,R,q⟩:=q;refine ⟨B,w,ρ,S,rfl,R,?_⟩;unfold zdG at q
 cases hfo:fo ρ S with
 | bad=>rwa [hfo] at q
 | exc c S1=>rwa [hfo] at q
 | ok d S0 =>
 rw [hfo] at q;intro v w0 R0 F0 h0;dsimp only [Out.bind] at q
 cases hok:zby c m d S0 with
 | false=>rw [hok] at q;exact q.elim
 | true =>
 rw [hok,if_pos rfl] at q;obtain ⟨a,dx,fs',rfl,hH,hm⟩:=zk5 R0 h0 hok;refine ⟨a,dx,fs',rfl,hH,hm,B,w0,ρ,S0,rfl,R0,?_⟩
 cases hf:zai fs ρ S0 with
 | bad=>rwa [hf] at q
 | exc c S1=>rw [hf] at q;exact fun w1 R1 F1=>q w1 R1 (F0.trans F1)
 | ok ds S1 =>
  rw [hf] at q;intro vs w1 R1 F1 h1;dsimp only at q;refine ⟨?_,w1.base,w1.inn,d::ds,S1,rfl,R1.wd.enter,?_,?_⟩
  ·rw [yaS,yaj,h1.length,zdE hf];exact hn
  ·rw [yaS];exact .cons ((h0.up F1).up (zbq w1)) (h1.up (zbq w1))
  cases hg:G (d::ds) S1 with
  | bad=>rwa [hg] at q
  | exc c S2 =>
   rw [hg] at q;intro w2 W2 F2;obtain ⟨R3,F3⟩:=R1.leave W2 F2;exact q (w1.back w2) R3 (F0.trans (F1.trans F3))
  | ok r S2 =>
   rw [hg] at q;intro v w2 W2 F2 r2;obtain ⟨R3,F3⟩:=R1.leave W2 F2;exact q v (w1.back w2) R3 (F0.trans (F1.trans F3)) (Shd.up (zbI W2) r2)
def zsY(q:tN cl E (zdG c m G fo fs) σ H Q)(hn:fs.length+1=n):zgc (cl c) m (zgg cl n true G) [] E (tE cl E fo) (tAs cl E fs) σ H Q:=by
 obtain ⟨B,w,ρ,S,rfl,R,q⟩:=q;refine ⟨B,w,ρ,S,rfl,R,?_⟩;unfold zdG at q
 cases hfo:fo ρ S with
 | bad=>rwa [hfo] at q
 | exc c S1=>rwa [hfo] at q
 | ok d S0 =>
 rw [hfo] at q;intro v w0 R0 F0 h0;dsimp only [Out.bind] at q
 cases hok:zby c m d S0 with
 | false=>rw [hok] at q;exact q.elim
 | true =>
 rw [hok,if_pos rfl] at q;obtain ⟨a,dx,fs',rfl,hH,hm⟩:=zk5 R0 h0 hok;refine ⟨a,dx,fs',rfl,hH,hm,B,w0,ρ,S0,rfl,R0,?_⟩
 cases hf:zai fs ρ S0 with
 | bad=>rwa [hf] at q
 | exc c S1=>rw [hf] at q;exact fun w1 R1 F1=>q w1 R1 (F0.trans F1)
 | ok ds S1 =>
  rw [hf] at q;intro vs w1 R1 F1 h1;dsimp only at q;refine ⟨?_,w1.base,w1.inn,d::ds,S1,rfl,R1.wd.enter,?_,?_⟩
  ·rw [yaS,yaj,h1.length,zdE hf];exact hn
  ·rw [yaS];exact .cons ((h0.up F1).up (zbq w1)) (h1.up (zbq w1))
  cases hg:G (d::ds) S1 with
  | bad=>rwa [hg] at q
  | exc c S2 =>
   rw [hg] at q;intro w2 W2 F2;obtain ⟨R3,F3⟩:=R1.leave W2 F2;exact q (w1.back w2) R3 (F0.trans (F1.trans F3))
  | ok r S2 =>
   rw [hg] at q;intro v w2 W2 F2 r2;obtain ⟨R3,F3⟩:=R1.leave W2 F2;obtain ⟨a,o,i,rfl,k1,k2,t⟩:=r2;have hfr:w1.base.Fr a=none:=(W2.own a _ k1).elim (fun z=>by cases z) fun z=>z
   have k3:(w1.back w2).ow a=some .far:=by
    show (if (w1.base.Fr a).isSome=true then w1.ow a else Root.out (w2.ow a))=_;rw [hfr,k1];rfl
   have hb:B.Fr a=none:=by
    cases z:B.Fr a with
    | none=>rfl
    | some u=>rw [zcn R1.wd z] at hfr;cases hfr
   have hd:=zhA (w:=w1.back w2) (a:=a) (by rw [k3];exact yaC _);have:=q a o ((w1.back w2).del a) (R3.del k3 hb) (F0.trans (F1.trans (F3.trans hd))) (if_pos rfl) ((t.up (zbI W2)).up hd);rwa [zjW (w:=w1.back w2) k2] at this
def zwu(hdv:∀w,Shds cl w dvs dds)(q:tE cl E (eMk c dds G fs) σ H Q)(hn:fs.length+dds.length+1=n):znQ (cl c) (zgg cl n false G) dvs E (tAs cl E fs) σ H Q:=by
 obtain ⟨B,w,ρ,S,rfl,R,q⟩:=q;refine ⟨B,w,ρ,S,rfl,R,?_⟩;unfold eMk at q
 cases hf:zai fs ρ S with
 | bad=>rwa [hf] at q
 | exc c S1=>rwa [hf] at q
 | ok ds S1 =>
  rw [hf] at q;intro vs w1 R1 F1 h1;dsimp only [Out.bind] at q;intro x dx hx hdx ne;obtain ⟨R2,F2⟩:=R1.made (c:=c) hx hdx ne
  have hmu:(w1.addO x dx (cl c) S1.length).mu[S1.length]?=some x:=by
   show (w1.mu++[x])[S1.length]?=some x;rw [yaA (by rw [R1.wd.len];exact yah _),R1.wd.len,ycE];rfl
  refine ⟨?_,(w1.addO x dx (cl c) S1.length).base,(w1.addO x dx (cl c) S1.length).inn,.ref S1.length::(ds++dds),S1++[⟨c,[]⟩],rfl,R2.wd.enter,?_,?_⟩
  ·rw [yaj,yar,h1.length,zdE hf,(hdv w1).length];exact hn
  ·exact .cons (.ref hmu) (((h1.up F2).up (zbq _)).append (hdv _))
  cases hg:G (.ref S1.length::(ds++dds)) (S1++[⟨c,[]⟩]) with
  | bad=>rwa [hg] at q
  | exc c S2 =>
   rw [hg] at q;intro w2 W2 F3;obtain ⟨R3,F4⟩:=R2.leave W2 F3;exact q ((w1.addO x dx _ S1.length).back w2) R3 (F1.trans (F2.trans F4))
  | ok r S2 =>
   rw [hg] at q;intro v w2 W2 F3 r2
   cases r with
   | non =>
    obtain ⟨R3,F4⟩:=R2.leave W2 F3;refine ⟨by cases r2;rfl,q (.ref x) ((w1.addO x dx _ S1.length).back w2) R3 (F1.trans (F2.trans F4)) (.ref (F4.mu _ _ hmu))⟩
   | _=>exact q.elim
end
end S2
namespace L2
open PySem PySem.Spec PyProof.Rows
end L2
namespace S2
open PySem PySem.Spec PyProof.Rows L2
end S2
namespace L2
open PySem PySem.Spec PyProof.Rows
def zjy(l:Addr)(items:Array Value)(n:Nat)(b:Addr)(items2:Array Value)(hc0:¬(!items.isEmpty&&Builtin.List.listTooLong (items.size+items2.size))=true)(hc1:items.size<=sizeLine)(hs2:items.size+items2.size<=sizeLine+1) :
  Meets (Builtin.«list.extend» ⟨[.ref l,.ref b],[]⟩) (fun _ R s=>s.heap.get? l=some { cls:=.type "list",dict:=none,data:=.seq items n,slots:=#[] }/\IsTup s.heap b items2/\R (.ok (.ret Value.none)) { s with heap:=s.heap.update l (Obj.mapSeq fun x=>x++items2),toks:=s.toks }) :=
 .of_wp fun prog w A R s h=>by
  obtain ⟨hl,⟨o,ho,hc,n2,hd⟩,h⟩:=h
  have hz':(items++items2).size<=sizeLine+1:=by rw [Array.size_append];exact hs2
  show wpAny _ A.in1 (Builtin.List.listExtendWith (.ref l) (.ref b) .none) _ _ s;unfold Builtin.List.listExtendWith;refine yaa (ybZ ⟨o,ho,hc⟩ ?_)
  have h1:(Builtin.List.listSameRef (.ref l) (.ref b)||Value.type "tuple" == Value.type "list" || Value.type "tuple" == Value.type "tuple")=true:=by simp
  simp only [h1,ybU];refine yaa ?_;unfold Builtin.List.listItems;refine yaa (ybq ho hd (yad ?_));refine yaa ?_;refine yaa (ybq hl rfl (yad ?_));rw [if_neg hc0];show wpAny _ A.in1 (updateSeq l (·++items2) >>= fun _=>ret .none) _ _ s;refine yaa (wpAny_updateSeq hl rfl ?_ hc1 hz');exact yad ⟨_,rfl,h⟩
variable{X:Cx}
noncomputable def zmx:V->List V->Hp->VK->Prop:=fun x vs H Q=>∃l b xs zs,x=.ref l/\vs=[.ref b]/\H l=some (.lst xs)/\H b=some (.tup zs)/\xs.length+zs.length<=sizeLine/\Q .non (upd H l (.lst (xs++zs)))
def zjp:MtM X "list.extend" zmx:=by
 intro pins s σ H x vs v us Q I rx rv h;obtain ⟨l,b,xs,zs,rfl,rfl,hH,hB,hz,q⟩:=h;cases rx;obtain ⟨u,rfl,ru⟩:=rv.one;cases ru;obtain ⟨z,its,n,r,hl,e⟩:=I.lstM hH;obtain ⟨its2,r2,e2,z2⟩:=I.tuple (SqT.of hB);have hl2:zs.length=its2.length:=r2.length
 have hsz:its.toArray.size+its2.toArray.size<=sizeLine:=by rw [yai,yai];omega
 have hlong:¬ (!its.toArray.isEmpty&&Builtin.List.listTooLong (its.toArray.size+its2.toArray.size))=true:=by
  rw [ziw hsz,Bool.and_false];exact yaP
 refine ycP F.slot_list_extend ⟨_,e,rfl⟩ F.entry_list_extend (F.args_list_extend_2 _ _)
  (zjy l its.toArray n b its2.toArray hlong (by rw [yai];omega) (by omega)) ⟨e,e2,?_⟩
 refine ⟨.non,_,I.lset (its':=its++its2) hH e (by simp) (r.append r2) ?_,rfl,q⟩;rw [yar];omega
end L2
namespace S2
open PySem PySem.Spec PyProof.Rows L2
def zhj(i:Nat)(fe:Fe):Fs:=fun ρ S=>match ρ[i]? with
 | some (some (true,.lst l))=>(match fe ρ S with
  | .ok (.tup k) S'=>if zaE (l.length+k.length) then .nx (ρ.set i (some (true,.lst (l++k)))) S' else .bad
  | .ok _ _=>.bad
  | .exc c S'=>.ex c ρ S' | .bad=>.bad)
 | _=>.bad
section
variable{X:Cx}{cl:Cf}{E:St->XK}{own:Bool}{e:Expr}{f:Fe}{pos pos':Pos}
def zo5(hN:X.N[i]?=some x)(hv:Vis X.env.scope x)(hd:(x == ("__debug__":Str))=false)(hcd:(x == ("__classdict__":Str))=false)(he:PE X e (tH cl E f))
  (hpl:zbi e=true) (hln:(ap.endLine == cp.line)=true):PS X (.Expr (.Call (.Attribute (.Name x pos') "extend" ap) [e] [] cp) pos) (tS cl E own (zhj i f)):=by
 refine PS.imp (zdb (zjm (es:=[]) ya7 PySem.F.slot_list_extend PySem.F.type_list_extend zjp (zaD hN hv hd hcd) (zaF he zbx (zaO hpl)) (hfew:=zgO (by simp [hpl]) (by simp)) (hline:=hln) (hs:=zaO hpl) (hplain:=rfl))) ?_;rintro De σ H ⟨B,w,ρ,S,rfl,R,q⟩;unfold zhj at q;split at q
 ·rename_i l hl;obtain ⟨a,xs,e1,h1,h2,t⟩:=R.list hl;refine ⟨_,e1,.inl ⟨rfl,_,SqL.of h2⟩,B,w,ρ,S,rfl,R,?_⟩
  cases hf:f ρ S with
  | bad=>rwa [hf] at q
  | exc c S1=>rw [hf] at q;exact fun w' R' F'=>q σ w' R' F'
  | ok d S1 =>
   rw [hf] at q;intro v w' R' F' h'
   cases d with
   | tup k =>
    dsimp only at q
    cases hz:zaE (l.length+k.length) with
    | false=>rw [hz,if_neg (by decide)] at q;exact q.elim
    | true =>
     rw [hz,if_pos rfl] at q;obtain ⟨a',xs',e1',h1',h2',t'⟩:=R'.list hl;rw [e1] at e1';cases e1';obtain ⟨b,zs,rfl,eb,_,rb⟩:=(h'.top R').tupI;refine ⟨a,b,xs',zs,rfl,rfl,h2',eb,by rw [t'.length,rb.length];exact zaK hz,?_⟩;exact q σ (w'.mut a (.lst (xs'++zs))) (R'.mut (d0:=.non) e1 h1' (.lst (t'.append rb))) (F'.trans (zcG (by rw [h1'];exact yaC _)))
   | _=>exact q.elim
 ·exact q.elim
end
end S2
namespace PySem
open Sem (wp)
namespace F
def zgD:typeLookup (.type "list") "keys" = pure none:=by rw [typeLookup_type,ycH];kernel_rfl
end F
section
variable{prog:Program}{w:World}{A:Around}{E:Z5}{s:Shared}{a:Addr}{o:Obj}
theorem zlg{xs:Array Value}{k:Nat}{sl:Array (Option Value)}{Q:Option Value->Shared->Prop}(hx:s.heap.get? a=some { cls:=.type "list",dict:=none,data:=.seq xs k,slots:=sl })(hA:A.handled=none)
  (h:∀h' tk,(∀b o,s.heap.get? b=some o->h'.get? b=some o)->Q none { s with heap:=h',toks:=tk }) :
  wpAny (model prog w) A (getAttr? (.ref a) "keys") Q E s:=by
 obtain ⟨hp,g,d,tk,os⟩:=s;have hT:∀tk',(⟨hp,g,d,tk',os⟩:Shared).TypeIs (.ref a) "list":=fun _=>⟨_,hx,rfl⟩
 have f1:=sub_AttributeError;have f3:=ycf.lookup;have f4:=ycf.bind (.ref a);have f5:=am_list_getattr_none;unfold getAttr? getAttrBy? getAttrBy
 repeat (any_goals (first | assumption | exact hT _ | ((with_reducible show wpAny _ _ (call (Value.builtin "list.__getattribute__") _ _) _ _ _);refine ycP ycf (hT _) am_entry_list_getattribute (F.args_list_getattribute_2 _ _) (meets_getattribute_miss_list a xs k sl "keys" _ F.zgD (by decide)) ⟨hx,hA,fun h' tk' e hx'=>?_⟩) | wp_step))
 obtain ⟨t',u',he⟩:=hx'.there;show wpAny _ _ (getattributeRaised _ _ _ _ _ _ _) _ _ _;unfold getattributeRaised
 repeat (any_goals (first | assumption | wp_step))
 exact h _ _ fun b o e=>hx'.keeps b o e
end
namespace F
def zbn:entryFor table "dict.update.loop" = some Builtin.«dict.update.loop»:=entryFor_of_tree (by kernel_rfl)
theorem zay:plainId "dict.update.loop" = true:=by decide +kernel
end F
end PySem
namespace ST
open PySem PySem.Spec PyProof.Rows
section
variable{prog:Program}{w:World}{K:Type}[DecidableEq K]{knd:KeyKind prog w K}{A:Around}{R:Result->Shared->Prop}{I:Addr}{fp wr:List Addr}{G:Array GenState->Array GenState->Prop}{n:Nat}{P:Nat->Value->Prop}{St:Nat->Shared->Prop}
noncomputable def zn0(ks:Nat->K)(vf:Nat->Value)(i:Nat):List (K×Value):=(List.range i).foldl (fun acc j=>stored acc (ks j) (vf j)) []
def zes{ks:Nat->K}{vf:Nat->Value}{i:Nat}:zn0 ks vf (i+1)=stored (zn0 ks vf i) (ks i) (vf i):=by
 unfold zn0;rw [ybQ,List.foldl_append];rfl
theorem zig{ks:Nat->K}{vf:Nat->Value}:∀{i:Nat},(zn0 ks vf i).length<=i
 | 0=>yah _
 | i+1=>by
  rw [zes];refine yam ?_ (Nat.succ_le_succ (zig (ks:=ks) (vf:=vf) (i:=i)));unfold stored;split
  ·rw [yae];exact ybE _
  ·rw [yar];exact yah _
theorem zlI(W:WalksS prog w A.in1 I fp wr G n P St)(S:Addr)(hSf:S ∉ fp)(T:Nat->Addr)(ks:Nat->K)(kf vf:Nat->Value)(hval:∀i v,P i v->v=.ref (T i))(hk:∀i,i<n->knd.is (ks i) (kf i)=true)(hT:∀i,i<n->T i ∉ S::wr)(hn:n<=sizeLine) :
  ∀(k i:Nat) (tk:Tok) (s:Shared),n-i=k->i<=n->St i s->s.heap.DictOf knd S (zn0 ks vf i)->(∀i,i<n->s.heap.IsTuple (T i) #[kf i,vf i]) →
   (∀s',Moved (S::wr) G s s'->s'.heap.DictOf knd S (zn0 ks vf n)->R (.ok (.ret .none)) s') →
   codeAny (model prog w) A (.builtin "dict.update.loop" ⟨[.ref S,.ref I,.int i tk,.none],[]⟩) R s:=by
 have hSw:S ∉ wr:=fun h=>hSf (W.sub _ h)
 have hsub:∀b∈wr,b∈S::wr:=fun b hb=>yan _ hb
 intro k
 induction k with
 | zero =>
  intro i tk s hk' hi hst hS hTs hR
  have hin:i=n:=by omega
  subst hin;refine ybj PySem.F.zbn ?_;rw [ybk PySem.F.zay _];show wpAny _ A.in1 (pyNext (.ref I) >>= _) _ _ s;refine yaa (W.done s _ _ hst fun s' hm=>?_);show wpAny _ A.in1 (Builtin.Dict.addKeywords S [] >>= _) _ _ s';exact yaa (yad (yad (hR s' (hm.mono hsub) (hS.at fun o ho=>hm.heap S _ hSw ho))))
 | succ k ih =>
  intro i tk s hk' hi hst hS hTs hR
  have hlt:i<n:=by omega
  refine ybj PySem.F.zbn ?_;rw [ybk PySem.F.zay _];show wpAny _ A.in1 (pyNext (.ref I) >>= _) _ _ s;refine yaa (W.item i s _ _ hlt hst fun v s' hP hst' hm=>?_);obtain rfl:=hval i v hP
  have hTs':∀i,i<n->s'.heap.IsTuple (T i) #[kf i,vf i]:=fun i hi=>by
   obtain ⟨o,ho,r⟩:=hTs i hi;exact ⟨o,hm.heap _ _ (fun z=>hT i hi (hsub _ z)) ho,r⟩
  have hS':=hS.at (h':=s'.heap) fun o ho=>hm.heap S _ hSw ho
  refine yaa (yaW (yaa ?_));refine wpAny_tryCatch ?_;unfold Builtin.Dict.pairItems;obtain ⟨ot,hot,hct,nt,hdt⟩:=hTs' i hlt;have hTy:s'.TypeIs (.ref (T i)) "tuple":=⟨ot,hot,hct⟩;refine yaa (ybZ hTy ?_);rw [if_pos (by decide)];refine yaa (ybq hot hdt (yad ?_));show wpAny _ _ (holding [kf i,vf i] (dictSet S (kf i) (vf i))) _ _ _;refine yaW (wpAny_dictSet_pairs (hk i hlt) hS' (fun h' hd hsb=>?_) (yam zig (by omega)));rw [<-zes] at hd;refine yad ⟨ycO PySem.F.zay _,?_⟩;refine ih (i+1) _ _ (by omega) hlt (W.frame _ s' _ _ hst' (ybE _) fun b hb o e=>?_) hd (fun j hj=>?_) fun s'' hm'' hS''=>?_
  ·rw [hsb.2 b (fun h:b=S=>hSf (by rw [<-h];exact hb))];exact e
  ·obtain ⟨o,ho,r⟩:=hTs' j hj;exact ⟨o,(hsb.2 _ (fun z=>hT j hj (by rw [z];exact yav))).trans ho,r⟩
  ·refine hR s'' (Moved.trans W.gtrans ((hm.mono hsub).then_heap (ybE _) fun b o hb e=>?_) hm'') hS'';rw [hsb.2 b (fun h:b=S=>hb (by rw [h];exact yav))];exact e
end
end ST
namespace PySem
section
variable{prog:Program}{w:World}{K:Type}[DecidableEq K]{knd:KeyKind prog w K}{A:Around}{E:Z5}{s:Shared}
theorem zjI{l:Addr}{items:Array Value}{Q:Z5}(T:Nat->Addr)(ks:Nat->K)(kf vf:Nat->Value)(hh:A.handled=none){kl:Nat}{sl:Array (Option Value)}(hl:s.heap.get? l=some { cls:=.type "list",dict:=none,data:=.seq items kl,slots:=sl })
  (hi:∀(i:Nat) (v:Value),items[i]?=some v->v=.ref (T i)) (hk:∀i,i<items.size->knd.is (ks i) (kf i)=true) (hT:∀i,i<items.size->s.heap.IsTuple (T i) #[kf i,vf i]) (hn:items.size<=sizeLine)
  (h:∀(h':Heap) (tk:Nat),h'.DictOf knd s.heap.objs.size (ST.zn0 ks vf items.size)->(∀b o,s.heap.get? b=some o->h'.get? b=some o)->Q (.ref s.heap.objs.size) { s with heap:=h',toks:=tk }) :
  wpAny (model prog w) A (call (.type "dict") [.ref l]) Q E s:=by
 refine callType_codes (Q₁:=fun obj s₁=>obj=.ref s.heap.objs.size/\s₁={ s with heap:=s.heap.push { cls:=.type "dict",data:=.dict #[] } }) F.kt_called_dict (F.kt_typeCall_dict_1 _) F.entry_dict_init (kt_code_dict_new _ ⟨rfl,rfl⟩) ?_;rintro obj s₁ ⟨rfl,rfl⟩;generalize hG:s.heap.push { cls:=.type "dict",data:=.dict #[] }=G;have hnew:G.DictOf knd s.heap.objs.size []:=hG ▸ Heap.DictOf.new s.heap;have upG:∀b o,s.heap.get? b=some o->G.get? b=some o:=fun b o e=>hG ▸ yaf _ e
 have hl':=upG _ _ hl;refine ⟨hnew.typeIs,F.args_dict_init_2 _ _,?_⟩;unfold Builtin.«dict.__init__»;refine yaa ?_;unfold Builtin.Dict.selfAndRest;refine yaa (wpAny_notOrdered_dict hnew.typeIs ?_);show wpAny _ _ (pure (s.heap.objs.size,[Value.ref l])) _ _ _;refine yad ?_;show wpAny _ _ (Builtin.Dict.updateFrom "dict.__init__" s.heap.objs.size (.ref l) [] .none) _ _ _;unfold Builtin.Dict.updateFrom;refine yaa (ybZ (T:="list") ⟨_,hl',rfl⟩ ?_);rw [if_pos (by decide)];refine yaa (zlg hl' (by simp [hh]) fun h₁ tk₁ k₁=>?_);refine yaa (yc3 ?_);have hl1:h₁.IsList l items:=⟨_,k₁ _ _ hl',rfl,_,rfl⟩;refine yaa (ycw hl1 ?_);have hlS:l<s.heap.objs.size:=yak hl
 have hS1:s.heap.objs.size<h₁.objs.size:=by
  obtain ⟨o,_,_,ho,_⟩:=hnew;exact yak (k₁ _ _ ho)
 have hh3:A.in1.in1.handled=none:=by simp [hh]
 have hneI:l≠h₁.objs.size:=yas (Nat.lt_trans hlS hS1);have kP:∀b o,s.heap.get? b=some o->∀o',(h₁.push o').get? b=some o:=fun b o e o'=>yaf _ (k₁ _ _ (upG _ _ e))
 refine yad ⟨ycO F.zay _,?_⟩;refine ST.zlI ((Walks.list hh3 _ l hneI items).toS) s.heap.objs.size ?_ T ks kf vf hi hk (fun i hi=>?_) hn (items.size-0) 0 _ _ (by omega) (ya2 _) ⟨⟨_,yal _ rfl,rfl,rfl⟩,(hl1.push _)⟩ ?_ (fun i hi=>?_) ?_
 ·simp only [yaw,yaH,ybJ,yde,not_or];exact ⟨yas hS1,yaT hlS⟩
 ·obtain ⟨o,ho,_⟩:=hT i hi;have:=yak ho;simp only [yaw,yaH,ybJ,yde,not_or];exact ⟨yas this,yas (Nat.lt_trans this hS1)⟩
 ·exact (hnew.at fun o e=>yaf _ (k₁ _ _ e))
 ·obtain ⟨o,ho,r⟩:=hT i hi;exact ⟨o,kP _ _ ho _,r⟩
 ·intro s' hm hS';obtain ⟨h',g',d',tk',os'⟩:=s';have eg:g'=s.gens:=hm.gens;have ed:d'=s.drawn:=hm.drawn;have eo:os'=s.os:=hm.os;subst eg;subst ed;subst eo;refine ⟨rfl,h h' tk' hS' fun b o e=>?_⟩;have hb1:b≠s.heap.objs.size:=yas (yak e);have hb2:b≠h₁.objs.size:=yas (Nat.lt_trans (yak e) hS1);exact hm.heap b o (by simp only [yaw,yaH,ybJ,yde,not_or];exact ⟨hb1,hb2⟩) (kP _ _ e _)
end
end PySem
namespace L2
open PySem PySem.Spec PySem.W PyProof.Rows
noncomputable def leS(a b:Str):Prop:=a.cps.toList<=b.cps.toList
noncomputable def zq8(x:Str):List Str->List Str
 | []=>[x]
 | y::r=>if decide (y.cps.toList<x.cps.toList) then y::zq8 x r else x::y::r
noncomputable def zel:List Str->List Str
 | []=>[]
 | x::r=>zq8 x (zel r)
theorem zeB(x:Str):∀l:List Str,(zq8 x l).Perm (x::l)
 | []=>.refl _
 | y::r=>by
  unfold zq8;split
  ·exact ((zeB x r).cons y).trans (List.Perm.swap x y r)
  ·exact .refl _
theorem zdM:∀l:List Str,(zel l).Perm l
 | []=>.refl _
 | x::r=>(zeB x (zel r)).trans ((zdM r).cons x)
def zgE{a b c:Str}(h:leS a b)(h':leS b c):leS a c:=List.le_trans h h'
theorem ziH(x:Str):∀l:List Str,l.Pairwise leS->(zq8 x l).Pairwise leS
 | [],_=>List.pairwise_singleton _ _
 | y::r,h=>by
  have h1:=ybw.mp h;unfold zq8;split
  ·rename_i hl;have hl:=yao hl;refine ybw.mpr ⟨fun z hz=>?_,ziH x r h1.2⟩
   rcases yaw.mp ((zeB x r).mem_iff.mp hz) with rfl | hz
   ·exact List.le_of_lt hl
   ·exact h1.1 z hz
  ·rename_i hl;have hl:¬ y.cps.toList<x.cps.toList:=fun z=>hl (yaQ z)
   have hxy:leS x y:=List.not_lt.mp hl;refine ybw.mpr ⟨fun z hz=>?_,h⟩
   rcases yaw.mp hz with rfl | hz
   ·exact hxy
   ·exact zgE hxy (h1.1 z hz)
theorem zgh:∀l:List Str,(zel l).Pairwise leS
 | []=>.nil
 | x::r=>ziH x _ (zgh r)
theorem zgp:∀(p:Str) (l:List Str),risingS p l=true->(p::l).Pairwise leS
 | p,[],_=>List.pairwise_singleton _ _
 | p,x::r,h=>by
  have h':(!ltCps x.cps.toList p.cps.toList&&risingS x r)=true:=h;rw [yab,ybC] at h';have ih:=zgp x r h'.2
  have hpx:leS p x:=by
   have e:=h'.1;rw [ltCps_eq] at e;exact List.not_lt.mp (of_decide_eq_false e)
  refine ybw.mpr ⟨fun z hz=>?_,ih⟩
  rcases yaw.mp hz with rfl | hz
  ·exact hpx
  ·exact zgE hpx ((ybw.mp ih).1 z hz)
theorem zki:∀(l:List Str),sortedS l=true->l.Pairwise leS
 | [],_=>.nil
 | x::r,h=>zgp x r h
def zmj{a b:Str}(h:a.cps.toList=b.cps.toList):a=b:=by
 cases a;cases b;simp only at h;congr 1;exact Array.toList_inj.mp h
def zi5{a b:List Str}(p:a.Perm b)(h:sortedS a=true):a=zel b :=
 List.Perm.eq_of_pairwise (le:=leS) (fun x y _ _ h1 h2=>zmj (List.le_antisymm h1 h2)) (zki a h) (zgh b) (p.trans (zdM b).symm)
section
variable{X:Cx}{pins:Z3}{σ:St}{H:Hp}{s:Shared}{a:Addr}{kvs:List (Key×V)}{A:Around}{E:Z5}{ks:List Str}
theorem zdY:∀{vs:List Value} {ss:List Str},StrsAre vs ss->Vals (ss.map V.str) vs
 | _,_,.nil=>.nil
 | _,_,.cons x t h=>.cons ⟨t,rfl⟩ (zdY h)
theorem zdZ:∀{ks:List Str} {vs:List Value} (h:vs.length=ks.length),(∀(i:Nat) (v:Value) (k:Str),vs[i]?=some v->ks[i]?=some k->∃t,v=Value.str k t)->StrsAre vs ks
 | [],[],_,_=>.nil
 | k::ks,v::vs,h,hv=>by
  obtain ⟨t,rfl⟩:=hv 0 v k rfl rfl;exact .cons k t (zdZ (by simpa using h) fun i v k h1 h2=>hv (i+1) v k (by simpa using h1) (by simpa using h2))
theorem zlf:∀{kvs:List (Key×V)} {vs:List (Key×Value)},KV kvs vs->kvs.map (·.1)=vs.map (·.1)
 | _,_,.nil=>rfl
 | _,_,.cons h t=>by rw [yaz,yaz,h.1,zlf t]
def zm8{P:Program}{w:World}{k:Str}{v:Value}(h:(zav P w).is (Sum.inr k) v=true):∃t,v=Value.str k t:=by
 have h':Value.isStrOf k v=true:=h
 cases v<;>first | (cases h';done) | skip
 rename_i x t
 have e:x=k:=by simpa [Value.isStrOf] using h'
 exact ⟨t,by rw [e]⟩
theorem znt{Q:Z5}(hh:A.handled=none)(I:Inv X pins σ H s)(e:Rd H a (.dK kvs))(hk:kvs.map (·.1)=ks.map Sum.inr)(h64:ks.length<64)
  (h:∀p s',H p=none->Inv X pins σ (upd H p (.lst ((zel ks).map V.str))) s'->Q (.ref p) s'):wpAny (model X.prog X.w) A (call (.builtin "sorted") [.ref a]) Q E s:=by
 obtain ⟨z,hd,vs,rel,dd⟩:=zeZ I.hok e;obtain ⟨ep,da⟩:=dd.dictAt
 have hlen:vs.length=ks.length:=by
  rw [<-rel.length];have:=congrArg List.length hk;simpa using this
 have hkeys:vs.map (·.1)=ks.map Sum.inr:=by
  rw [<-hk];exact (zlf rel).symm
 refine Calls.call_function_entry kind_sorted plain_sorted entry_sorted (args_sorted1 _) ?_;unfold Builtin.«sorted»;refine yaa (m:=checkCount "sorted" 1 1 _) (yad ?_);refine yaa (kdu_collect (A:=A.in1) (kdl_dict (prog:=X.prog) hd) hh da (by rw [hlen,ydb];omega) fun h' tk acc kp hacc=>?_)
 have hl:acc.toList.length=ks.length:=by rw [yay,hacc.1,hlen]
 have hS:StrsAre acc.toList ks:=zdZ hl fun i v k h1 h2=>by
  obtain ⟨k',x,e1,e2⟩:=hacc.2 i v (by rw [<-yaM];exact h1);have e3:=congrArg (fun l=>l[i]?) hkeys;simp only [yaq,e1,h2,Option.map_some] at e3;cases e3;exact zm8 e2
 refine yaa (wpAny_newList ?_ (by rw [hl,ydb];omega));have hoL:(h'.push (seqObj "list" acc.toList.toArray 0)).get? h'.objs.size=some (seqObj "list" acc.toList.toArray 0):=yal _ rfl;refine yaa (yaW (yaY slot_list_sort ⟨_,hoL,rfl⟩ entry_list_sort (list_sort_treeK strKind_oneLt (s:={ s with heap:=h'.push (seqObj "list" acc.toList.toArray 0),toks:=tk }) hoL hS.keysOf (fun v₁ v₂ zbH e=>keyKind_strs (by rw [<-e];exact hS)) (by rw [hl];exact h64) fun st' hp hs=>⟨_,rfl,?_⟩) (args_list_sort _)));refine yad ⟨_,rfl,?_⟩;obtain ⟨ss',b1,b2,b3⟩:=sorted_out_str hS hp hs;obtain ⟨e',he⟩:=sortedHeap_at (out:=(arrOf st').map (·.2)) hoL;have I1:=I.kept kp (t':=tk);have eu:=zi5 b2 b3;refine h h'.objs.size _ (I1.hok.fresh (yah _)) (I1.laid (t':=tk) (o:=.lst ((zel ks).map V.str)) (fun b o hb=>?_) (yah _) (show zaI X.prog X.w _ _ _ (.lst _) from ⟨?_,((arrOf st').map (·.2)).toList,e',?_,?_⟩))
 ·have hlt:b<h'.objs.size:=yak hb;rw [sortedHeap_old (yas hlt) (by rw [size_push'];exact ybf hlt)];exact yaf _ hb
 ·rw [yae,(zdM ks).length_eq,ydb];omega
 ·rw [<-eu];exact zdY b1
 ·rw [Array.toArray_toList];exact he
end
open PySem PySem.Spec PyProof.Rows
noncomputable def kvS(ps:List (Str×V)):List (Key×V):=ps.foldl (fun acc p=>zfD acc (.inr p.1) p.2) []
theorem zqd{ps:List (Str×V)}:(kvS ps).length<=ps.length:=by
 have go:∀(ps:List (Str×V)) (acc:List (Key×V)),(ps.foldl (fun acc p=>zfD acc (.inr p.1) p.2) acc).length<=acc.length+ps.length:=by
  intro ps
  induction ps with
  | nil=>intro acc;exact yah _
  | cons p ps ih =>
   intro acc;have h1:=ih (zfD acc (.inr p.1) p.2);have h2:=zde acc (.inr p.1:Key) p.2;rw [yck,yaj];omega
 have:=go ps [];rwa [List.length_nil,Nat.zero_add] at this
section
variable{X:Cx}
theorem zf3(hc:X.calm=true):zcv X (.type "dict") (fun xs H Q=>∃(p:Addr) (qs:List Addr) (ps:List (Str×V)),xs=[.ref p]/\SqL X.K H p (qs.map V.ref)/\qs.length=ps.length/\(∀(i:Nat) q c,qs[i]?=some q->ps[i]?=some c->SqT X.K H q [.str c.1,c.2])/\∀l,H l=none->Q (.ref l) (upd H l (.dK (kvS ps)))):=by
 intro pins s σ H xs us Q I r h;obtain ⟨p,qs,ps,rfl,hq,hn,ht,q⟩:=h;obtain ⟨u,rfl,rx⟩:=zej r;cases rx;obtain ⟨its,rv,pl,hz⟩:=I.list hq
 have hl:its.length=ps.length:=by rw [<-rv.length,yae];exact hn
 have hz':ps.length<=sizeLine:=by rwa [yae,hn] at hz
 obtain ⟨o,kl,ho,hc1,hc2,hc3⟩:=pl;obtain ⟨c,dc,dt,sl⟩:=o;simp only at hc1 hc2 hc3;subst hc1 hc2 hc3
 have hch:∀i:Nat,∃kv:Value×Value,i<ps.length->s.heap.IsTuple (qs.getD i 0) #[kv.1,kv.2]/\zaL (.str (ps.getD i ("",.non)).1) kv.1/\zaL (ps.getD i ("",.non)).2 kv.2:=by
  intro i
  by_cases hi:i<ps.length
  ·have e1:qs[i]?=some (qs.getD i 0):=by rw [yax,yac (by omega)];rfl
   have e2:ps[i]?=some (ps.getD i ("",.non)):=by rw [yax,yac hi];rfl
   obtain ⟨ts,rt,pt,_⟩:=I.tuple (ht i _ _ e1 e2)
   cases rt with
   | cons r1 rt =>
    cases rt with
    | cons r2 rt=>cases rt;exact ⟨(_,_),fun _=>⟨pt,r1,r2⟩⟩
  ·exact ⟨(.none,.none),fun z=>absurd z hi⟩
 obtain ⟨kv,hkv⟩:=Classical.axiomOfChoice hch
 have hits:∀(i:Nat) (v:Value),its.toArray[i]?=some v->v=.ref (qs.getD i 0):=by
  intro i v hv;rw [ycG] at hv;have hi:i<its.length:=(yap.mp hv).1
  have e1:(qs.map V.ref)[i]?=some (.ref (qs.getD i 0)):=by rw [yaq,yax,yac (by omega)];rfl
  obtain ⟨u,hu,ru⟩:=rv.get e1;rw [hu] at hv;cases hv;exact ru
 have hsz:its.toArray.size=ps.length:=by rw [yai];exact hl
 refine zjI (knd:=zav X.prog X.w) (fun i=>qs.getD i 0) (fun i=>(.inr (ps.getD i ("",.non)).1:Key)) (fun i=>(kv i).1) (fun i=>(kv i).2) (I.ok.hd hc) ho hits (fun i hi=>zfK (k:=.inr _) (hkv i (hsz ▸ hi)).2.1) (fun i hi=>(hkv i (hsz ▸ hi)).1) (hsz ▸ hz') fun h' tk D k=>?_
 have rel:∀i,i<=ps.length->KV (kvS (ps.take i)) (ST.zn0 (fun i=>(.inr (ps.getD i ("",.non)).1:Key)) (fun i=>(kv i).2) i):=by
  intro i
  induction i with
  | zero=>intro _;exact .nil
  | succ i ih =>
   intro hi
   have e2:ps[i]?=some (ps.getD i ("",.non)):=by rw [yax,yac (by omega)];rfl
   rw [ST.zes,List.take_succ,e2];unfold kvS;rw [List.foldl_append];exact (ih (by omega)).put _ (hkv i (by omega)).2.2
 have rel':=rel ps.length (yah _);rw [List.take_length] at rel';rw [hsz] at D;refine ⟨.ref s.heap.objs.size,_,I.laid (t':=tk) (o:=.dK (kvS ps)) k (yah _) ⟨yam zqd hz',?_,_,rel',D⟩,rfl,q _ (I.hok.fresh (yah _))⟩;exact beq_false_of_ne (yaT I.big)
def ze0(hc:X.calm=true):zcv X (.builtin "sorted") (fun xs H Q=>∃(a:Addr) (kvs:List (Key×V)) (ks:List Str),xs=[.ref a]/\Rd H a (.dK kvs)/\kvs.map (·.1)=ks.map Sum.inr/\ks.length<64/\∀p,H p=none->Q (.ref p) (upd H p (.lst ((zel ks).map V.str)))):=by
 intro pins s σ H xs us Q I r h;obtain ⟨a,kvs,ks,rfl,ha,hk,h64,q⟩:=h;obtain ⟨u,rfl,rx⟩:=zej r;cases rx;exact znt (I.ok.hd hc) I ha hk h64 fun p s' hp I'=>⟨.ref p,_,I',rfl,q p hp⟩
end
end L2
namespace S2
open PySem PySem.Spec PyProof.Rows L2
noncomputable def zn4:List D->Option (List (Str×D))
 | []=>some []
 | .tup [.str k,d]::l=>(zn4 l).map ((k,d)::·)
 | _=>none
noncomputable def zuQ(ps:List (Str×D)):List (D×D):=ps.foldl (fun acc p=>putS p.1 p.2 acc) []
def zqG:List D->Option D | [.lst l]=>(zn4 l).map fun ps=>.dic (zuQ ps) | _=>none
section
variable{X:Cx}{cl:Cf}
theorem ziz{k x:Str}{d:D}:∀{ds:List (D×D)},zau ds=true->zaB x (putS k d ds)=if k=x then some d else zaB x ds
 | [],_=>rfl
 | (.str y,e)::r,h=>by
  unfold zau at h;rw [yab] at h;unfold putS
  by_cases hy:y=k
  ·subst hy;rw [if_pos rfl];unfold zaB
   by_cases hx:y=x
   ·rw [if_pos hx,if_pos hx]
   ·rw [if_neg hx,if_neg hx,if_neg hx]
  ·rw [if_neg hy];unfold zaB
   by_cases hx:y=x
   ·rw [if_pos hx,if_neg (fun z=>hy (hx.trans z.symm)),if_pos hx]
   ·rw [if_neg hx,ziz h.2,if_neg hx]
theorem ziq{k:Str}{d:D}:∀{ds:List (D×D)},zau ds=true->zau (putS k d ds)=true
 | [],_=>rfl
 | (.str y,e)::r,h=>by
  have h':=h;unfold zau at h;rw [yab] at h;unfold putS
  by_cases hy:y=k
  ·rw [if_pos hy];unfold zau;rw [yab];exact h
  ·rw [if_neg hy];unfold zau;rw [yab,ziz h.2,if_neg (fun z=>hy z.symm)];exact ⟨h.1,ziq h.2⟩
theorem zij{w:Wd}:∀{l:List D} {ps:List (Str×D)} {xs:List V},zn4 l=some ps->Shds cl w xs l->∃(qs:List Addr) (vs:List (Str×V)),xs=qs.map V.ref/\qs.length=vs.length/\(∀(i:Nat) q c,qs[i]?=some q->vs[i]?=some c->w.H q=some (.tup [.str c.1,c.2]))/\Paired (fun (v:Str×V) (p:Str×D)=>v.1=p.1/\Shd cl w v.2 p.2) vs ps
 | [],ps,xs,e,r=>by
  cases e;cases r;exact ⟨[],[],rfl,rfl,(fun i q c z=>by cases z),.nil⟩
 | .tup [.str k,d]::l,ps,xs,e,r=>by
  cases e1:zn4 l with
  | none=>rw [show zn4 (.tup [.str k,d]::l)=(zn4 l).map ((k,d)::·) from rfl,e1] at e;cases e
  | some ps' =>
   rw [show zn4 (.tup [.str k,d]::l)=(zn4 l).map ((k,d)::·) from rfl,e1] at e;cases e
   cases r with
   | cons r1 r2 =>
    obtain ⟨qs,vs,rfl,hn,hp,hv⟩:=zij e1 r2
    cases r1 with
    | tup ep k0 rt =>
     cases rt with
     | cons t1 t2 =>
      cases t2 with
      | cons t2 t3 =>
       cases t3;cases t1;refine ⟨_::qs,(k,_)::vs,rfl,congrArg Nat.succ hn,fun i q c h1 h2=>?_,.cons ⟨rfl,t2⟩ hv⟩
       cases i with
       | zero=>cases h1;cases h2;exact ep
       | succ i=>exact hp i q c h1 h2
theorem zif{w:Wd}:∀{vs:List (Str×V)} {ps:List (Str×D)} {kvs:List (Key×V)} {ds:List (D×D)},Paired (fun (v:Str×V) (p:Str×D)=>v.1=p.1/\Shd cl w v.2 p.2) vs ps->ShdK cl w kvs ds->zau ds=true →
  ShdK cl w (vs.foldl (fun acc p=>zfD acc (.inr p.1) p.2) kvs) (ps.foldl (fun acc p=>putS p.1 p.2 acc) ds)/\zau (ps.foldl (fun acc p=>putS p.1 p.2 acc) ds)=true
 | _,_,_,_,.nil,h,o=>⟨h,o⟩
 | _,_,_,_,.cons ⟨e,hv⟩ t,h,o=>by
  rw [yck,yck,e];exact zif t (h.putS o hv) (ziq o)
def zqL(hc:X.calm=true):zq2 X cl (.type "dict") zqG:=by
 intro pins s σ H xs us Q I r h;obtain ⟨w,ds,d,rfl,hx,hg,q⟩:=h;unfold zqG at hg;split at hg
 ·rename_i l;obtain ⟨ps,h1,rfl⟩:=yat.mp hg
  cases hx with
  | cons h2 h3 =>
   cases h3;obtain ⟨p,ys,rfl,ep,rs⟩:=h2.lstI;obtain ⟨qs,vs,rfl,hn,hp,hv⟩:=zij h1 rs;exact zf3 hc pins s σ w.H _ us Q I r ⟨p,qs,vs,rfl,SqL.of ep,hn,fun i q c e1 e2=>SqT.of (hp i q c e1 e2),fun l hl=>q _ _ w (Grow.refl _) hl (.dicK (zif hv .nil rfl).1)⟩
 ·cases hg
theorem zgj{w:Wd}:∀{l:List Str},Shds cl w (l.map V.str) (l.map D.str)
 | []=>.nil
 | i::l=>.cons (.str i) (zgj (l:=l))
end
end S2
namespace L2
open PySem PySem.Spec PyProof.Rows
def zmo{X:Cx}(hu:X.A.units+1<cLine):zxg X (fun o i v H Q=>∃a H',o=.ref a/\zq1 H a i v H'/\Q H'):=by
 intro pins s σ H o i v ov iv vv Q I ro ri rv h;obtain ⟨a,H',rfl,g,q⟩:=h;cases ro;exact zgW hu I g ri rv fun s' I'=>⟨H',I',q⟩
end L2
namespace S2
open PySem PySem.Spec PyProof.Rows L2
noncomputable def zts:Fe:=fun _ S=>.ok (.dic []) S
def zml(i:Nat)(ρ:Env):Option (List (D×D)):=match ρ[i]? with | some (some (true,.dic ds))=>if zau ds&&zaE ds.length then some ds else none | _=>none
def zpq(i:Nat)(fk fe:Fe):Fs:=fun ρ S=>match zml i ρ with
 | some ds=>(match fe ρ S with
  | .ok d S1=>(match fk ρ S1 with
   | .ok k S2=>(match k with
    | .str x=>.nx (ρ.set i (some (true,.dic (putS x d ds)))) S2
    | _=>.bad)
   | .exc c S2=>.ex c ρ S2 | .bad=>.bad)
  | .exc c S1=>.ex c ρ S1 | .bad=>.bad)
 | _=>.bad
section
variable{X:Cx}{cl:Cf}{E:St->XK}{own:Bool}{a b e:Expr}{f g fe fk:Fe}{pos pos':Pos}{i:Nat}{x:Str}{ap cp:Pos}
def zhi:PE X (.Dict [] [] pos) (tN cl E zts):=PE.imp zil fun σ H Q ⟨B,w,ρ,S,e,R,q⟩=>by
 subst e;intro p hp;exact q p _ w R (Fut.refl _) hp (.dicK .nil)
def zh4{B:Base}{σ:St}{w:Wd}{ρ:Env}{S:Sto}{ds:List (D×D)}(R:Rel cl B σ w ρ S)(h:zml i ρ=some ds):∃p kvs,σ[i]?=some (some (.ref p))/\w.ow p=some (.slot i)/\w.H p=some (.dK kvs)/\ShdK cl w kvs ds/\zau ds=true/\zaE ds.length=true:=by
 unfold zml at h;split at h
 ·rename_i ds' hd;split at h
  ·rename_i ho;cases h;rw [yab] at ho;obtain ⟨v,e1,p,o,rfl,h1,h2,t⟩:=R.slots i true _ hd
   cases t with
   | dicK t=>exact ⟨p,_,e1,h1,h2,t,ho.1,ho.2⟩
  ·cases h
 ·cases h
def zoY{p3:Pos}(hu:X.A.units+1<cLine)(hN:X.N[i]?=some x)(hv:Vis X.env.scope x)(hd:(x == ("__debug__":Str))=false)(hcd:(x == ("__classdict__":Str))=false)(hk:PE X a (tE cl E fk))(he:PE X e (tE cl E fe))(sw:swapsWithSole [.Subscript (.Name x pos') a p3] e pos.line X.env=pure false)(sw2:swappedStores [.Subscript (.Name x pos') a p3] e X.env=pure none)
  (ha:∀v,assign (.Subscript (.Name x pos') a p3) X.env v=(do
   let ov ← holding [v] (eval (.Name x pos') X.env)
   let iv ← holding [v,ov] (eval a X.env)
   standAt p3
   holding [v,ov,iv] (setItem ov iv v)
   release [v,ov,iv] [])) :
  PS X (.Assign [.Subscript (.Name x pos') a p3] e pos) (tS cl E own (zpq i fk fe)):=by
 refine PS.imp (zn3 he (zsn (zaD hN hv hd hcd) hk (zmo hu) ha) sw sw2 rfl) ?_;rintro De σ H ⟨B,w,ρ,S,rfl,R,q⟩;unfold zpq at q
 cases hs:zml i ρ with
 | none=>rw [hs] at q;exact q.elim
 | some ds =>
  rw [hs] at q;refine ⟨B,w,ρ,S,rfl,R,?_⟩
  cases hev:fe ρ S with
  | bad=>rwa [hev] at q
  | exc c S1=>rw [hev] at q;exact fun w' R' F'=>q σ w' R' F'
  | ok d S1 =>
   rw [hev] at q;intro v w1 R1 F1 sv;obtain ⟨p,kvs,e1,_,_,_,_,_⟩:=zh4 R1 hs;refine ⟨_,e1,B,w1,ρ,S1,rfl,R1,?_⟩;dsimp only at q
   cases hkv:fk ρ S1 with
   | bad=>rwa [hkv] at q
   | exc c S2=>rw [hkv] at q;exact fun w' R' F'=>q σ w' R' (F1.trans F')
   | ok k S2 =>
    rw [hkv] at q;intro y w2 R2 F2 sy;dsimp only at q
    cases k with
    | str k =>
     cases sy;obtain ⟨p',kvs',e1',h1,h2,t,ho,hm⟩:=zh4 R2 hs;rw [e1] at e1';cases e1';refine ⟨p,_,rfl,zq1.k (k:=.inr k) h2 (by rw [t.length];exact zcS hm),?_⟩;exact q σ _ (R2.mut (d0:=.non) e1 h1 (.dicK (t.putS ho (sv.up F2)))) ((F1.trans F2).trans (zcG (by rw [h1];exact yaC _)))
    | _=>exact q.elim
end
end S2
namespace SI
open PySem PySem.SetTable
noncomputable def stp(mask:Nat)(p:Probe):Probe :=
 if p.more > 0 then { p with j:=p.j+1,more:=p.more-1 } else
 { p with j:=(leap mask p.i p.perturb).1,more:=runEnd mask (leap mask p.i p.perturb).1-(leap mask p.i p.perturb).1,i:=(leap mask p.i p.perturb).1,perturb:=(leap mask p.i p.perturb).2 }
def itr(mask:Nat):Nat->Probe->Probe
 | 0,p=>p
 | n+1,p=>itr mask n (stp mask p)
noncomputable def zvG(mask i pert:Nat):Probe:={ j:=i,more:=runEnd mask i-i,i:=i,perturb:=pert,dummy:=none }
def st(mask:Nat)(h:Int)(n:Nat):Probe:=itr mask n (zvG mask (bits h % (mask+1)) (bits h))
def pos(mask:Nat)(h:Int)(n:Nat):Nat:=(st mask h n).j
noncomputable def Cut(ps:List Nat)(j c:Nat):Prop:=c<=ps.length/\(∀k x,k<c->ps[k]?=some x->x<j)/\∀k x,c<=k->ps[k]?=some x->j<=x
theorem ziO:∀(ps:List Nat) (j:Nat),ps.Pairwise (· < ·)->∃c,Cut ps j c
 | [],j,_=>⟨0,yah _,fun k x h _=>by omega,fun k x _ e=>by simp at e⟩
 | a::ps,j,h=>by
  obtain ⟨ha,hp⟩:=ybw.mp h
  by_cases hj:a<j
  ·obtain ⟨c,h1,h2,h3⟩:=ziO ps j hp;refine ⟨c+1,Nat.succ_le_succ h1,fun k x hk e=>?_,fun k x hk e=>?_⟩
   ·cases k with
    | zero=>simp at e;omega
    | succ k=>exact h2 k x (by omega) (by simpa using e)
   ·cases k with
    | zero=>omega
    | succ k=>exact h3 k x (by omega) (by simpa using e)
  ·refine ⟨0,ya2 _,fun k x hk _=>by omega,fun k x _ e=>?_⟩
   cases k with
   | zero=>simp at e;omega
   | succ k =>
    have:=ha x (yba (by simpa using e));omega
theorem zly(hc:Cut xs.toList j c):∀(fuel lo hi:Nat),lo<=c->c<=hi->hi<=xs.size->hi-lo<=fuel->below.go xs j fuel lo hi=c
 | 0,lo,hi,h1,h2,h3,h4=>by unfold below.go;omega
 | fuel+1,lo,hi,h1,h2,h3,h4=>by
  unfold below.go
  by_cases hlt:lo<hi
  ·rw [if_pos hlt]
   have hm:(lo+hi) / 2<xs.size:=by omega
   have e:xs.toList[(lo+hi) / 2]?=some xs[(lo+hi) / 2]:=by rw [yaM];exact yaO hm
   have eD:xs.getD ((lo+hi) / 2) j=xs[(lo+hi) / 2]:=by simp [Array.getD,hm]
   show (if xs.getD ((lo+hi) / 2) j<j then below.go xs j fuel ((lo+hi) / 2+1) hi else below.go xs j fuel lo ((lo+hi) / 2))=c;rw [eD]
   by_cases hx:xs[(lo+hi) / 2]<j
   ·rw [if_pos hx];refine zly hc fuel _ _ ?_ h2 h3 (by omega);refine Classical.byContradiction fun z=>?_
    have:=hc.2.2 ((lo+hi) / 2) _ (by omega) e;omega
   ·rw [if_neg hx];refine zly hc fuel _ _ h1 ?_ (by omega) (by omega);refine Classical.byContradiction fun z=>?_
    have:=hc.2.1 ((lo+hi) / 2) _ (by omega) e;omega
  ·rw [if_neg hlt];omega
theorem zeR(hc:Cut xs.toList j c):below xs j=c:=by
 unfold below;exact zly hc _ _ _ (ya2 _) (by have:=hc.1;simpa using this) (yah _) (by omega)
def zkj{t:SetTable}(hs:t.place.toList.Pairwise (· < ·))(hd:t.dummies=#[])(h:j ∉ t.place.toList):t.slot j=.empty:=by
 obtain ⟨c,hc⟩:=ziO t.place.toList j hs;unfold slot;rw [zeR hc]
 have e:(t.place[c]? == some j)=false:=by
  rw [<-yaM]
  cases q:t.place.toList[c]? with
  | none=>rfl
  | some x =>
   have:x≠j:=fun z=>h (z ▸ yba q)
   simpa using this
 show (if (t.place[c]? == some j)=true then Slot.live c else if has t.dummies j=true then .dummy else .empty)=.empty;rw [e,if_neg (by simp),hd]
 have:has #[] j=false:=by unfold has below;rfl
 rw [this,if_neg (by simp)]
def zp5{α:Type}(xs:List α)(c:Nat)(x y:α):y∈xs.take c++x::xs.drop c↔y=x\/y∈xs:=by
 have e:y∈xs↔y∈xs.take c++xs.drop c:=by rw [List.take_append_drop]
 rw [e];simp only [ya1,yaw];constructor
 ·rintro (h | h | h)
  ·exact .inr (.inl h)
  ·exact .inl h
  ·exact .inr (.inr h)
 ·rintro (h | h | h)
  ·exact .inr (.inl h)
  ·exact .inl h
  ·exact .inr (.inr h)
def zcZ{α:Type}(xs:Array α)(p:Nat)(x:α):(insertAt xs p x).toList=xs.toList.take p++x::xs.toList.drop p:=by
 simp [insertAt,List.extract_eq_take_drop,ybF]
def zse{t:SetTable}(hd:t.dummies=#[])(j:Nat):t.put j=({ t with place:=insertAt t.place (below t.place j) j },below t.place j):=by
 unfold put
 have:has t.dummies j=false:=by rw [hd];unfold has below;rfl
 rw [this];simp
theorem zo9(hs:ps.Pairwise (· < ·))(hc:Cut ps j c)(hj:j ∉ ps):(ps.take c++j::ps.drop c).Pairwise (· < ·):=by
 rw [List.pairwise_append,ybw]
 have e:(ps.take c++ps.drop c).Pairwise (· < ·):=by rw [List.take_append_drop];exact hs
 rw [List.pairwise_append] at e
 have lo:∀x∈ps.take c,x<j:=fun x hx=>by
  obtain ⟨k,hk⟩:=ycM hx;rw [ybX] at hk;split at hk
  ·exact hc.2.1 k x (by assumption) hk
  ·cases hk
 have hi:∀x∈ps.drop c,j<x:=fun x hx=>by
  obtain ⟨k,hk⟩:=ycM hx;rw [ybb] at hk;have h1:=hc.2.2 (c+k) x (by omega) hk;have h2:x≠j:=fun z=>hj (z ▸ yba hk)
  omega
 refine ⟨e.1,⟨hi,e.2.1⟩,fun x hx y hy=>?_⟩
 rcases yaw.mp hy with rfl | hy
 ·exact lo x hx
 ·have:=lo x hx;have:=hi y hy;omega
open PySem PySem.Spec PyProof.Rows
section
variable{prog:Program}{w:World}{A:Around}{E:Z5}{s:Shared}
def putS{h:Heap}{o:Obj}(ho:h.get? a=some o)(hx:o.ExactSet)(hd:o.data=.set es ep t) :
  ∃o',(h.update a (Obj.putSet es' t')).get? a=some o'/\o'.ExactSet/\o'.data=.set es' (ep+1) t':=by
 refine ⟨{ o with data:=.set es' (ep+1) t' },?_,hx,rfl⟩;rw [ybs _ ho (by rw [putSet_of es' t' hd];rfl),putSet_of es' t' hd]
end
noncomputable def zjA:List Int:=[0,1,2,3,4,5,6,7]
def zae(ks:List Int):List Int:=zjA.filter fun x=>decide (x∈ks)
theorem zk6:k∈zjA↔0<=k/\k<8:=by
 unfold zjA;simp only [yaw,ybJ,yde];omega
def za0:k∈zae ks↔(0<=k/\k<8)/\k∈ks:=by
 unfold zae;rw [ya0,zk6,decide_eq_true_iff]
def zbl:(zae ks).Pairwise (· < ·):=List.Pairwise.filter _ (by unfold zjA;decide)
def zaC:(zae ks).length<=8:=by
 have:=yaN (fun x=>decide (x∈ks)) zjA;exact this
theorem zgf{l:List Int}(h:l.Pairwise (· < ·)):l.Nodup:=List.Pairwise.imp (fun {a b} h=>by omega) h
theorem zkh{a b:List Int}(ha:a.Pairwise (· < ·))(hb:b.Pairwise (· < ·))(h:∀x,x∈a↔x∈b):a=b:=by
 have p:a.Perm b:=(List.perm_ext_iff_of_nodup (zgf ha) (zgf hb)).mpr h;exact PySem.W.lks_uniq p (List.Pairwise.imp (fun {a b} h=>by omega) ha) (List.Pairwise.imp (fun {a b} h=>by omega) hb)
def znz(h:k∈ks):zae (ks++[k])=zae ks:=by
 refine zkh zbl zbl fun x=>?_
 rw [za0,za0,ya1,yaH];constructor
 ·rintro ⟨a,b | rfl⟩
  ·exact ⟨a,b⟩
  ·exact ⟨a,h⟩
 ·rintro ⟨a,b⟩;exact ⟨a,.inl b⟩
theorem zhX{a b:Int}(ha:0<=a)(hb:0<=b):a.toNat<b.toNat↔a<b:=by omega
def zcF{l:List Int}(h:l.Pairwise (· < ·))(h0:∀x∈l,0<=x):(l.map Int.toNat).Pairwise (· < ·):=by
 rw [List.pairwise_map];exact List.Pairwise.imp_of_mem (fun {a b} ha hb hab=>(zhX (h0 a ha) (h0 b hb)).mpr hab) h
def zcO:∀x∈zae ks,0<=x:=fun x hx=>(za0.mp hx).1.1
theorem zg1(hk:0<=k/\k<8)(hn:k ∉ ks)(hc:Cut ((zae ks).map Int.toNat) k.toNat c):zae (ks++[k])=(zae ks).take c++k::(zae ks).drop c:=by
 have hnc:k ∉ zae ks:=fun z=>hn (za0.mp z).2
 have hs:((zae ks).take c++k::(zae ks).drop c).Pairwise (· < ·):=by
  have h1:=zo9 (zcF zbl zcO) hc (j:=k.toNat) (fun z=>by
   obtain ⟨x,hx,e⟩:=yau.mp z;have:=zcO x hx
   exact hnc (by rw [show k=x by omega];exact hx))
  rw [<-List.map_take,<-List.map_drop,<-yaz,<-ycq,List.pairwise_map] at h1;refine List.Pairwise.imp_of_mem (fun {a b} ha hb hab=>?_) h1
  have pos:∀x∈(zae ks).take c++k::(zae ks).drop c,0<=x:=fun x hx=>by
   rcases ya1.mp hx with h | h
   ·exact zcO x (List.mem_of_mem_take h)
   ·rcases yaw.mp h with rfl | h
    ·exact hk.1
    ·exact zcO x (List.mem_of_mem_drop h)
  exact (zhX (pos a ha) (pos b hb)).mp hab
 refine zkh zbl hs fun x=>?_
 rw [zp5,za0,za0,ya1,yaH];constructor
 ·rintro ⟨a,b | rfl⟩
  ·exact .inr ⟨a,b⟩
  ·exact .inl rfl
 ·rintro (rfl | ⟨a,b⟩)
  ·exact ⟨hk,.inr rfl⟩
  ·exact ⟨a,.inl b⟩
theorem zfg(prog:Program)(w:World)(h:0<=k/\k<8):(intKind prog w).hash k=k:=by
 have:k=0\/k=1\/k=2\/k=3\/k=4\/k=5\/k=6\/k=7:=by omega
 rcases this with rfl | rfl | rfl | rfl | rfl | rfl | rfl | rfl<;>rfl
theorem zjL(h:0<=k/\k<8):SetTable.bits k=k.toNat:=by
 unfold SetTable.bits;rw [Int.emod_eq_of_lt h.1 (by omega)]
structure Els(l:List Int)(es:List (Int×Value)):Prop where
 len:es.length=l.length
 at':∀(i:Nat) (k:Int),l[i]?=some k->∃tk,es[i]?=some (k,Value.int k tk)
def Els.mem(h:Els l es)(he:e∈es):∃k tk,k∈l/\e=(k,Value.int k tk):=by
 obtain ⟨i,hi,rfl⟩:=ycL.mp he
 have hl:i<l.length:=by rw [<-h.len];exact hi
 obtain ⟨tk,e⟩:=h.at' i _ (yac hl);rw [yac hi] at e;exact ⟨_,tk,ybx hl,Option.some.inj e⟩
def Els.has(h:Els l es)(hk:k∈l):∃tk,(k,Value.int k tk)∈es:=by
 obtain ⟨i,hi,rfl⟩:=ycL.mp hk;obtain ⟨tk,e⟩:=h.at' i _ (yac hi);exact ⟨tk,yba e⟩
theorem Els.ins{l:List Int}{es:List (Int×Value)}(h:Els l es)(c:Nat)(hc:c<=l.length)(k:Int)(tk:Tok):Els (l.take c++k::l.drop c) (es.take c++(k,Value.int k tk)::es.drop c) where
 len:=by simp only [yar,yaj,yaI,yca,h.len]
 at':=fun i x e=>by
  have hl:=h.len
  rcases Nat.lt_trichotomy i c with a | a | a
  ·rw [yaE (by rw [yaI];omega),ybX,if_pos a] at e;obtain ⟨t,z⟩:=h.at' i x e;exact ⟨t,by rw [yaE (by rw [yaI];omega),ybX,if_pos a];exact z⟩
  ·subst a;rw [yaA (by rw [yaI];omega),yaI,yb2 hc,ycE] at e;cases e;exact ⟨tk,by rw [yaA (by rw [yaI];omega),yaI,yb2 (by omega),ycE];rfl⟩
  ·rw [yaA (by rw [yaI];omega),yaI,yb2 hc,show i-c=(i-c-1)+1 by omega,ycp,ybb] at e;obtain ⟨t,z⟩:=h.at' _ x e;exact ⟨t,by rw [yaA (by rw [yaI];omega),yaI,yb2 (by omega),show i-c=(i-c-1)+1 by omega,ycp,ybb];exact z⟩
def Els.hashes(h:Els l es):es.map (·.1)=l:=by
 apply ybp;intro i;rw [yaq]
 cases e:l[i]? with
 | none =>
  have:es[i]?=none:=by rw [List.getElem?_eq_none_iff] at e ⊢;rw [h.len];exact e
  rw [this];rfl
 | some k =>
  obtain ⟨tk,z⟩:=h.at' i k e;rw [z];rfl
noncomputable def byT(w:World):Bool:=w.params.followText "set-order"
structure ISet(w:World)(h:Heap)(a:Addr)(ks:List Int):Prop where
 ex:∃o es ep t,h.get? a=some o/\o.ExactSet/\o.data=.set es ep t/\t.place.toList=(zae ks).map Int.toNat/\t.dummies=#[]/\t.plain=true/\t.led=!byT w/\(t.mask=31\/(t.mask=7/\(zae ks).length<=4))/\Els (zae ks) es.toList
section
variable{prog:Program}{w:World}{A:Around}{E:Z5}{s:Shared}
def zdy{es:Array (Int×Value)}{t:SetTable}{l:List Int}(hl:l.length<=8)(h1:t.place.toList=l.map Int.toNat)(h2:t.dummies=#[])(h3:t.mask=31\/(t.mask=7/\l.length<=7))(h4:Els l es.toList):t.fits es.size=true:=by
 have e1:t.place.size=l.length:=by rw [<-yay,h1,yae]
 have e2:es.size=l.length:=by rw [<-yay,h4.len]
 unfold SetTable.fits SetTable.fill;rw [e1,e2,h2];have:(#[]:Array Nat).size=0:=rfl;rw [this];simp only [ycb,Bool.true_and,ya9]
 rcases h3 with z | ⟨z,y⟩<;>rw [z]<;>omega
def znn{es:Array (Int×Value)}(hs:∀x∈l,0<=x/\x<8)(h:Els l es.toList):ElemsOf (intKind prog w) es.toList:=fun e he=>by
 obtain ⟨k,tk,hk,rfl⟩:=h.mem he;exact ⟨⟨k,intKind_is _ _ _ _,(zfg prog w (hs k hk)).symm⟩,rfl⟩
theorem zlz{t:SetTable}{l:List Int}{k:Int}(hl:l.Pairwise (· < ·))(h0:∀x∈l,0<=x)(hk:0<=k/\k<8)(hn:k ∉ l)(h1:t.place.toList=l.map Int.toNat)(h2:t.dummies=#[])(h3:7<=t.mask):t.freeSlot k=some (k.toNat,false):=by
 have hj:SetTable.bits k % (t.mask+1)=k.toNat:=by
  rw [zjL hk];exact Nat.mod_eq_of_lt (by omega)
 have hnp:k.toNat ∉ t.place.toList:=by
  rw [h1];intro z;obtain ⟨x,hx,e⟩:=yau.mp z;have:=h0 x hx;exact hn (by rw [show k=x by omega];exact hx)
 have es:=zkj (t:=t) (by rw [h1];exact zcF hl h0) h2 hnp;unfold SetTable.freeSlot SetTable.probe
 have e0:10*SetTable.turns t.mask=(10*SetTable.turns t.mask-1)+1:=by unfold SetTable.turns;omega
 rw [e0];unfold SetTable.probe.go;have ep:(t.probeStart k).j=k.toNat:=hj;have ed:(t.probeStart k).dummy=none:=rfl;rw [ep,es,ed];rfl
theorem zp8(hk:0<=k/\k<8)(hn:k ∉ ks)(h1:t.place.toList=(zae ks).map Int.toNat)(h2:t.dummies=#[])(h3:t.mask=31\/(t.mask=7/\(zae ks).length<=4))(h4:Els (zae ks) es.toList) :
  ∃es1 t1,layNew t es k (.int k tk)=(es1,t1,false,false)/\t1.place.toList=(zae (ks++[k])).map Int.toNat/\t1.dummies=#[]/\t1.plain=t.plain/\t1.led=t.led/\t1.mask=t.mask/\t1.finger=t.finger/\Els (zae (ks++[k])) es1.toList:=by
 have hnc:k ∉ zae ks:=fun z=>hn (za0.mp z).2
 have hm:7<=t.mask:=by rcases h3 with z | ⟨z,_⟩<;>rw [z]<;>decide
 have fs:=zlz zbl zcO hk hnc h1 h2 hm;obtain ⟨c,hc⟩:=ziO t.place.toList k.toNat (by rw [h1];exact zcF zbl zcO);have eb:SetTable.below t.place k.toNat=c:=zeR hc;rw [h1] at hc
 have hcl:c<=(zae ks).length:=by have:=hc.1;rwa [yae] at this
 have en:=zg1 hk hn hc;refine ⟨SetTable.insertAt es c (k,.int k tk),{ t with place:=SetTable.insertAt t.place c k.toNat },?_,?_,h2,rfl,rfl,rfl,rfl,?_⟩
 ·have fit:({ t with place:=SetTable.insertAt t.place c k.toNat }:SetTable).fits (SetTable.insertAt es c (k,.int k tk)).size=true:=by
   refine zdy (l:=zae (ks++[k])) zaC ?_ h2 ?_ ?_
   ·show (SetTable.insertAt t.place c k.toNat).toList=_;rw [zcZ,h1,en,<-List.map_take,<-List.map_drop,ycq,yaz]
   ·have hl:(zae (ks++[k])).length=(zae ks).length+1:=by
     rw [en];simp only [yar,yaj,yaI,yca];omega
    rcases h3 with z | ⟨z,y⟩
    ·exact .inl z
    ·exact .inr ⟨z,by omega⟩
   ·rw [zcZ,en];exact h4.ins c hcl k tk
  unfold layNew;rw [fs];dsimp only;rw [zse h2];dsimp only;rw [eb];unfold SetTable.orStandIn;rw [fit];rfl
 ·show (SetTable.insertAt t.place c k.toNat).toList=_;rw [zcZ,h1,en,<-List.map_take,<-List.map_drop,ycq,yaz]
 ·rw [zcZ,en];exact h4.ins c hcl k tk
noncomputable def zk9(hs:Array Int):Option (List (Nat×Nat)):=(SetTable.layClean 31 hs).map fun owner=>(List.range 32).filterMap fun j=>(owner.getD j none).map (j,·)
noncomputable def ztV(b0 b1 b2 b3 b4 b5 b6 b7:Bool):List Int:=(if b0 then [0] else [])++((if b1 then [1] else [])++((if b2 then [2] else [])++((if b3 then [3] else [])++((if b4 then [4] else [])++((if b5 then [5] else [])++((if b6 then [6] else [])++(if b7 then [7] else [])))))))
theorem zm0:∀b0 b1 b2 b3 b4 b5 b6 b7:Bool,(ztV b0 b1 b2 b3 b4 b5 b6 b7).length=5->zk9 (ztV b0 b1 b2 b3 b4 b5 b6 b7).toArray=some (((ztV b0 b1 b2 b3 b4 b5 b6 b7).map Int.toNat).zip [0,1,2,3,4]):=by decide +kernel
def zlS(ks:List Int):zae ks=ztV (decide ((0:Int)∈ks)) (decide ((1:Int)∈ks)) (decide ((2:Int)∈ks)) (decide ((3:Int)∈ks)) (decide ((4:Int)∈ks)) (decide ((5:Int)∈ks)) (decide ((6:Int)∈ks)) (decide ((7:Int)∈ks)):=by
 have fc:∀(p:Int->Bool) (x:Int) (l:List Int),List.filter p (x::l)=(if p x then [x] else [])++List.filter p l:=fun p x l=>by
  rw [ybI];cases p x<;>rfl
 unfold zae zjA;rw [fc,fc,fc,fc,fc,fc,fc,fc,List.filter_nil,yaS];rfl
def zvb(hl:(zae ks).length=5)(f mv:Nat)(led pl:Bool):SetTable.laid 31 f mv led pl (zae ks).toArray=some ({ mask:=31,place:=((zae ks).map Int.toNat).toArray,dummies:=#[],finger:=f,led:=led,moves:=mv,plain:=pl },#[0,1,2,3,4]):=by
 have e:zk9 (zae ks).toArray=some (((zae ks).map Int.toNat).zip [0,1,2,3,4]):=by
  rw [zlS] at hl ⊢;exact zm0 _ _ _ _ _ _ _ _ hl
 unfold zk9 at e;unfold SetTable.laid
 cases q:SetTable.layClean 31 (zae ks).toArray with
 | none=>rw [q] at e;cases e
 | some owner =>
  rw [q] at e;have e':(List.range 32).filterMap (fun j=>(owner.getD j none).map (j,·))=((zae ks).map Int.toNat).zip [0,1,2,3,4]:=Option.some.inj e;show some _=some _;rw [e'];have z1:(((zae ks).map Int.toNat).zip [0,1,2,3,4]).map (·.1)=(zae ks).map Int.toNat:=List.map_fst_zip (by rw [yae,hl];exact yah _);have z2:(((zae ks).map Int.toNat).zip [0,1,2,3,4]).map (·.2)=[0,1,2,3,4]:=List.map_snd_zip (by rw [yae,hl];exact yah _);rw [z1,z2]
def zyx{α:Type}{es:Array α}(h:es.size=5):(#[0,1,2,3,4]:Array Nat).filterMap (es[·]?)=es:=by
 obtain ⟨l⟩:=es
 match l,h with
 | [a,b,c,d,e],_=>rfl
def zr2(hl:(zae ks).length=5)(h4:Els (zae ks) es.toList):∃t2,relayAll t es (SetTable.grown es.size)=(es,t2,false)/\t2.place.toList=(zae ks).map Int.toNat/\t2.dummies=#[]/\t2.plain=t.plain/\t2.led=t.led/\t2.mask=31:=by
 have hz:es.size=5:=by rw [<-yay,h4.len,hl]
 have hh:es.map (·.1)=(zae ks).toArray:=by
  apply Array.ext';rw [Array.toList_map,h4.hashes]
 have hm:SetTable.sizeAbove (SetTable.grown 5)-1=31:=by decide
 have er:t.relaid (es.map (·.1)) (SetTable.grown es.size)=some ({ mask:=31,place:=((zae ks).map Int.toNat).toArray,dummies:=#[],finger:=t.finger,led:=t.led,moves:=t.movedTo 31,plain:=t.plain },#[0,1,2,3,4]):=by
  unfold SetTable.relaid;rw [hz,hm,hh];exact zvb hl _ _ _ _
 refine ⟨{ mask:=31,place:=((zae ks).map Int.toNat).toArray,dummies:=#[],finger:=t.finger,led:=t.led,moves:=t.movedTo 31,plain:=t.plain },?_,rfl,rfl,rfl,rfl,rfl⟩;unfold relayAll;rw [er];dsimp only;rw [zyx hz];have fit:=zdy (es:=es) (t:={ mask:=31,place:=((zae ks).map Int.toNat).toArray,dummies:=#[],finger:=t.finger,led:=t.led,moves:=t.movedTo 31,plain:=t.plain }) (l:=zae ks) zaC rfl rfl (.inl rfl) h4;rw [fit,hz]
 have cv:coversAll #[0,1,2,3,4] 5=true:=by decide
 rw [cv];rfl
theorem zm7{a:Addr}{ks:List Int}{k:Int}{tk:Tok}{Q:Bool->Shared->Prop}(S:ISet w s.heap a ks)(hk:0<=k/\k<8)
  (h:∀h' c,Heap.SameBut a s.heap h'->ISet w h' a (ks++[k])->Q c { s with heap:=h',toks:=s.toks+1 }):wpAny (model prog w) A (setAdd a (.int k tk)) Q E s:=by
 unfold setAdd;refine yaW (yaa ((intKind prog w).pyHash (k:=k) (intKind_is _ _ _ _) ?_));obtain ⟨o,es,ep,t,ho,hex,hd,h1,h2,h5,h6,h3,h4⟩:=S.ex;have hsm:∀x∈zae ks,0<=x/\x<8:=fun x hx=>(za0.mp hx).1
 have hf:t.fits es.size=true:=zdy zaC h1 h2 (h3.imp id fun z=>⟨z.1,by omega⟩) h4;have hel:ElemsOf (intKind prog w) es.toList:=znn hsm h4
 have hz:es.size<=8:=by rw [<-yay,h4.len];exact zaC
 have hb:es.size<scanBound:=by unfold scanBound;omega
 unfold setAddHashed setAddHashedIn;refine yaW (yaa (ybB (s:={ s with toks:=s.toks+1 }) ho hd hf ?_));dsimp only;rw [byScan_of (knd:=intKind prog w) rfl hb hel];simp only [↓reduceIte];unfold setAddByScan;refine yaa ?_;refine yaa (yc3 ?_);refine yaa (wpAny_setScan_of (knd:=intKind prog w) (k:=k) (s:={ s with toks:=s.toks+1 }) (intKind_is _ _ _ _) ho hd hf hel ?_)
 cases hr:List.findIdx? (fun e=>(intKind prog w).is k e.2) es.toList with
 | some j =>
  dsimp only;obtain ⟨hj,hpj,_⟩:=List.findIdx?_eq_some_iff_getElem.mp hr;obtain ⟨k',tk',hk',e'⟩:=h4.mem (ybx hj);rw [e'] at hpj;obtain ⟨u,eu⟩:=yc2 (k:=k) (v:=Value.int k' tk') hpj
  have:k'=k:=by injection eu
  subst this;have hin:k'∈ks:=(za0.mp hk').2;refine yad (yad (h s.heap _ (Heap.SameBut.refl a s.heap) ?_));refine ⟨o,es,ep,t,ho,hex,hd,?_⟩;rw [znz hin];exact ⟨h1,h2,h5,h6,h3,h4⟩
 | none =>
  dsimp only
  have hni:k ∉ ks:=fun z=>by
   obtain ⟨tk',he⟩:=h4.has (za0.mpr ⟨hk,z⟩);have:=List.findIdx?_eq_none_iff.mp hr _ he;rw [intKind_is] at this;cases this
  obtain ⟨es1,t1,eL,g1,g2,g3,g4,g5,g6,g7⟩:=zp8 (tk:=tk) hk hni h1 h2 h3 h4;rw [zfg prog w hk,eL];dsimp only;refine yaa (ycx (a:=()) rfl ?_)
  have hsz1:es1.size=(zae (ks++[k])).length:=by rw [<-yay,g7.len]
  have hsl:es1.size<=sizeLine:=by rw [hsz1];exact yam zaC (by decide)
  rw [g3,h5];simp only [ybU];refine yaa ?_;rw [hashByValue_scannable 8 (x:=.int k tk) rfl];refine yad ?_;have hpk:plainKind (.int k tk)=true:=rfl;rw [hpk];simp only [ybU];refine yaa (ycy (s:={ s with toks:=s.toks+1 }) ho hd ?_ hsl);obtain ⟨o1,w1,x1,d1⟩:=putS (es':=es1) (t':=t1) ho hex hd;have sb1:Heap.SameBut a s.heap (s.heap.update a (Obj.putSet es1 t1)):=Heap.SameBut.update ..
  have hlen:(zae (ks++[k])).length=(zae ks).length+1:=by
   obtain ⟨c,hc⟩:=ziO ((zae ks).map Int.toNat) k.toNat (zcF zbl zcO);rw [zg1 hk hni hc]
   have:c<=(zae ks).length:=by have:=hc.1;rwa [yae] at this
   simp only [yar,yaj,yaI,yca];omega
  have hfill:t1.fill=(zae (ks++[k])).length:=by
   unfold SetTable.fill;rw [g2];show t1.place.size+0=_;rw [<-yay,g1,yae];rfl
  by_cases hfull:(!false&&t1.tooFull)=true
  ·rw [if_pos hfull]
   have h5':(zae (ks++[k])).length=5:=by
    have hf:(zae (ks++[k])).length*5 ≥ t.mask*3:=by
     have:t1.tooFull=true:=by simpa using hfull
     unfold SetTable.tooFull at this;rw [hfill,g5] at this;simpa using this
    have:=zaC (ks:=ks++[k])
    rcases h3 with z | ⟨z,y⟩
    ·rw [z] at hf;omega
    ·rw [z] at hf;omega
   obtain ⟨t2,er,r1,r2,r3,r4,r5⟩:=zr2 (t:=t1) h5' g7;rw [er];dsimp only;refine yaa (ycx (a:=()) rfl ?_);refine yaa (ycy (s:={ s with heap:=s.heap.update a (Obj.putSet es1 t1),toks:=s.toks+1 }) w1 d1 ?_ hsl);obtain ⟨o2,w2,x2,d2⟩:=putS (es':=es1) (t':=t2) w1 x1 d1;have sb2:Heap.SameBut a s.heap ((s.heap.update a (Obj.putSet es1 t1)).update a (Obj.putSet es1 t2)):=sb1.trans (Heap.SameBut.update ..);refine yad ?_;dsimp only;refine yad (h _ true sb2 ⟨o2,es1,_,t2,w2,x2,d2,r1,r2,by rw [r3,g3,h5],by rw [r4,g4,h6],.inl r5,g7⟩)
  ·rw [if_neg hfull];refine yad ?_;dsimp only;refine yad (h _ true sb1 ⟨o1,es1,_,t1,w1,x1,d1,g1,g2,by rw [g3,h5],by rw [g4,h6],?_,g7⟩);rw [g5]
   rcases h3 with z | ⟨z,y⟩
   ·exact .inl z
   ·refine .inr ⟨z,?_⟩
    have:t1.tooFull=false:=by cases q:t1.tooFull with
     | false=>rfl
     | true=>rw [q] at hfull;exact absurd rfl hfull
    unfold SetTable.tooFull at this;rw [hfill,g5,z] at this;have:=of_decide_eq_false this;omega
end
def ISet.keep(x:ISet w h a ks)(e:∀o,h.get? a=some o->h'.get? a=some o):ISet w h' a ks:=by
 obtain ⟨o,es,ep,t,ho,r⟩:=x.ex;exact ⟨o,es,ep,t,e o ho,r⟩
theorem ISet.fresh{w:World}{h:Heap}{a:Addr}(e:h.get? a=some { cls:=.type "set",dict:=none,data:=.set #[] 0 (.fresh 0 0 (!byT w)) }):ISet w h a [] :=
 ⟨_,#[],0,.fresh 0 0 (!byT w),e,⟨rfl,rfl,rfl⟩,rfl,rfl,rfl,rfl,rfl,.inr ⟨rfl,by decide⟩,⟨rfl,fun i k z=>by cases z⟩⟩
section
variable{prog:Program}{w:World}{A:Around}{R:Result->Shared->Prop}{I:Addr}{fp wr:List Addr}{G:Array GenState->Array GenState->Prop}{n:Nat}{P:Nat->Value->Prop}{St:Nat->Shared->Prop}
theorem zlp(W:WalksS prog w A.in1 I fp wr G n P St)(S:Addr)(hSf:S ∉ fp)(val:Nat->Int)(hval:∀i v,P i v->∃t,v=.int (val i) t)(hs:∀i,i<n->0<=val i/\val i<8) :
  ∀(k i:Nat) (s:Shared),n-i=k->i<=n->St i s->ISet w s.heap S ((List.range i).map val) →
   (∀s',Moved (S::wr) G s s'->ISet w s'.heap S ((List.range n).map val)->R (.ok (.ret .none)) s') →
   codeAny (model prog w) A (.builtin "set.update.loop" ⟨[.ref S,.ref I],[]⟩) R s:=by
 have hSw:S ∉ wr:=fun h=>hSf (W.sub _ h)
 have hsub:∀b∈wr,b∈S::wr:=fun b hb=>yan _ hb
 intro k
 induction k with
 | zero =>
  intro i s hk hi hst hS hR
  have hin:i=n:=by omega
  subst hin;refine ybj yb9 ?_;rw [ybk ybA _];show wpAny _ A.in1 (pyNext (.ref I) >>= _) _ _ s;refine yaa (W.done s _ _ hst fun s' hm=>?_);show wpAny _ A.in1 (ret Value.none) _ _ s';exact yad (hR s' (hm.mono hsub) (hS.keep fun o ho=>hm.heap S _ hSw ho))
 | succ k ih =>
  intro i s hk hi hst hS hR
  have hlt:i<n:=by omega
  refine ybj yb9 ?_;rw [ybk ybA _];show wpAny _ A.in1 (pyNext (.ref I) >>= _) _ _ s;refine yaa (W.item i s _ _ hlt hst fun v s' hP hst' hm=>?_);obtain ⟨t,rfl⟩:=hval i v hP;have hS':ISet w s'.heap S ((List.range i).map val):=hS.keep fun o ho=>hm.heap S _ hSw ho
  show wpAny _ A.in1 (holding [Value.int (val i) t] (setAdd S (.int (val i) t)) >>= _) _ _ s';refine yaa (yaW ?_);refine zm7 hS' (hs i hlt) fun h' c hsb hS2=>?_
  have hSi:ISet w h' S ((List.range (i+1)).map val):=by
   rw [ybQ,ycq];exact hS2
  refine yad ⟨ycO ybA _,ih (i+1) _ (by omega) hlt (W.frame _ s' _ _ hst' (ybE _) fun b hb o e=>?_) hSi fun s'' hm'' hS''=>?_⟩
  ·rw [hsb.2 b (fun h:b=S=>hSf (by rw [<-h];exact hb))];exact e
  ·refine hR s'' (Moved.trans W.gtrans ((hm.mono hsub).then_heap (ybE _) fun b o hb e=>?_) hm'') hS'';rw [hsb.2 b (fun h:b=S=>hb (by rw [h];exact yav))];exact e
end
end SI
namespace PySem
section
variable{prog:Program}{w:World}{A:Around}{E:Z5}{s:Shared}
def zf0(a:Value){Q₁:Z5}
  (h:Q₁ (.ref s.heap.objs.size) { s with heap:=s.heap.push { cls:=.type "set",dict:=none,data:=.set #[] 0 (.fresh 0 0 (!SI.byT w)) } }) :
  codeAny (model prog w) A (.call (.builtin "set.__new__") ⟨[.type "set",a],[]⟩) (wants Q₁ E) s:=by
 refine codeAny_of_tree ?_;show wpAny _ A.in1 (do checkBuiltinCall "set.__new__" ⟨[.type "set",a],[]⟩;again (.builtin "set.__new__" ⟨[.type "set",a],[]⟩)) _ _ s;refine yaa (ycx (F.newCall_set_1 a) (yad ⟨ycO F.plain_set_new _,ybj F.entry_set_new ?_⟩));rw [ybk F.plain_set_new _];unfold Builtin.«set.__new__» Builtin.Frozenset.newClass;have hsub:=sub_set_self;obtain ⟨hp,g,d,tk,os⟩:=s;dsimp only
 wp_walk
 refine wpAny_askSetting (yad ?_);dsimp only;simp only [newObj];refine yaa (wpAny_alloc (yad ?_));exact yad h
theorem zlU{l:Addr}{items:Array Value}{ns:List Int}{Q:Z5}
  (hh:A.handled=none) (hl:s.heap.IsList l items) (hi:PyProof.Rows.IntsAre items.toList ns) (hs:∀k∈ns,0<=k/\k<8)
  (h:∀(h':Heap) (tk:Nat),SI.ISet w h' s.heap.objs.size ns->(∀b o,s.heap.get? b=some o->h'.get? b=some o)->Q (.ref s.heap.objs.size) { s with heap:=h',toks:=tk }) :
  wpAny (model prog w) A (call (.type "set") [.ref l]) Q E s:=by
 have hnl:items.size=ns.length:=by rw [<-yay];exact PyProof.Rows.IntsAre.length hi
 have ern:(List.range items.size).map (fun i=>ns.getD i 0)=ns:=by
  apply ybp;intro i;rw [yaq,hnl]
  by_cases hi:i<ns.length
  ·rw [List.getElem?_range hi,yac hi];show some (ns.getD i 0)=_;rw [yax,yac hi];rfl
  ·rw [yaL (by rw [ya8];omega),yaL (by omega)];rfl
 obtain ⟨c,tl,hmro⟩:=ya4.mro;have hmade:=ya4.made;have hsub:=ya4.sub;refine yc8 (codeAny_of_tree ?_);show wpAny _ _ (callAny (.type "set") _) _ _ _;refine yad ⟨yc1 _ (by decide +kernel),ybj F.entry_type_call ?_⟩;rw [Around.under_plain (weight_type_call_type "set" [.ref l] []) rfl];have h1:=ya4.notType;have h2:=ya4.canCreate;have hct:=F.typeCall_set_1 (.ref l)
 repeat (any_goals (first | assumption | wp_step))
 refine ybK (zf0 (.ref l) (E:=E) (Q₁:=fun obj s₁=>obj=.ref s.heap.objs.size/\s₁={ s with heap:=s.heap.push { cls:=.type "set",dict:=none,data:=.set #[] 0 (.fresh 0 0 (!SI.byT w)) } }) ⟨rfl,rfl⟩) fun r s₁ hr=>?_
 cases r with
 | error e=>exact hr
 | ok fl =>
  cases fl with
  | ret obj =>
   obtain ⟨rfl,rfl⟩:=hr;generalize hG:s.heap.push { cls:=.type "set",dict:=none,data:=.set #[] 0 (.fresh 0 0 (!SI.byT w)) }=G;have hS:G.get? s.heap.objs.size=some { cls:=.type "set",dict:=none,data:=.set #[] 0 (.fresh 0 0 (!SI.byT w)) }:=hG ▸ yal _ rfl;have upG:∀b o,s.heap.get? b=some o->G.get? b=some o:=fun b o e=>hG ▸ yaf _ e
   have hGz:G.objs.size=s.heap.objs.size+1:=by rw [<-hG,ya5]
   have hT:Shared.TypeIs { s with heap:=G } (.ref s.heap.objs.size) "set":=⟨_,hS,rfl⟩;have hli:=ya4.init.lookup;have hbi:=ya4.init.bind (.ref s.heap.objs.size)
   repeat (any_goals (first | assumption | wp_step))
   refine ybK (yb8 (R:=wants (fun r s₂=>r=.none/\∃h' tk,s₂={ s with heap:=h',toks:=tk }/\SI.ISet w h' s.heap.objs.size ns ∧
     (∀b o,s.heap.get? b=some o->h'.get? b=some o)) E) ya4.init.plain F.entry_set_init (check_set_init_1 hT ?_)) fun r₂ s₂ hr₂=>?_
   ·obtain ⟨ol,hol,hcl,nl,hdl⟩:=hl;have hol':G.get? l=some ol:=upG l ol hol;obtain ⟨ocls,odict,odata,oslots⟩:=ol;simp only at hcl hdl;subst hcl;subst hdl;have hsls:=F.sub_list_set;have hslf:=F.sub_list_frozenset
    have hne:(Value.type "list" == Value.type "dict")=false:=by decide
    have hl1:G.IsList l items:=⟨_,hol',rfl,nl,rfl⟩;unfold Builtin.«set.__init__» noKeywords Builtin.Frozenset.updateFrom;generalize hPI:pyIter=PI
    wp_walk
    subst hPI;refine ycw hl1 ?_;refine yaa (wpAny_runValue ?_);have hlS:l<s.heap.objs.size:=yak hol
    have hh3:A.in1.in1.in1.handled=none:=by simp [hh]
    have hneI:l≠G.objs.size:=by rw [hGz];exact yas (ybf hlS)
    have hSf:s.heap.objs.size ∉ [G.objs.size,l]:=by
     rw [hGz];simp only [yaw,yaH,ybJ,yde,not_or];exact ⟨yas (ybS _),yaT hlS⟩
    have hval:∀(i:Nat) (v:Value),items[i]?=some v->∃t,v=.int ((fun i=>ns.getD i 0) i) t:=fun i v hv =>
     PyProof.Rows.IntsAre.int_at hi i v (by rw [yaM];exact hv)
    refine SI.zlp ((Walks.list hh3 _ l hneI items).toS) s.heap.objs.size hSf (fun i=>ns.getD i 0) hval (fun i hi=>?_) (items.size-0) 0 _ (by omega) (ya2 _)
     ⟨⟨_,yal _ rfl,rfl,rfl⟩,(hl1.push _)⟩ ?hS0 ?hR
    ·have hlt:i<ns.length:=by omega
     show 0<=ns.getD i 0/\ns.getD i 0<8;rw [yax,yac hlt];exact hs _ (ybx hlt)
    case hS0=>exact SI.ISet.fresh (yaf _ hS)
    case hR =>
     intro s' hm hS';rw [ern] at hS';obtain ⟨h',g',d',tk',os'⟩:=s';have eg:g'=s.gens:=hm.gens;have ed:d'=s.drawn:=hm.drawn;have eo:os'=s.os:=hm.os;subst eg;subst ed;subst eo;show wpAny _ _ _ _ _ _;refine yad ?_;show wpAny _ _ (ret Value.none) _ _ _;refine yad ⟨rfl,h',tk',rfl,hS',fun b o e=>?_⟩;have hb1:b≠s.heap.objs.size:=yas (yak e)
     have hb2:b≠G.objs.size:=by rw [hGz];exact yas (ybf (yak e))
     exact hm.heap b o (by simp only [yaw,yaH,ybJ,yde,not_or];exact ⟨hb1,hb2⟩) (yaf _ (upG b o e))
   ·cases r₂ with
    | error e=>exact hr₂
    | ok fl₂ =>
     cases fl₂ with
     | ret r =>
      obtain ⟨rfl,h',tk,rfl,hS',hk'⟩:=hr₂
      repeat (any_goals (first | assumption | wp_step))
      exact h _ _ hS' hk'
     | _=>exact hr₂.elim
  | _=>exact hr.elim
end
end PySem
namespace SI
open PySem PySem.Spec PyProof.Rows
theorem zba:Slot "set_iterator" "__next__" "set_iterator.__next__" :=
 .of (owner:="set_iterator") (n:="__next__") (by rw [typeLookup_type,ycH];kernel_rfl) (by decide +kernel) (by decide +kernel) (by decide +kernel)
  (by first | exact .inl (by decide +kernel) | exact .inr (by decide +kernel)) (by rw [isSubtype_type];kernel_rfl)
theorem zd0:Slot "set_iterator" "__iter__" "set_iterator.__iter__" :=
 .of (owner:="set_iterator") (n:="__iter__") (by rw [typeLookup_type,ycH];kernel_rfl) (by decide +kernel) (by decide +kernel) (by decide +kernel)
  (by first | exact .inl (by decide +kernel) | exact .inr (by decide +kernel)) (by rw [isSubtype_type];kernel_rfl)
def zdF:entryFor table "set_iterator.__next__" = some Builtin.«set_iterator.__next__»:=entryFor_of_tree (by kernel_rfl)
theorem zfV:entryFor table "set_iterator.__iter__" = some Builtin.«dict_keyiterator.__iter__» :=
 entryFor_alias (id':="dict_keyiterator.__iter__") (by kernel_rfl) rfl (by decide +kernel) (by kernel_rfl)
theorem zgR:entryFor table "set.__iter__" = some Builtin.«frozenset.__iter__» :=
 entryFor_alias (id':="frozenset.__iter__") (by kernel_rfl) rfl (by decide +kernel) (by kernel_rfl)
def zim:Manifest.owners.lookup (String.ofList ['r','o','t','a','r','e','t','i','_','t','e','s'].reverse)=some Manifest.sig_set_iterator:=by kernel_rfl
def zd8(a:Value):argsOk "set_iterator.__next__" ⟨[a],[]⟩:=by
 unfold argsOk;rw [signature?_of (id:="set_iterator.__next__") (n:=['_','_','t','x','e','n','_','_']) (o:=['r','o','t','a','r','e','t','i','_','t','e','s']) (by kernel_rfl) zim];kernel_rfl
def zhb(a:Value):argsOk "set_iterator.__iter__" ⟨[a],[]⟩:=by
 unfold argsOk;rw [signature?_of (id:="set_iterator.__iter__") (n:=['_','_','r','e','t','i','_','_']) (o:=['r','o','t','a','r','e','t','i','_','t','e','s']) (by kernel_rfl) zim];kernel_rfl
noncomputable def SAt(w:World)(h:Heap)(a:Addr)(ks:List Int)(es:Array (Int×Value))(ep:Nat)(t:SetTable):Prop :=
 (∃o,h.get? a=some o/\o.ExactSet/\o.data=.set es ep t)/\t.place.toList=(zae ks).map Int.toNat/\t.dummies=#[]/\t.plain=true/\t.led=!byT w/\(t.mask=31\/(t.mask=7/\(zae ks).length<=4))/\Els (zae ks) es.toList
def ISet.sat(x:ISet w h a ks):∃es ep t,SAt w h a ks es ep t:=by
 obtain ⟨o,es,ep,t,h1,h2,h3,r⟩:=x.ex;exact ⟨es,ep,t,⟨o,h1,h2,h3⟩,r⟩
def SAt.at(x:SAt w h a ks es ep t)(e:∀o,h.get? a=some o->h'.get? a=some o):SAt w h' a ks es ep t :=
 let ⟨⟨o,h1,r⟩,q⟩:=x;⟨⟨o,e o h1,r⟩,q⟩
noncomputable def znL(h:Heap)(it a:Addr)(sl i n ep:Nat):Prop:=∃o,h.get? it=some o/\o.cls=.type "set_iterator" /\ o.data=.fields #[.int sl 0,.int i 0,.ref a,.int n 0,.int ep 0]
def znL.typeIs{s:Shared}(x:znL s.heap it a sl i n ep):s.TypeIs (.ref it) "set_iterator":=let ⟨o,ho,hc,_⟩:=x;⟨o,ho,hc⟩
def znL.at(x:znL h it a sl i n ep)(e:∀o,h.get? it=some o->h'.get? it=some o):znL h' it a sl i n ep:=let ⟨o,ho,r⟩:=x;⟨o,e o ho,r⟩
def zjQ(w:World)(a:Addr)(ep:Nat)(es:Array (Int×Value)):Array (Int×Value):=if byT w then pickOrder (w.params.setOrder a ep) es else es
def slN(w:World)(l:List Int)(i:Nat):Nat:=if byT w then 0 else if i=0 then 0 else (l.getD (i-1) 0).toNat+1
theorem zfk{α:Type}:∀(l:List α) (i:Nat) (h:i<l.length),([l[i]]++l.eraseIdx i).Perm l
 | x::xs,0,_=>List.Perm.refl _
 | x::xs,i+1,h=>by
  have h':i<xs.length:=by simpa using h
  exact (List.Perm.swap x (xs[i]'h') (xs.eraseIdx i)).trans (List.Perm.cons x (zfk xs i h'))
theorem zkS{α:Type}:∀(fuel k:Nat) (left:List α) (out:Array α),left.length<=fuel->(pickOrder.go next fuel k left out).toList.Perm (out.toList++left)
 | 0,k,left,out,h=>by
  have:left=[]:=ybT (by omega);subst this;unfold pickOrder.go;rw [yaS]
 | fuel+1,k,[],out,h=>by
  unfold pickOrder.go;have:([]:List α)[next k % ([]:List α).length]?=none:=rfl;rw [this,yaS]
 | fuel+1,k,x::xs,out,h=>by
  have hlt:next k % (x::xs).length<(x::xs).length:=Nat.mod_lt _ (by simp);unfold pickOrder.go;rw [yac hlt];dsimp only
  have hl:((x::xs).eraseIdx (next k % (x::xs).length)).length<=fuel:=by
   rw [List.length_eraseIdx_of_lt hlt];simp at h ⊢;exact h
  refine (zkS fuel (k+1) _ _ hl).trans ?_;rw [Array.toList_push,yb3];refine List.Perm.append_left _ ?_;exact zfk _ _ hlt
def zkR{α:Type}(xs:Array α):(pickOrder next xs).toList.Perm xs.toList:=by
 have:=zkS (next:=next) xs.size 0 xs.toList #[] (by simp);unfold pickOrder;simpa using this
def zfE:(zjQ w a ep es).toList.Perm es.toList:=by
 unfold zjQ;split
 ·exact zkR es
 ·exact List.Perm.refl _
def zeg:(zjQ w a ep es).size=es.size:=by
 rw [<-yay,zfE.length_eq,yay]
section
variable{prog:Program}{w:World}{A:Around}{E:Z5}{s:Shared}{a:Addr}{ks:List Int}{es:Array (Int×Value)}{ep:Nat}{t:SetTable}
theorem SAt.fits(x:SAt w h a ks es ep t):t.fits es.size=true:=by
 obtain ⟨_,h1,h2,_,_,h3,h4⟩:=x;exact zdy zaC h1 h2 (h3.imp id fun z=>⟨z.1,by omega⟩) h4
def zdo(x:SAt w s.heap a ks es ep t)(h:Q (es,ep,t) s):wpAny (model prog w) A (setState a) Q E s:=by
 obtain ⟨o,ho,_,hd⟩:=x.1;exact ybB ho hd x.fits h
def zjU(h:Q (byT w) s):wpAny (model prog w) A setsByText Q E s:=by
 unfold setsByText;exact yaa (wpAny_askSetting (yad h))
theorem znH{l:List Int}{place:Array Nat}(h1:place.toList=l.map Int.toNat)(hs:l.Pairwise (· < ·))(h0:∀x∈l,0<=x)(hi:i<=l.length):SetTable.below place (if i=0 then 0 else (l.getD (i-1) 0).toNat+1)=i:=by
 refine zeR ?_;have ps:=zcF hs h0;rw [h1];refine ⟨by rw [yae];exact hi,?_,?_⟩
 ·intro k x hk hx;split
  ·omega
  ·rename_i hne;rw [yaq] at hx
   have hkl:k<l.length:=by omega
   have hil:i-1<l.length:=by omega
   rw [yac hkl] at hx;cases hx;rw [yax,yac hil];show l[k].toNat<l[i-1].toNat+1
   rcases Nat.lt_or_ge k (i-1) with z | z
   ·have:=List.pairwise_iff_getElem.mp hs k (i-1) hkl hil z;have:=h0 _ (ybx hkl);omega
   ·have:k=i-1:=by omega
    subst this;omega
 ·intro k x hk hx;split
  ·omega
  ·rename_i hne;rw [yaq] at hx
   have hkl:k<l.length:=by
    rcases Nat.lt_or_ge k l.length with z | z
    ·exact z
    ·rw [yaL z] at hx;cases hx
   have hil:i-1<l.length:=by omega
   rw [yac hkl] at hx;cases hx;rw [yax,yac hil];show l[i-1].toNat+1<=l[k].toNat;have:=List.pairwise_iff_getElem.mp hs (i-1) k hil hkl (by omega);have:=h0 _ (ybx hil);omega
theorem zjT(x:SAt w s.heap a ks es ep t)(hi:i<=es.size)
  (h:Q ((zjQ w a ep es)[i]?.map fun e=>(e.2,slN w (zae ks) (i+1))) s):wpAny (model prog w) A (setNext a (slN w (zae ks) i) i ep) Q E s:=by
 obtain ⟨_,h1,h2,h5,h6,h3,h4⟩:=id x;unfold setNext;refine yaa (zdo x ?_);dsimp only;refine yaa (zjU ?_);unfold zjQ slN at h;unfold slN
 cases hb:byT w with
 | true =>
  rw [hb] at h;simp only [ybU] at h ⊢;rw [if_neg (by simp)];refine yaa ?_;unfold setWalk;refine yaa (zdo x ?_);dsimp only;refine yaa (zjU ?_);rw [hb];simp only [ybU];refine yaa (wpAny_askSetting (yad ?_));exact yad h
 | false =>
  rw [hb] at h h6;simp only [ybv,ycN] at h ⊢;obtain ⟨mask,place,dummies,finger,led,moves,plain⟩:=t;simp only at h1 h2 h5 h6 h3;subst h5 h6;refine ycW (fun z=>absurd z yaP) (fun _=>?_);refine yaa (ycx (a:=()) rfl ?_)
  have hz:es.size=(zae ks).length:=by rw [<-yay,h4.len]
  rw [znH h1 zbl zcO (by omega)];refine yad ?_
  rcases Nat.lt_or_ge i es.size with z | z
  ·have hl:i<(zae ks).length:=by omega
   have e1:es[i]?=some es[i]:=yaO z
   have e2:place[i]?=some ((zae ks)[i]).toNat:=by
    rw [<-yaM,h1,yaq,yac hl];rfl
   rw [e1] at h ⊢;rw [e2]
   have e3:(zae ks).getD (i+1-1) 0=(zae ks)[i]:=by
    rw [Nat.add_sub_cancel,yax,yac hl];rfl
   rwa [if_neg (by omega),e3] at h
  ·have e1:es[i]?=none:=ybG z;rw [e1] at h ⊢;exact h
end
section
variable{prog:Program}{w:World}{A:Around}{E:Z5}{s:Shared}{a it:Addr}{ks:List Int}{es:Array (Int×Value)}{ep:Nat}{t:SetTable}
def zdL(x:SAt w s.heap a ks es ep t)(h:Q es s):wpAny (model prog w) A (setEntries a) Q E s:=by
 unfold setEntries;exact yaa (zdo x (yad h))
theorem zkk{Q:Z5}(x:SAt w s.heap a ks es ep t)
  (hQ:Q (.ref s.heap.objs.size) { s with heap:=s.heap.push { cls:=.type "set_iterator",data:=.fields #[.int 0 0,.int 0 0,.ref a,.int es.size 0,.int ep 0] } }):wpAny (model prog w) A (pyIter (.ref a)) Q E s:=by
 obtain ⟨⟨o,ho,hx,hd⟩,_,_,h5,_⟩:=id x;have hT:s.TypeIs (.ref a) "set":=⟨o,ho,hx.1⟩;refine wpAny_pyIter_slot hT PySem.F.slot_set_iter (yaY PySem.F.slot_set_iter hT zgR ?_ (PySem.F.args_set_iter_1 _));unfold Builtin.«frozenset.__iter__»;refine yaa (ycx (a:=a) rfl ?_);refine yaa ?_;unfold Builtin.Frozenset.sizeOf;refine yaa (zdL x (yad ?_));refine yaa ?_;unfold setDrawn;refine yaa (zdo x ?_);dsimp only;refine yaa (zjU ?_);refine yad ?_;obtain ⟨mask,place,dummies,finger,led,moves,plain⟩:=t;simp only at h5;subst h5
 refine ycW (fun z=>absurd z (by
  cases byT w
  ·exact yaP
  ·exact yaP)) (fun _=>?_)
 refine yaa (yad ?_);refine yaa ?_;unfold setEpoch;refine yaa (zdo x (yad ?_));refine yaa (yaZ (yad ⟨_,rfl,"set_iterator",_,⟨_,yal _ rfl,rfl⟩,zba.lookup,hQ⟩))
def zpf{Q:Option Value->Shared->Prop}{i:Nat}{e:Int×Value}(hit:znL s.heap it a (slN w (zae ks) i) i es.size ep)(x:SAt w s.heap a ks es ep t)(hx:(zjQ w a ep es)[i]?=some e)
  (hQ:∀h',znL h' it a (slN w (zae ks) (i+1)) (i+1) es.size ep->Heap.SameBut it s.heap h'->Q (some e.2) { s with heap:=h' }):wpAny (model prog w) A (pyNext (.ref it)) Q E s:=by
 obtain ⟨o,ho,hc,hd⟩:=id hit
 have hlt:i<=es.size:=by
  have:=(ybm.mp hx).1;rw [zeg] at this;omega
 unfold pyNext;refine yaa (ydd (yaX (name:=Str.ofString "__next__") hit.typeIs zba (yaY zba hit.typeIs zdF ?_ (zd8 _))));unfold Builtin.«set_iterator.__next__»;refine yaa (yad ?_);refine yaa (wpAny_fieldsOf ho hd ?_);dsimp only;refine yaa (zdL x ?_);rw [if_neg (by simp)];refine yaa ?_;rw [ybe,ybe,ybe];refine zjT x hlt ?_;rw [hx];show wpAny _ _ (setField (.ref it) 0 (rawInt (slN w (zae ks) (i+1))) >>= _) _ _ s;refine yaa (ycz ho hd (by simp) ?_);have ho1:=ybs (Obj.mapFields (·.setIfInBounds 0 (rawInt (slN w (zae ks) (i+1))))) ho (ycD (ybi hd _));refine yaa (ycz (s:={ s with heap:=s.heap.update it (Obj.mapFields (·.setIfInBounds 0 (rawInt (slN w (zae ks) (i+1))))) }) ho1 (ybi hd _) (by simp) ?_);have ho2:=ybs (Obj.mapFields (·.setIfInBounds 1 (rawInt ((i:Int)+1)))) ho1 (ycD (ybi (ybi hd _) _));refine yad ⟨_,rfl,yad (hQ _ ⟨_,ho2,?_,?_⟩ ((Heap.SameBut.update ..).trans (Heap.SameBut.update ..)))⟩
 ·exact (yc9 ..).trans ((yc9 ..).trans hc)
 ·rw [ybi (ybi hd _)];simp [rawInt]
def zrI{Q:Option Value->Shared->Prop}(hh:A.handled=none)(hit:znL s.heap it a (slN w (zae ks) es.size) es.size es.size ep)(x:SAt w s.heap a ks es ep t)(hQ:∀h',Heap.ExtBut it s.heap h'->Q none { s with heap:=h' }):wpAny (model prog w) A (pyNext (.ref it)) Q E s:=by
 obtain ⟨o,ho,hc,hd⟩:=id hit;unfold pyNext;refine yaa (ydd (yaX (name:=Str.ofString "__next__") hit.typeIs zba (yaY zba hit.typeIs zdF ?_ (zd8 _))));unfold Builtin.«set_iterator.__next__»;refine yaa (yad ?_);refine yaa (wpAny_fieldsOf ho hd ?_);dsimp only;refine yaa (zdL x ?_);rw [if_neg (by simp)];refine yaa ?_;rw [ybe,ybe,ybe];refine zjT x (yah _) ?_;have hn:(zjQ w a ep es)[es.size]?=none:=ybG (by rw [zeg];exact yah _);rw [hn];show wpAny _ _ (setField (.ref it) 2 .none >>= _) _ _ s;refine yaa (ycz ho hd (by simp) ?_);show wpAny _ _ (newExc (.type "StopIteration") [] >>= _) _ _ _;refine yaa ?_;simp only [newExc,newTuple];refine yaa (yaZ ?_ (by size_fits));refine yaa (m:=firstArgMember _ _) (ycx (a:=Value.none) (by first | rfl | (simp only [firstArgMember];rfl)) ?_);refine yaZ ?_ (by size_fits);simp only [raiseNew];refine yaa (wpAny_handled ?_);rw [show A.in1.handled=none from hh];refine yaa (yad (wpAny_throw ?_));refine yaa (wpAny_isInstance (T:="StopIteration") (b:=true) ⟨_,yal _ rfl,rfl⟩ isSubtype_stop ?_);exact yad (hQ _ (((Heap.SameBut.update ..).extBut.push _).push _))
def zjV(hh:A.handled=none)(I:Addr)(hne:a≠I):Walks prog w A I [I,a] [I] es.size (fun i v=>∃e,(zjQ w a ep es)[i]?=some e/\e.2=v) (fun i h=>znL h I a (slN w (zae ks) i) i es.size ep/\SAt w h a ks es ep t) where
 sub:=fun b hb=>by simp at hb;simp [hb]
 frame:=fun _ _ _ st hk=>⟨st.1.at fun o e=>hk I (by simp) o e,st.2.at fun o e=>hk a (by simp) o e⟩
 item:=fun i s Q E hi st hQ=>by
  obtain ⟨e,hx⟩:∃e,(zjQ w a ep es)[i]?=some e:=⟨_,yaO (by rw [zeg];exact hi)⟩;refine zpf st.1 st.2 hx fun h' hit' hs'=>?_
  exact hQ e.2 h' s.toks ⟨e,hx,rfl⟩ ⟨hit',st.2.at fun o e=>hs'.extBut a o hne e⟩ fun b o hb e=>hs'.extBut b o (fun h=>hb (by simp [h])) e
 done:=fun s Q E st hQ=>zrI hh st.1 st.2 fun h' he'=>hQ h' s.toks fun b o hb e=>he' b o (fun h=>hb (by simp [h])) e
 self:=fun i s Q E st hQ=>by
  refine wpAny_pyIter_slot st.1.typeIs zd0 (yaY zd0 st.1.typeIs zfV ?_ (zhb _));show wpAny _ _ (ret (.ref I)) _ _ s;exact yad ⟨_,rfl,"set_iterator",_,st.1.typeIs,zba.lookup,hQ⟩
end
open PySem PySem.Spec PySem.W PyProof.Rows
section
variable{prog:Program}{w:World}{A:Around}{E:Z5}{s:Shared}{a:Addr}{ks:List Int}{es:Array (Int×Value)}{ep:Nat}{t:SetTable}
theorem znc(hT:s.TypeIs (.ref r) "set")(h:Q false s):wpAny (model prog w) A (Builtin.List.listLengthHint (.ref r)) Q E s:=by
 unfold Builtin.List.listLengthHint;refine yaa (ycS hT PySem.F.slot_set_len.lookup ?_);generalize hid:("set.__len__":String)=id0
 wp_delta
 rw [show splitId id0=some ("set","__len__") from by subst hid;decide +kernel];subst hid;refine yaa (wpAny_isInstance (T:="set") (b:=true) hT (by rw [isSubtype_type];kernel_rfl) ?_);refine ycW (fun hab=>absurd hab (by decide)) (fun _=>?_);refine ycW (fun _=>?_) (fun hab=>absurd (by decide +kernel) hab);refine yaa (ybZ hT ?_);exact yad h
def SAt.typeIs(x:SAt w s.heap a ks es ep t):s.TypeIs (.ref a) "set":=let ⟨⟨o,ho,hx,_⟩,_⟩:=x;⟨o,ho,hx.1⟩
def SAt.lt(x:SAt w h a ks es ep t):a<h.objs.size:=let ⟨⟨_,ho,_⟩,_⟩:=x;yak ho
def zqg:KdlSrc prog w "set" a a es.size (fun i v=>∃e,(zjQ w a ep es)[i]?=some e/\e.2=v) (fun h=>SAt w h a ks es ep t) where
 type:=fun _ x=>x.typeIs
 there:=fun _ x=>⟨x.lt,x.lt⟩
 keep:=fun _ _ x hk=>x.at fun o e=>hk a (.inl rfl) o e
 notList:=by decide
 notTuple:=by decide
 hint:=fun _ _ _ _ x hq=>znc x.typeIs hq
 iter:=fun A s hh x=>⟨_,_,(fun _ _ hq=>zkk x hq),zjV hh _ (yas x.lt),by
  refine ⟨⟨_,yal _ rfl,rfl,?_⟩,x.at fun o e=>yaf _ e⟩
  have:slN w (zae ks) 0=0:=by unfold slN;split<;>rfl
  rw [this];rfl⟩
theorem zi4{Q:Z5}(hh:A.handled=none)(S:ISet w s.heap a ks)
  (h:∀(hm h':Heap) (tk e:Nat) (vs:List Value),(∀b o,s.heap.get? b=some o->hm.get? b=some o)->(∀b o,hm.get? b=some o->h'.get? b=some o)->h'.get? hm.objs.size=some (seqObj "list" vs.toArray e)->IntsAre vs (zae ks)->Q (.ref hm.objs.size) { s with heap:=h',toks:=tk }) :
  wpAny (model prog w) A (call (.builtin "sorted") [.ref a]) Q E s:=by
 obtain ⟨es,ep,t,x⟩:=S.sat;have h4:=x.2.2.2.2.2.2
 have hz:es.size=(zae ks).length:=by rw [<-yay,h4.len]
 have h8:=zaC (ks:=ks);refine Calls.call_function_entry kind_sorted plain_sorted entry_sorted (args_sorted1 _) ?_;unfold Builtin.«sorted»;refine yaa (m:=checkCount "sorted" 1 1 _) (yad ?_);refine yaa (kdu_collect (A:=A.in1) (zqg (prog:=prog)) hh x (by rw [hz];exact yam h8 (by decide)) fun h' tk acc hk hacc=>?_)
 have hl:acc.toList.length=es.size:=by rw [yay];exact hacc.1
 refine yaa (wpAny_newList ?_ (by rw [hl,hz];exact yam h8 (by decide)));have hoL:(h'.push (seqObj "list" acc.toList.toArray 0)).get? h'.objs.size=some (seqObj "list" acc.toList.toArray 0):=yal _ rfl
 have hv:acc.toList=(zjQ w a ep es).toList.map (·.2):=by
  apply ybp;intro i;rw [yaq,yaM,yaM]
  rcases Nat.lt_or_ge i es.size with z | z
  ·have z':i<acc.size:=by rw [hacc.1];exact z
   obtain ⟨e,e1,e2⟩:=hacc.2 i acc[i] (yaO z');rw [yaO z',e1];show some acc[i]=some e.2;rw [e2]
  ·rw [ybG (by rw [hacc.1];exact z),ybG (by rw [zeg];exact z)];rfl
 obtain ⟨ns,hns,hp⟩:∃ns,IntsAre acc.toList ns/\ns.Perm (zae ks):=by
  have go:∀l:List (Int×Value),(∀e∈l,∃k tk,e=(k,Value.int k tk))->IntsAre (l.map (·.2)) (l.map (·.1)):=by
   intro l
   induction l with
   | nil=>intro _;exact .nil
   | cons e l ih =>
    intro hm;obtain ⟨k,tk,rfl⟩:=hm e yav;exact .cons k tk (ih fun e he=>hm e (yan _ he))
  refine ⟨(zjQ w a ep es).toList.map (·.1),?_,?_⟩
  ·rw [hv]
   exact go _ fun e he=>by
    obtain ⟨k,tk,_,z⟩:=h4.mem (zfE.mem_iff.mp he);exact ⟨k,tk,z⟩
  ·have:=(zfE (w:=w) (a:=a) (ep:=ep) (es:=es)).map (·.1);rwa [h4.hashes] at this
 refine yaa (yaW (yaY slot_list_sort ⟨_,hoL,rfl⟩ entry_list_sort (list_sort_tree (s:={ s with heap:=h'.push (seqObj "list" acc.toList.toArray 0),toks:=tk }) hoL hns (by rw [hl,hz];omega) fun out ns' a1 a2 a3=>⟨_,rfl,?_⟩) (args_list_sort _)));refine yad ⟨_,rfl,?_⟩;obtain ⟨e,he⟩:=sortedHeap_at (out:=out) hoL;have en:ns'=zae ks:=lks_uniq (a2.trans hp) a3 (List.Pairwise.imp (fun {a b} h=>by omega) zbl);refine h h' _ tk e out.toList hk (fun b o hb=>?_) (by simpa using he) (by rw [<-en];exact a1);have hlt:b<h'.objs.size:=yak hb;rw [sortedHeap_old (yas hlt) (by rw [size_push'];exact ybf hlt)];exact yaf _ hb
end
end SI
namespace L2
open PySem PySem.Spec PyProof.Rows
section
variable{X:Cx}
noncomputable def ziZ(w:World)(a:Addr)(ks:List Int)(h:Heap):Prop:=SI.ISet w h a ks
theorem zd4:∀{ns:List Int} {vs:List Value},Vals (ns.map V.int) vs->IntsAre vs ns
 | [],_,r=>by rw [List.map_nil] at r;cases r;exact .nil
 | n::ns,_,r=>by
  rw [yaz] at r
  cases r with
  | cons h t =>
   obtain ⟨u,e⟩:=(show ∃t,_=Value.int n t from h);subst e;exact .cons n u (zd4 t)
def zf9(h:IntsAre vs ns):Vals (ns.map V.int) vs:=by
 induction h with
 | nil=>exact .nil
 | cons n t _ ih=>exact .cons ⟨t,rfl⟩ ih
def zf1(hc:X.calm=true):zcv X (.type "set") (fun xs H Q=>∃(p:Addr) (ns:List Int),xs=[.ref p]/\SqL X.K H p (ns.map V.int)/\(∀k∈ns,0<=k/\k<8)/\∀l,H l=none->Q (.ref l) (upd H l (.ext (ziZ X.w l ns)))):=by
 intro pins s σ H xs us Q I r h;obtain ⟨p,ns,rfl,hq,hs,q⟩:=h;obtain ⟨u,rfl,rx⟩:=zej r;cases rx;obtain ⟨its,rv,pl,hz⟩:=I.list hq;refine zlU (I.ok.hd hc) pl.isList (by simpa using zd4 rv) hs fun h' tk S kp=>?_
 refine ⟨.ref s.heap.objs.size,_,I.laid (t':=tk) (o:=.ext (ziZ X.w s.heap.objs.size ns)) kp (yah _) ?_,rfl,q _ (I.hok.fresh (yah _))⟩;refine ⟨S,?_,fun h1 h2 x k=>SI.ISet.keep x k⟩;obtain ⟨o,_,_,_,e,_⟩:=S.ex;exact ⟨o,e⟩
def zeP(hc:X.calm=true):zcv X (.builtin "sorted") (fun xs H Q=>∃(a:Addr) (ns:List Int),xs=[.ref a]/\H a=some (.ext (ziZ X.w a ns))/\∀l,H l=none->Q (.ref l) (upd H l (.lst ((SI.zae ns).map V.int)))):=by
 intro pins s σ H xs us Q I r h;obtain ⟨a,ns,rfl,ha,q⟩:=h;obtain ⟨u,rfl,rx⟩:=zej r;cases rx;obtain ⟨S,_⟩:=I.hok a _ ha;refine SI.zi4 (I.ok.hd hc) S fun hm h' tk e vs k1 k2 hg hi=>?_
 have I1:=I.kept k1 (t':=tk);refine ⟨.ref hm.objs.size,_,I1.laid (h':=h') (t':=tk) (o:=.lst ((SI.zae ns).map V.int)) k2 (yah _) (show zaI X.prog X.w _ h' _ (.lst _) from ⟨?_,vs,e,zf9 hi,hg⟩),rfl,q _ (I1.hok.fresh (yah _))⟩;rw [yae];exact yam SI.zaC (by decide)
end
end L2
namespace S2
open PySem PySem.Spec PyProof.Rows L2
def zhh:D->Option D | .lst l=>(zca l).bind fun ns=>if ns.all (fun k=>decide (0<=k/\k<8)) then some (.lst ((SI.zae ns).map D.int)) else none | _=>none
section
variable{X:Cx}{cl:Cf}{E:St->XK}{e:Expr}{f:Fe}{pos:Pos}
theorem zgk:∀{l:List Int},Shds cl w (l.map V.int) (l.map D.int)
 | []=>.nil
 | i::l=>.cons (.int i) (zgk (l:=l))
theorem zpj(hc:X.calm=true)(hK:X.K=cl.K)(hg:Gl X "sorted")(hm:X.mg "sorted" = none)(hg2:Gl X "set")(hm2:X.mg "set" = none)(he:PE X e (tE cl E f))(hs:starEach [e] X.env=[(false,eval e X.env)]) :
  PE X (.Call (.Name "sorted" p) [.Call (.Name "set" p2) [e] [] pos2] [] pos) (tN cl E (eUn zhh f)):=by
 refine PE.imp (zcg (zeP hc) hg hm (by decide +kernel) (zaF (zdw (zf1 hc) hg2 hm2 (by decide +kernel) (zcx he ze6 hs) (he:=hs) (hpl:=rfl)) zbx)) ?_;rintro σ H Q ⟨B,w,ρ,S,rfl,R,q⟩;refine ⟨B,w,ρ,S,rfl,R,?_⟩;unfold eUn at q
 cases hf:f ρ S with
 | bad=>rw [hf] at q;exact q.elim
 | exc c S1=>rw [hf] at q;simp only [zai,hf,Out.bind];exact q
 | ok d S1 =>
  rw [hf] at q;simp only [zai,hf,Out.bind];intro vs w1 R1 F1 sh;dsimp only [Out.bind] at q
  cases d with
  | lst l =>
   cases hk:zca l with
   | none=>simp [zhh,hk,Out.of] at q
   | some ns =>
    by_cases h8:ns.all (fun k=>decide (0<=k/\k<8))=true
    ·simp only [zhh,hk,Option.bind,h8,ybU] at q
     cases sh with
     | cons h1 hn =>
      cases hn
      cases h1 with
      | lst ep k r =>
       have er:=zgI r hk;subst er;refine ⟨_,ns,rfl,SqL.of ep,fun k hk=>yao (ybl.mp h8 k hk),fun l hl=>⟨l,ns,rfl,zag,fun l2 hl2=>?_⟩⟩;exact q l2 _ (w1.add l (.ext (ziZ X.w l ns))) (R1.grow (zaq hl _)) (F1.trans (zaq hl _).fut) hl2 (.lst zgk)
    ·rw [Bool.not_eq_true] at h8;simp only [zhh,hk,Option.bind,h8,ybv,ycN] at q;exact q.elim
  | _=>exact q.elim
end
noncomputable def zvD(nm:List (Str×NameKind))(ts:List Expr):Bool:=ts.any fun | .Name x _=>!decide (nm.lookup x=some .local) | _=>false
theorem ztl{α β:Type}(f:α->Option β):∀(l:List α),(∃a∈l,f a=none)->(l.filterMap f).length<l.length
 | [],h=>by obtain ⟨_,h,_⟩:=h;cases h
 | a::l,h=>by
  rw [yaj,ybR];have hle:=List.length_filterMap_le f l
  cases ha:f a with
  | none=>exact Nat.lt_succ_of_le hle
  | some b =>
   show (l.filterMap f).length+1<_;obtain ⟨c,hc,e⟩:=h
   rcases yaw.mp hc with rfl | hc
   ·rw [ha] at e;cases e
   ·have:=ztl f l ⟨c,hc,e⟩;omega
section
variable{X:Cx}{cl:Cf}{E:St->XK}{own:Bool}{nm:List (Str×NameKind)}
def zqM(hs:X.env.scope.names=nm)(h:zvD nm ts=true):swappedStores [.Tuple ts k p] (.Tuple vs k2 p2) X.env=pure none:=by
 unfold swappedStores;dsimp only;split
 ·rfl
 ·split
  ·rfl
  ·split
   ·rfl
   ·rename_i hn;exfalso;apply hn;rw [ycU];left;rw [bne_iff_ne];apply yas;apply ztl;unfold zvD at h;rw [List.any_eq_true] at h;obtain ⟨x,hx,hb⟩:=h;refine ⟨x,hx,?_⟩
    cases x with
    | Name y q =>
     have hb':¬ nm.lookup y=some .local:=by simpa using hb
     have:¬ X.env.kindOf y=some .local:=by unfold Env.kindOf;rw [hs];exact hb'
     simp [this]
    | _=>cases hb
variable{i j h:Nat}{x y z:Str}{a e:Expr}{f f1:Fe}{px py pz pt pt2 p2 pos:Pos}{kt k2:Nat}
end
noncomputable def zdW(ρ:Env):List Nat->Option (List D)
 | []=>some []
 | i::is=>match ρ[i]? with | some (some (false,d))=>(zdW ρ is).map (d::·) | _=>none
def zeL(caps:List Nat)(fb:Fe):Fe:=fun ρ S=>match zdW ρ caps with
 | none=>.bad
 | some ds=>match fb (ds.map fun d=>some (false,d)) S with
  | .ok (.lst l) S1=>if zaE l.length then (match fb (ds.map fun d=>some (false,d)) S1 with
    | .ok d2 S2=>Out.of (eqD d2 (.lst l)) S2
    | _=>.bad) else .bad
  | _=>.bad
structure CapsOk(X:Cx)(N:List Str)(caps:List Nat):Prop where
 len:caps.length=N.length
 at':∀(j:Nat) (x:Str) (i:Nat),N[j]?=some x->caps[j]?=some i->X.N[i]?=some x/\X.env.scope.names.lookup x=some .cell/\X.fn x=true
noncomputable def ztO(cl:Cf)(P:Program)(wo:PySem.World)(K:PySem.W.Frag)(mg:Z6)(base:Heap)(k:Nat)(cod:Option (Addr×Str))(e:Expr)(N:List Str)(fb:Fe):Prop :=
 ∀(X:Cx) (E:St->XK) (caps:List Nat) (p pos:Pos),X.prog=P->X.w=wo->X.K=K->X.mg=mg->X.base=base->Room k X.A->X.calm=true->Gl X "_law_stays" -> (∀c,cod=some c->X.env.code=.ref c.1/\X.env.qual=c.2)->CapsOk X N caps →
  PE X (.Call (.Name "_law_stays" p) [e] [] pos) (tE cl E (zeL caps fb))
theorem ziR{cl:Cf}{B:Base}{σ:St}{w:Wd}{ρ:Env}{S:Sto}(R:Rel cl B σ w ρ S):∀{caps:List Nat} {ds:List D},zdW ρ caps=some ds->∃vs,vs.length=caps.length/\(∀(j i:Nat) (v:V),caps[j]?=some i->vs[j]?=some v->σ[i]?=some (some v))/\Shds cl w vs ds
 | [],ds,h=>by cases h;exact ⟨[],rfl,fun j i v h=>by simp at h,.nil⟩
 | i::is,ds,h=>by
  unfold zdW at h;split at h
  ·rename_i d hd
   cases h1:zdW ρ is with
   | none=>rw [h1] at h;cases h
   | some ds' =>
    rw [h1] at h;cases h;obtain ⟨vs,l,e,sh⟩:=ziR R h1;obtain ⟨v,e1,x⟩:=R.slots i false d hd;refine ⟨v::vs,by rw [yaj,yaj,l],fun j i' v' h1 h2=>?_,.cons x sh⟩
    cases j with
    | zero=>cases h1;cases h2;exact e1
    | succ j=>exact e j i' v' h1 h2
  ·cases h
def Rel.tabUp{cl:Cf}{B:Base}{σ:St}{w:Wd}{ρ:Env}{S:Sto}{P:Addr}{ps ps':Array Value}(R:Rel cl B σ w ρ S)(h1:w.H P=some (.tbl ps))(h2:w.ow P=some .tab)(h3:∀q,cl.tabs P=some q->zl5 w q ps') :
  Rel cl B σ (w.mut P (.tbl ps')) ρ S/\Fut w (w.mut P (.tbl ps')):=by
 have ff:=zcG (w:=w) (p:=P) (o:=.tbl ps') (by rw [h2];exact yaC _)
 have kp:∀a u,w.H a=some u->w.ow a≠some .tab->(w.mut P (.tbl ps')).H a=some u/\(w.mut P (.tbl ps')).ow a=w.ow a:=fun a u ha hn=>⟨by
  show upd w.H P _ a=_
  rw [zac (fun z=>hn (by rw [z];exact h2))];exact ha,rfl⟩
 have hB:B.Fr P=none:=(R.wd.own P _ h2).elim (fun z=>by cases z) fun z=>z
 refine ⟨⟨⟨fun a u h=>?_,R.wd.own,R.wd.len,fun n ob h=>?_,fun P' q h=>?_⟩,R.len,fun i o d h=>?_⟩,ff⟩
 ·refine ⟨?_,(R.wd.fr a u h).2⟩;show upd w.H P _ a=_;rw [zac (fun z=>by rw [z,hB] at h;cases h)];exact (R.wd.fr a u h).1
 ·obtain ⟨a,e,x⟩:=R.wd.obj n ob h;exact ⟨a,e,x.keep ff fun b u hb hn=>kp b u hb fun z=>by rwa [z] at hn⟩
 ·by_cases hP:P'=P
  ·subst hP;exact ⟨ps',zag,h2,(h3 q h).up ff⟩
  ·obtain ⟨qs,g1,g2,g3⟩:=R.wd.tab P' q h;refine ⟨qs,?_,g2,g3.up ff⟩;show upd w.H P _ P'=_;rw [zac hP];exact g1
 ·obtain ⟨v,e1,x⟩:=R.slots i o d h;refine ⟨v,e1,x.keep ff fun a u ha hr=>?_⟩;have:=kp a u ha (by rw [hr];simp);exact ⟨this.1,this.2.trans hr⟩
structure FnI where
 ar:Nat
 own:Bool
 run:List D->Sto->Out D
structure ObE where
 cur:Str
 fk:Str->Str->Bool
 df:Str->Bool
 mt:Str->Option (Str×FnI)
 mks:Str->Option (List D×FnI)
structure Genv where
 con:Str->Option D
 fn:Str->Option FnI
 blt:Str->Bool
 exc:Str->Bool
 und:Str->Str->Bool
 isx:Str->Str->Option Bool
 ob:ObE
 ds:Str->Bool
 lam:Expr->Option (List Str×Fe)
 cod:Option (Addr×Str)
abbrev bmV:List Value:=[.type "ValueError",.type "Exception",.type "BaseException",.type "object"]
structure GOk(cl:Cf)(G:Genv)(P:Program)(wo:PySem.World)(K:PySem.W.Frag)(mg:Z6)(base:Heap)(k:Nat):Prop where
 con:∀x d,G.con x=some d->∃v u,mg x=some u/\zaL v u/\∀w,Shd cl w v d
 fn:∀x fi,G.fn x=some fi->∃f fd ps,mg x=some (.ref f)/\PySem.W.keepIn K (.ref f)=true/\zcs K fd ps []/\FnOk P wo K mg base (CXE P wo) k f fd ps (zgg cl fi.ar fi.own fi.run)
 blt:∀x,G.blt x=true->mg x=none
 exc:∀c,G.exc c=true->mg c=some (.ref (cl c))/\PySem.W.excIn K (cl c) bmV "ValueError.__new__" = true
 und:∀c C,G.und c C=true->L2.ztN K (cl c) (cl C)
 isx:∀c C b,G.isx c C=some b->PySem.W.ExcCls K (cl c)/\PySem.W.kitOne K (.ref (cl c)) (ztA cl C)=some b
 fk:∀c f,G.ob.fk c f=true->zf8 cl c f
 mt:∀m c fi,G.ob.mt m=some (c,fi)->∃f fd ps,Cls K (cl c)/\Meth K (cl c) m f/\zcs K fd ps []/\FnOk P wo K mg base (CXE P wo) k f fd ps (zgg cl fi.ar fi.own fi.run)
 mks:∀c dds fi,G.ob.mks c=some (dds,fi)->∃f fd ps dvs ds k',k'+1<=k/\mg c=some (.ref (cl c))/\Mk K (cl c) f/\zcs K fd ps []/\zcs K fd ps ds/\Vals dvs ds/\(∀w,Shds cl w dvs dds)/\FnOk P wo K mg base (CXE P wo) k' f fd ps (zgg cl fi.ar false fi.run)
 tl:∀e N fb,G.lam e=some (N,fb)->ztO cl P wo K mg base k G.cod e N fb
noncomputable abbrev Names:=List (Str×NameKind)
structure Gx(cl:Cf)(G:Genv)(k:Nat)(X:Cx)(nm:Names)(N:List Str)(E:St->XK):Prop where
 gok:GOk cl G X.prog X.w X.K X.mg X.base k
 room:Room k X.A
 calm:X.calm=true
 pass:zcP (CXE X.prog X.w) X E
 eN:X.N=N
 kk:X.K=cl.K
 pp:X.prog=cl.P
 ww:X.w=cl.wo
 nd:N.Nodup
 vis:∀x kd,nm.lookup x=some kd->∃kd',X.env.scope.names.lookup x=some kd'/\(kd'=kd\/(kd=.free/\kd'=.cell))
 fnx:∀x,nm.lookup x=some .local->X.env.scope.names.lookup x=some .local
 cod:∀c,G.cod=some c->X.env.code=.ref c.1/\X.env.qual=c.2
 fnc:∀x,nm.lookup x=some .cell->X.fn x=true
noncomputable def idx:List Str->Str->Option Nat
 | [],_=>none
 | y::l,x=>if y=x then some 0 else (idx l x).map (·+1)
theorem zeC:∀{N:List Str} {x:Str} {i:Nat},idx N x=some i->N[i]?=some x
 | y::l,x,i,h=>by
  unfold idx at h;split at h
  ·rename_i e;cases h;rw [e];rfl
  ·cases hr:idx l x with
   | none=>rw [hr] at h;cases h
   | some j=>rw [hr] at h;cases h;simpa using zeC hr
noncomputable def zir(x:Str):Bool:=!(x == ("__debug__":Str))&&!(x == ("__classdict__":Str))&&!decide (x = "__name__")
def zgx(h:zir x=true):(x == ("__debug__":Str))=false/\(x == ("__classdict__":Str))=false/\x ≠ "__name__":=by
 unfold zir at h;simp only [yab,ybC,ycr] at h;exact ⟨h.1.1,h.1.2,h.2⟩
noncomputable def zvn:Option NameKind->Bool | some .local=>true | some .cell=>true | some .free=>true | _=>false
def zbd(nm:Names)(N:List Str)(x:Str):Option Nat:=if zvn (nm.lookup x)&&zir x then idx N x else none
noncomputable def zbm(nm:Names)(x:Str):Bool:=decide (nm.lookup x=some .globalImplicit)&&zir x
section
variable{cl:Cf}{G:Genv}{k:Nat}{X:Cx}{nm:Names}{N:List Str}{E:St->XK}
def Gx.slot(g:Gx cl G k X nm N E)(h:zbd nm N x=some i):X.N[i]?=some x/\Vis X.env.scope x/\(x == ("__debug__":Str))=false/\(x == ("__classdict__":Str))=false:=by
 unfold zbd at h;split at h
 ·rename_i hv;rw [yab] at hv;obtain ⟨h1,h2,_⟩:=zgx hv.2;refine ⟨by rw [g.eN];exact zeC h,?_,h1,h2⟩
  cases hk:nm.lookup x with
  | none=>rw [hk] at hv;exact absurd hv.1 (by decide)
  | some kd =>
   obtain ⟨kd',e,z⟩:=g.vis x kd hk;rw [hk] at hv;unfold Vis;rw [e]
   rcases z with rfl | ⟨_,rfl⟩
   ·cases kd'<;>first | exact .inl rfl | exact .inr (.inl rfl) | exact .inr (.inr rfl) | exact absurd hv.1 (by decide)
   ·exact .inr (.inl rfl)
 ·cases h
def Gx.glob(g:Gx cl G k X nm N E)(h:zbm nm x=true):Gl X x/\(x == ("__debug__":Str))=false/\x ≠ "__name__":=by
 unfold zbm at h;rw [yab] at h;obtain ⟨h1,_,h3⟩:=zgx h.2;obtain ⟨kd',e,z⟩:=g.vis x _ (yao h.1)
 rcases z with rfl | ⟨z,_⟩
 ·exact ⟨e,h1,h3⟩
 ·cases z
end
noncomputable abbrev Rec:=Names->List Str->Expr->Option (Bool×Fe)
noncomputable def okE:Expr->Bool | .Starred _ _=>false | .Set _ _ _=>false | _=>true
def zak(h:okE e=true):zbi e=true:=by cases e<;>first | rfl | cases h
def zet(h:okE e=true):behindInMarks op e=false:=by cases e<;>first | rfl | cases h
def zfF(h:okE e=true)(v:Value):foldedSetIterable e env v=pure v:=by cases e<;>first | rfl | cases h
noncomputable def zbs:Expr->Bool | .IfExp _ _ _ _=>false | _=>true
noncomputable def za4(cl:Cf)(G:Genv)(k:Nat)(rc:Rec):Prop:=∀(X:Cx) (nm:Names) (N:List Str) (E:St->XK),Gx cl G k X nm N E->∀(e:Expr) (o:Bool) (f:Fe),rc nm N e=some (o,f) →
 (o=true->PE X e (tN cl E f))/\PE X e (tE cl E f)/\(zbs e=true->PT X e (tTr cl E f))/\okE e=true
noncomputable def shE(rc:Rec)(nm:Names)(N:List Str)(e:Expr):Option Fe:=(rc nm N e).map (·.2)
def opE(rc:Rec)(nm:Names)(N:List Str)(e:Expr):Option Fe:=match e with
 | .Name x _=>(match zbd nm N x with | some i=>some (zap i) | none=>shE rc nm N e)
 | _=>shE rc nm N e
def shL(rc:Rec)(nm:Names)(N:List Str):List Expr->Option (List Fe)
 | []=>some []
 | e::es=>(shE rc nm N e).bind fun f=>(shL rc nm N es).bind fun fs=>some (f::fs)
def opL(rc:Rec)(nm:Names)(N:List Str):List Expr->Option (List Fe)
 | []=>some []
 | e::es=>(opE rc nm N e).bind fun f=>(opL rc nm N es).bind fun fs=>some (f::fs)
section
variable{cl:Cf}{G:Genv}{k:Nat}{rc:Rec}{X:Cx}{nm:Names}{N:List Str}{E:St->XK}
def zaZ(hs:za4 cl G k rc)(g:Gx cl G k X nm N E)(h:shE rc nm N e=some f):PE X e (tE cl E f)/\(zbs e=true->PT X e (tTr cl E f))/\okE e=true:=by
 unfold shE at h
 cases hr:rc nm N e with
 | none=>rw [hr] at h;cases h
 | some p =>
  obtain ⟨o,f'⟩:=p;rw [hr] at h;cases h;obtain ⟨_,h2,h3,h4⟩:=hs X nm N E g e o _ hr;exact ⟨h2,h3,h4⟩
def zb0(hs:za4 cl G k rc)(g:Gx cl G k X nm N E)(h:opE rc nm N e=some f):PE X e (tH cl E f)/\okE e=true:=by
 unfold opE at h;split at h
 ·rename_i x pos;split at h
  ·rename_i i hi;cases h;obtain ⟨h1,h2,h3,h4⟩:=g.slot hi;exact ⟨zrU h1 h2 h3 h4,rfl⟩
  ·obtain ⟨h1,_,h3⟩:=zaZ hs g h;exact ⟨zks h1,h3⟩
 ·obtain ⟨h1,_,h3⟩:=zaZ hs g h;exact ⟨zks h1,h3⟩
theorem zem(hs:za4 cl G k rc)(g:Gx cl G k X nm N E):∀{es:List Expr} {fs:List Fe},shL rc nm N es=some fs->PA X es (tAs cl E fs)/\es.all zbi=true/\fs.length=es.length
 | [],fs,h=>by cases h;exact ⟨ze6,rfl,rfl⟩
 | e::es,fs,h=>by
  unfold shL at h
  cases h1:shE rc nm N e with
  | none=>rw [h1] at h;cases h
  | some f =>
   rw [h1] at h
   cases h2:shL rc nm N es with
   | none=>rw [h2] at h;cases h
   | some fs' =>
    rw [h2] at h;cases h;obtain ⟨a1,_,a3⟩:=zaZ hs g h1;obtain ⟨b1,b2,b3⟩:=zem hs g h2;exact ⟨zcx a1 b1 (zaO (zak a3)),by rw [ybh,zak a3,b2];rfl,by rw [yaj,yaj,b3]⟩
theorem zob(hs:za4 cl G k rc)(g:Gx cl G k X nm N E):∀{es:List Expr} {fs:List Fe},opL rc nm N es=some fs->PA X es (tHs cl E fs)/\es.all zbi=true/\fs.length=es.length
 | [],fs,h=>by cases h;exact ⟨znT,rfl,rfl⟩
 | e::es,fs,h=>by
  unfold opL at h
  cases h1:opE rc nm N e with
  | none=>rw [h1] at h;cases h
  | some f =>
   rw [h1] at h
   cases h2:opL rc nm N es with
   | none=>rw [h2] at h;cases h
   | some fs' =>
    rw [h2] at h;cases h;obtain ⟨a1,a3⟩:=zb0 hs g h1;obtain ⟨b1,b2,b3⟩:=zob hs g h2;exact ⟨zkm a1 b1 (zaO (zak a3)),by rw [ybh,zak a3,b2];rfl,by rw [yaj,yaj,b3]⟩
end
noncomputable def zxc:Const->Option D
 | .int i=>some (.int i)
 | .bool b=>some (.bl b)
 | .none=>some .non
 | .str x=>some (.str x)
 | _=>none
def zvF:Operator->Option (D->D->Option D)
 | .Add=>some zdJ | .Sub=>some zux | .Mult=>some zjR | .Mod=>some zod | .FloorDiv=>some ztt | _=>none
noncomputable def zlq:Expr->Bool | .Constant .none _ _=>true | _=>false
def ltD:=zrb fun i j=>decide (i<j)
def leD:=zva
def gtD:=zrb fun i j=>decide (j<i)
def geD:=zrb fun i j=>decide (j<=i)
def ztz:CmpOp->Expr->Option (D->D->Option D)
 | .Eq,_=>some eqD | .NotEq,_=>some neD | .Lt,_=>some ltD | .LtE,_=>some leD | .Gt,_=>some gtD | .GtE,_=>some geD | .In,_=>some inD | .NotIn,_=>some zma
 | .Is,b=>if zlq b then some zmb else none
 | .IsNot,b=>if zlq b then some zjo else none
def zjK(rc:Rec)(nm:Names)(N:List Str)(op:BoolOp):List Expr->Option Fe
 | []=>none
 | [a]=>if zbs a then shE rc nm N a else none
 | a::b::r=>if zbs a then (shE rc nm N a).bind fun f=>(zjK rc nm N op (b::r)).bind fun h=>some (match op with | .And=>zf7 f h | .Or=>eOr f h) else none
structure BI where
 g:List D->Option D
 nw:Bool
def zlX(x:Str):Option BI :=
 if x = "len" then some ⟨zdQ,false⟩
 else if x = "all" then some ⟨ziV,false⟩
 else if x = "tuple" then some ⟨zdp,false⟩
 else if x = "list" then some ⟨zjs,true⟩
 else if x = "max" then some ⟨zq7,false⟩
 else if x = "dict" then some ⟨zqG,true⟩
 else none
noncomputable def zre(x:Str):Option String:=if x = "int" then some "int" else if x = "bool" then some "bool" else if x = "tuple" then some "tuple" else if x = "str" then some "str" else if x = "list" then some "list" else none
noncomputable def zvC(G:Genv)(t:Str):Bool:=if t = "ValueError" then G.blt t else G.exc t
def zqP(G:Genv)(rc:Rec)(nm:Names)(N:List Str)(x:Str)(args:List Expr):Option (Bool×Fe) :=
 if zbm nm x then
  match G.fn x with
  | some fi=>if args.length=fi.ar then (shL rc nm N args).bind fun fs=>some (fi.own,eFn fi.run fs) else none
  | none=>if G.blt x then
    (if x = "isinstance" then (match args with
     | [a,.Name t _]=>if zbm nm t&&G.blt t&&(zre t).isSome then (zre t).bind fun T=>(opE rc nm N a).bind fun f=>some (false,eUn (zcu T) f)
      else if zbm nm t&&zvC G t then (opE rc nm N a).bind fun f=>some (false,eUn (zvm G.isx t) f) else none
     | _=>none)
    else match args with
     | []=>none
     | _::_=>(zlX x).bind fun bi=>(opL rc nm N args).bind fun fs=>some (bi.nw,zar bi.g fs)) else none
 else none
noncomputable def ztf:Expr->Bool | .Tuple _ _ _=>true | _=>false
def zjw(G:Genv)(rc:Rec)(nm:Names)(N:List Str)(tg e:Expr):Option Fi:=match e with
 | .Call (.Name x p) args [] pos=>if x = "range" then (if zbm nm x&&G.blt x then (match args with
   | [a]=>(shE rc nm N a).bind fun f=>some (zdV f)
   | [a,b]=>(shE rc nm N a).bind fun f=>(shE rc nm N b).bind fun h=>some (zjC f h)
   | _=>none) else none)
  else if x = "zip" then (if zbm nm x&&G.blt x&&ztf tg then (match args with
   | [a,b]=>(shE rc nm N a).bind fun f=>(shE rc nm N b).bind fun h=>some (zq9 f h)
   | _=>none) else none)
  else (shE rc nm N e).map zaH
 | _=>(shE rc nm N e).map zaH
noncomputable def zuF:Expr->Option (Str×Expr×Pos×Pos) | .Call (.Name y p) [a] [] q=>some (y,a,p,q) | _=>none
noncomputable def spA:List Expr->Option (Str×Expr×Pos×Pos) | [e]=>zuF e | _=>none
def zrD(h:spA args=some c):args=[.Call (.Name c.1 c.2.2.1) [c.2.1] [] c.2.2.2]:=by
 match args,h with
 | [e],h =>
  have h':zuF e=some c:=h;unfold zuF at h';split at h'
  ·cases h';rfl
  ·cases h'
def spG(G:Genv)(rc:Rec)(nm:Names)(N:List Str)(x:Str)(args:List Expr):Option (Bool×Fe):=(spA args).bind fun c =>
 if decide (x = "sorted")&&decide (c.1 = "set")&&zbm nm "sorted" && G.blt "sorted" && zbm nm "set" && G.blt "set" then (shE rc nm N c.2.1).map fun f=>(true,eUn zhh f)
 else if decide (x = "len")&&decide (c.1 = "set")&&zbm nm "len" && G.blt "len" && zbm nm "set" && G.blt "set" then (shE rc nm N c.2.1).map fun f=>(false,eUn zdf f)
 else none
section
variable{cl:Cf}{G:Genv}{k:Nat}{rc:Rec}{X:Cx}{nm:Names}{N:List Str}{E:St->XK}
theorem Gx.units(g:Gx cl G k X nm N E):X.A.units+64<cLine:=g.room.units
def zoy(h:zvF op=some gg):OpD X cl (binaryOp op) gg:=by
 cases op<;>simp [zvF] at h<;>subst h
 ·exact zsQ
 ·exact zsI
 ·exact zsK
 ·exact zsL
 ·exact zsP
def zfn(g:Gx cl G k X nm N E)(h:ztz op b=some gg):OpD X cl (compareOp op) gg:=by
 cases op<;>simp only [ztz] at h
 ·cases h;exact zsO g.kk g.units
 ·cases h;exact zu4 g.kk g.units
 ·cases h;exact zfG zu0
 ·cases h;exact zsM
 ·cases h;exact zfG zu2
 ·cases h;exact zfG zu3
 ·split at h
  ·cases h;exact zsN
  ·cases h
 ·split at h
  ·cases h;exact zp0
  ·cases h
 ·cases h;exact zu5 g.kk g.units
 ·cases h;exact zsJ g.kk g.units
theorem zlW(hs:za4 cl G k rc)(g:Gx cl G k X nm N E):∀{es:List Expr} {f:Fe},zjK rc nm N op es=some f->PE X (.BoolOp op es pos) (tE cl E f)/\PW X (.BoolOp op es pos) (tTr cl E f)
 | [],f,h=>by cases h
 | [a],f,h=>by
  unfold zjK at h;split at h
  ·rename_i ht;obtain ⟨h1,h2,_⟩:=zaZ hs g h;refine ⟨zsp h1,?_⟩
   cases op with
   | And=>exact zpz (h2 ht)
   | Or=>exact zsc (h2 ht)
  ·cases h
 | a::b::r,f,h=>by
  unfold zjK at h;split at h
  ·rename_i ht
   cases h1:shE rc nm N a with
   | none=>rw [h1] at h;cases h
   | some fa =>
    rw [h1] at h
    cases h2:zjK rc nm N op (b::r) with
    | none=>rw [h2] at h;cases h
    | some fb =>
     rw [h2] at h;obtain ⟨a1,a2,_⟩:=zaZ hs g h1;obtain ⟨b1,b2⟩:=zlW hs g (pos:=pos) h2
     cases op with
     | And=>cases h;exact ⟨zrV a1 b1,zrs (a2 ht) b2⟩
     | Or=>cases h;exact ⟨zuG a1 b1,zuw (a2 ht) b2⟩
  ·cases h
theorem znF:bootBuiltins "all" = some (.builtin "all"):=by decide +kernel
theorem zfp:bootBuiltins "tuple" = some (.type "tuple"):=by decide +kernel
theorem zg3:bootBuiltins "list" = some (.type "list"):=by decide +kernel
theorem znE:bootBuiltins "int" = some (.type "int"):=by decide +kernel
theorem zlV:bootBuiltins "bool" = some (.type "bool"):=by decide +kernel
theorem znD:bootBuiltins "max" = some (.builtin "max"):=by decide +kernel
theorem zt7:bootBuiltins "min" = some (.builtin "min"):=by decide +kernel
theorem znC:bootBuiltins "str" = some (.type "str"):=by decide +kernel
theorem ztG(g:Gx cl G k X nm N E)(h:zlX x=some bi)(hg:zbm nm x=true)(hb:G.blt x=true)(ha:PA X (e::es) (tHs cl E fs))(hp:(e::es).all zbi=true) :
  (bi.nw=true->PE X (.Call (.Name x p) (e::es) [] pos) (tN cl E (zar bi.g fs)))/\PE X (.Call (.Name x p) (e::es) [] pos) (tE cl E (zar bi.g fs)):=by
 obtain ⟨g1,g2,g3⟩:=g.glob hg;have m:=g.gok.blt x hb;rw [ybh,yab] at hp;have st:=zaO (es:=es) (env:=X.env) hp.1;have pl:=zbh (pos:=pos) (env:=X.env) hp.2
 have D1:∀{id:String} {gg:List D->Option D},zjP X cl (.builtin id) gg->bootBuiltins x=some (.builtin id)->PE X (.Call (.Name x p) (e::es) [] pos) (tE cl E (zar gg fs)):=fun hc hv =>
  PE.imp (zcg hc g1 m hv ha g3 g2 st pl) fun _ _ _ q=>zro (fun _ _ _ z=>z) q
 have D2:∀{T:String} {gg:List D->Option D},zjP X cl (.type T) gg->bootBuiltins x=some (.type T)->PE X (.Call (.Name x p) (e::es) [] pos) (tE cl E (zar gg fs)):=fun hc hv =>
  PE.imp (zdw hc g1 m hv ha g3 g2 st pl) fun _ _ _ q=>zro (fun _ _ _ z=>z) q
 have N2:∀{T:String} {gg:List D->Option D},zq2 X cl (.type T) gg->bootBuiltins x=some (.type T)->PE X (.Call (.Name x p) (e::es) [] pos) (tN cl E (zar gg fs)):=fun hc hv =>
  PE.imp (zdw hc g1 m hv ha g3 g2 st pl) fun _ _ _ q=>zuu (fun _ _ _ z=>z) q
 unfold zlX at h;split at h
 ·rename_i e';cases h;exact ⟨(fun z=>absurd z (by decide)),D1 (ztC g.kk) (by rw [e'];exact PySem.boot_len)⟩
 split at h
 ·rename_i e';cases h;exact ⟨(fun z=>absurd z (by decide)),D1 (ztD g.calm) (by rw [e'];exact znF)⟩
 split at h
 ·rename_i e';cases h;exact ⟨(fun z=>absurd z (by decide)),D2 znx (by rw [e'];exact zfp)⟩
 split at h
 ·rename_i e';cases h;have n:=N2 zqK (by rw [e'];exact zg3);exact ⟨fun _=>n,zbM n⟩
 split at h
 ·rename_i e';cases h;exact ⟨(fun z=>absurd z (by decide)),D1 (ztB g.calm) (by rw [e'];exact znD)⟩
 split at h
 ·rename_i e';cases h;have n:=N2 (zqL g.calm) (by rw [e'];decide +kernel);exact ⟨fun _=>n,zbM n⟩
 ·cases h
def zuk(h:zre t=some T):bootBuiltins t=some (.type T):=by
 unfold zre at h;split at h
 ·rename_i e;cases h;rw [e];exact znE
 split at h
 ·rename_i e;cases h;rw [e];exact zlV
 split at h
 ·rename_i e;cases h;rw [e];exact zfp
 split at h
 ·rename_i e;cases h;rw [e];exact znC
 split at h
 ·rename_i e;cases h;rw [e];exact zg3
 ·cases h
def zqO(hs:za4 cl G k rc)(g:Gx cl G k X nm N E)(h:zqP G rc nm N x args=some (o,f)) :
  (o=true->PE X (.Call (.Name x p) args [] pos) (tN cl E f))/\PE X (.Call (.Name x p) args [] pos) (tE cl E f):=by
 unfold zqP at h;split at h
 ·rename_i hg;obtain ⟨g1,g2,g3⟩:=g.glob hg;split at h
  ·rename_i fi hfi;split at h
   ·rename_i hl;obtain ⟨fa,fd,ps,m1,m2,m3,m4⟩:=g.gok.fn x fi hfi
    cases h1:shL rc nm N args with
    | none=>rw [h1] at h;cases h
    | some fs =>
     rw [h1] at h;cases h;obtain ⟨a1,a2,a3⟩:=zem hs g h1;have hlen:fs.length=fi.ar:=a3.trans hl
     have main:PE X (.Call (.Name x p) args [] pos) (zgd (zgg cl fi.ar fi.own fi.run) [] E (tAs cl E fs)):=by
      cases args with
      | nil =>
       cases h1;refine PE.imp (zkZ m4 g.room g1 m1 m2 m3 .nil g.pass g2) ?_;rintro σ H Q ⟨B,w,ρ,S,rfl,R,q⟩;exact q [] w R (Fut.refl _) .nil
      | cons e es =>
       rw [ybh,yab] at a2;exact zmO m4 g.room g1 m1 m2 m3 .nil g.pass a1 g2 (zaO a2.1) (zbh a2.2)
     cases ho:fi.own with
     | false =>
      rw [ho] at main;exact ⟨(fun z=>by cases z),PE.imp main fun _ _ _ q=>ztF q hlen⟩
     | true =>
      rw [ho] at main;have n:PE X (.Call (.Name x p) args [] pos) (tN cl E (eFn fi.run fs)):=PE.imp main fun _ _ _ q=>ztE q hlen
      exact ⟨fun _=>n,zbM n⟩
   ·cases h
  ·split at h
   ·rename_i hb;split at h
    ·rename_i hx;subst hx;split at h
     ·rename_i a t p2;split at h
      ·rename_i ht;rw [yab,yab] at ht;replace ht:=ht.1
       cases hT:zre t with
       | none=>rw [hT] at h;cases h
       | some T =>
        rw [hT] at h
        cases h1:opE rc nm N a with
        | none=>rw [h1] at h;cases h
        | some fa =>
         rw [h1] at h;cases h;obtain ⟨t1,t2,t3⟩:=g.glob ht.1;obtain ⟨a1,a2⟩:=zb0 hs g h1;exact ⟨(fun z=>by cases z),zpo g1 (g.gok.blt _ hb) t1 (g.gok.blt _ ht.2) (zuk hT) t3 t2 (zak a2) a1⟩
      ·split at h
       ·rename_i ht;rw [yab] at ht
        cases h1:opE rc nm N a with
        | none=>rw [h1] at h;cases h
        | some fa =>
         rw [h1] at h;cases h;obtain ⟨t1,t2,t3⟩:=g.glob ht.1;obtain ⟨a1,a2⟩:=zb0 hs g h1;refine ⟨(fun z=>by cases z),?_⟩
         by_cases hv:t = "ValueError"
         ·subst hv
          have ht2:G.blt "ValueError" = true:=by simpa [zvC] using ht.2
          exact znW (vC:=.ty "ValueError") g1 (g.gok.blt _ hb) (zk0 t1 (g.gok.blt _ ht2) zjJ rfl t3 t2) (fun u r=>by rw [show u=Value.type "ValueError" from r];rfl) (fun c b hc=>g.gok.isx c _ b hc) (zak a2) a1
         ·have ht2:G.exc t=true:=by simpa [zvC,hv] using ht.2
          exact znW (vC:=.ref (cl t)) g1 (g.gok.blt _ hb) (zkX t1 (g.gok.exc t ht2).1 rfl t2) (fun u r=>by rw [show u=Value.ref (cl t) from r];unfold ztA;rw [if_neg hv]) (fun c b hc=>g.gok.isx c _ b hc) (zak a2) a1
       ·cases h
     ·cases h
    ·split at h
     ·cases h
     ·rename_i e es
      cases h2:zlX x with
      | none=>rw [h2] at h;cases h
      | some bi =>
       rw [h2] at h
       cases h1:opL rc nm N (e::es) with
       | none=>rw [h1] at h;cases h
       | some fs =>
        rw [h1] at h;cases h;obtain ⟨a1,a2,_⟩:=zob hs g h1;exact ztG g h2 hg hb a1 a2
   ·cases h
 ·cases h
def zln(hs:za4 cl G k rc)(g:Gx cl G k X nm N E)(h:zjw G rc nm N tg e=some fi):PI X tg e (tI cl E fi)/\okE e=true:=by
 have gen:∀{e:Expr},(shE rc nm N e).map zaH=some fi->PI X tg e (tI cl E fi)/\okE e=true:=fun {e} h=>by
  cases h1:shE rc nm N e with
  | none=>rw [h1] at h;cases h
  | some f =>
   rw [h1] at h;cases h;obtain ⟨a1,_,a3⟩:=zaZ hs g h1;exact ⟨zrK g.kk a1,a3⟩
 unfold zjw at h;split at h
 ·rename_i x p args pos;split at h
  ·rename_i hx;subst hx;split at h
   ·rename_i hb;rw [yab] at hb;obtain ⟨g1,_,_⟩:=g.glob hb.1;have m:=g.gok.blt _ hb.2;split at h
    ·rename_i a
     cases h1:shE rc nm N a with
     | none=>rw [h1] at h;cases h
     | some f =>
      rw [h1] at h;cases h;obtain ⟨a1,_,a3⟩:=zaZ hs g h1;exact ⟨zpe g1 m (zcx a1 ze6 (zaO (zak a3))) (zaO (zak a3)),rfl⟩
    ·rename_i a b
     cases h1:shE rc nm N a with
     | none=>rw [h1] at h;cases h
     | some f =>
      rw [h1] at h
      cases h2:shE rc nm N b with
      | none=>rw [h2] at h;cases h
      | some f2 =>
       rw [h2] at h;cases h;obtain ⟨a1,_,a3⟩:=zaZ hs g h1;obtain ⟨b1,_,b3⟩:=zaZ hs g h2;have s1:=zaO (es:=[b]) (env:=X.env) (zak a3);have s2:=zaO (es:=[]) (env:=X.env) (zak b3);exact ⟨zpd g1 m (zcx a1 (zcx b1 ze6 s2) s1) (by rw [s1,s2];rfl) s2,rfl⟩
    ·cases h
   ·cases h
  split at h
  ·rename_i hx;subst hx;split at h
   ·rename_i hb;rw [yab,yab] at hb;obtain ⟨g1,_,_⟩:=g.glob hb.1.1;have m:=g.gok.blt _ hb.1.2;split at h
    ·rename_i a b
     cases h1:shE rc nm N a with
     | none=>rw [h1] at h;cases h
     | some f =>
      rw [h1] at h
      cases h2:shE rc nm N b with
      | none=>rw [h2] at h;cases h
      | some f2 =>
       rw [h2] at h;cases h;obtain ⟨a1,_,a3⟩:=zaZ hs g h1;obtain ⟨b1,_,b3⟩:=zaZ hs g h2;have s1:=zaO (es:=[b]) (env:=X.env) (zak a3);have s2:=zaO (es:=[]) (env:=X.env) (zak b3)
       cases tg with
       | Tuple es kk tp=>exact ⟨zrF g1 m (zcx a1 (zcx b1 ze6 s2) s1) s1 (zbh (by simp [zak b3])),rfl⟩
       | _=>cases hb.2
    ·cases h
   ·cases h
  ·exact gen h
 ·exact gen h
def zuE(hs:za4 cl G k rc)(g:Gx cl G k X nm N E)(h:spG G rc nm N x args=some (o,f)):(o=true->PE X (.Call (.Name x p) args [] pos) (tN cl E f))/\PE X (.Call (.Name x p) args [] pos) (tE cl E f):=by
 unfold spG at h
 cases hc:spA args with
 | none=>rw [hc] at h;cases h
 | some c =>
 rw [hc] at h;obtain rfl:=zrD hc;obtain ⟨y,a,p2,pos2⟩:=c;dsimp only [Option.bind] at h ⊢;clear hc;split at h
 ·rename_i hb;simp only [yab,ya9] at hb;obtain ⟨⟨⟨⟨⟨rfl,rfl⟩,b1⟩,b2⟩,b3⟩,b4⟩:=hb;obtain ⟨g1,_,_⟩:=g.glob b1;obtain ⟨g2,_,_⟩:=g.glob b3
  cases h1:shE rc nm N a with
  | none=>rw [h1] at h;cases h
  | some fa =>
   rw [h1] at h;cases h;obtain ⟨a1,_,a3⟩:=zaZ hs g h1;have n:=zpj (p:=p) (p2:=p2) (pos:=pos) (pos2:=pos2) g.calm g.kk g1 (g.gok.blt _ b2) g2 (g.gok.blt _ b4) a1 (zaO (zak a3));exact ⟨fun _=>n,zbM n⟩
 split at h
 ·rename_i hb;simp only [yab,ya9] at hb;obtain ⟨⟨⟨⟨⟨rfl,rfl⟩,b1⟩,b2⟩,b3⟩,b4⟩:=hb;obtain ⟨g1,_,_⟩:=g.glob b1;obtain ⟨g2,_,_⟩:=g.glob b3
  cases h1:shE rc nm N a with
  | none=>rw [h1] at h;cases h
  | some fa =>
   rw [h1] at h;cases h;obtain ⟨a1,_,a3⟩:=zaZ hs g h1;exact ⟨(fun z=>by cases z),zkr g.calm (yc0 (Nat.add_le_add_left (by decide) _) g.units) g1 (g.gok.blt _ b2) g2 (g.gok.blt _ b4) a1 (zaO (zak a3))⟩
 ·cases h
noncomputable def znY:Expr->Bool | .Name _ _=>true | .Call (.Name _ _) (_::_) _ _=>true | .Attribute (.Name _ _) _ _=>true | _=>false
def zp4(G:Genv)(rc:Rec)(nm:Names)(N:List Str)(o:Expr)(m:Str)(ap cp:Pos)(args:List Expr)(kws:List Keyword):Option (Bool×Fe) :=
 if kws.isEmpty&&znY o&&(ap.endLine == cp.line)&&decide (args.length<30) then (G.ob.mt m).bind fun c=>if args.length+1=c.2.ar then (shE rc nm N o).bind fun fo=>(shL rc nm N args).bind fun fs=>some (c.2.own,zdG c.1 m c.2.run fo fs) else none else none
def mkG(G:Genv)(rc:Rec)(nm:Names)(N:List Str)(x:Str)(args:List Expr):Option (Bool×Fe) :=
 if zbm nm x&&!args.isEmpty then (G.ob.mks x).bind fun c=>(shL rc nm N args).bind fun fs =>
  if args.length+1=c.2.ar then some (false,eMk x [] c.2.run fs) else if args.length+c.1.length+1=c.2.ar then some (false,eMk x c.1 c.2.run fs) else none
 else none
noncomputable def zqn:Expr->Bool | .Name _ _=>true | _=>false
def zvw(G:Genv)(rc:Rec)(nm:Names)(N:List Str)(o:Expr)(f:Str):Option (Bool×Fe):=if zqn o&&G.ob.fk G.ob.cur f then (shE rc nm N o).map fun fo=>(false,zra G.ob.cur f fo) else none
noncomputable def ztH:Expr->Option (Expr×Str×Pos) | .Attribute o m p=>some (o,m,p) | _=>none
def zf4(h:ztH e=some x):e=.Attribute x.1 x.2.1 x.2.2:=by cases e<;>first | (cases h;done) | (cases h;rfl)
noncomputable def nmF:Expr->Option (Str×Pos) | .Name x p=>some (x,p) | _=>none
def zc4(h:nmF e=some x):e=.Name x.1 x.2:=by cases e<;>first | (cases h;done) | (cases h;rfl)
def Gx.same(g:Gx cl G k X nm N E):Same' cl X:=⟨g.kk,g.pp,g.ww⟩
def zab{α β:Type}{o:Option α}{f:α->Option β}{b:β}(h:o.bind f=some b):∃a,o=some a/\f a=some b:=by
 cases o with
 | none=>cases h
 | some a=>exact ⟨a,rfl,h⟩
def ztm(hs:za4 cl G k rc)(g:Gx cl G k X nm N E)(h:zvw G rc nm N o f=some (w,fe)):w=false/\PE X (.Attribute o f pos) (tE cl E fe):=by
 unfold zvw at h;split at h
 ·rename_i hc;rw [yab] at hc
  cases h1:shE rc nm N o with
  | none=>rw [h1] at h;cases h
  | some fo =>
   rw [h1] at h;cases h;refine ⟨rfl,zrS (g.gok.fk _ _ hc.2) g.kk (zaZ hs g h1).1 ?_⟩
   cases o<;>first | rfl | cases hc.1
 ·cases h
def zyy(hp:args.all zbi=true)(hl:args.length<30):methodCallForm (args.length+0) (backTo pos (starEach args env)) (backToKw pos (keywordEach [] env))=true:=by
 have h:=zbh (pos:=pos) (env:=env) hp;unfold methodCallForm
 have h1:(backTo pos (starEach args env)).all (!·.1)=true:=by
  rw [List.all_eq_not_any_not];simpa using h
 rw [h1];show (true&&true&&decide (args.length+0+0<30))=true;rw [yaQ (by omega)];rfl
def zk4(hb:attributeBase o m env (eval o env)=eval o env)(hf:methodCallForm (args.length+0) (backTo pos (starEach args env)) (backToKw pos (keywordEach [] env))=true)(hp:(ap.endLine == pos.line)=true) :
  eval (.Call (.Attribute o m ap) args [] pos) env=(do
   let ov ← eval o env
   standAt ap.atName
   let (f,first) ← holding [ov] (getMethod ov m (do return (← importBound o env).getD true))
   callWith pos f first (backTo pos (starEach args env)) (backToKw pos (keywordEach [] env))):=by
 show (do
  let ov ← attributeBase o m env (eval o env)
  standAt ap.atName
  methodCall o m ap pos env ov (args.length+0) (backTo pos (starEach args env)) (backToKw pos (keywordEach [] env)))=_
 rw [hb]
 have e:∀ov,methodCall o m ap pos env ov (args.length+0) (backTo pos (starEach args env)) (backToKw pos (keywordEach [] env))=(do
   let (f,first) ← holding [ov] (getMethod ov m (do return (← importBound o env).getD true))
   callWith pos f first (backTo pos (starEach args env)) (backToKw pos (keywordEach [] env))):=fun ov=>by
  unfold methodCall calleeOf methodCallPos;rw [hf,hp];rfl
 simp only [e]
def zp3(hs:za4 cl G k rc)(g:Gx cl G k X nm N E)(h:zp4 G rc nm N o m ap pos args kws=some (w,fe)):(w=true->PE X (.Call (.Attribute o m ap) args kws pos) (tN cl E fe))/\PE X (.Call (.Attribute o m ap) args kws pos) (tE cl E fe):=by
 unfold zp4 at h;split at h
 ·rename_i hc;simp only [yab,ya9] at hc;obtain ⟨⟨⟨z1,z2⟩,z3⟩,z4⟩:=hc;obtain rfl:=ycJ.mp z1;obtain ⟨⟨c,fi⟩,h1,h⟩:=zab h;dsimp only at h;split at h
  ·rename_i hl;obtain ⟨fo,h2,h⟩:=zab h;obtain ⟨fs,h3,h⟩:=zab h;cases h;obtain ⟨f,fd,ps,c1,c2,c3,c4⟩:=g.gok.mt m c fi h1;obtain ⟨a1,a2,a3⟩:=zem hs g h3
   have hlen:fs.length+1=fi.ar:=by rw [a3];exact hl
   have hb:attributeBase o m X.env (eval o X.env)=eval o X.env:=by
    unfold znY at z2
    split at z2<;>first | rfl | cases z2
   have ht:=zk4 (ap:=ap) hb (zyy (pos:=pos) a2 z4) z3
   have main:PE X (.Call (.Attribute o m ap) args [] pos) (zgc (cl c) m (zgg cl fi.ar fi.own fi.run) [] E (tE cl E fo) (tAs cl E fs)):=by
    cases args with
    | nil =>
     cases h3;refine PE.imp (zkW (zaZ hs g h2).1 c1 c2 c4 g.room c3 .nil g.pass ht) ?_;rintro σ H Q ⟨B,w,ρ,S,rfl,R,q⟩;refine ⟨B,w,ρ,S,rfl,R,?_⟩
     cases hfo:fo ρ S with
     | bad=>rwa [hfo] at q
     | exc c S1=>rwa [hfo] at q
     | ok d S1 =>
      rw [hfo] at q;intro v w1 R1 F1 sh;obtain ⟨a,dx,fs,e1,e2,e3,B',w',ρ',S',e4,R',q⟩:=q v w1 R1 F1 sh;refine ⟨a,dx,fs,e1,e2,e3,?_⟩;have:=q [] w' R' (Fut.refl _) .nil;rwa [e4] at this
    | cons e es =>
     rw [ybh,yab] at a2;exact zmH (zaZ hs g h2).1 c1 c2 c4 g.room c3 .nil g.pass a1 (zaO a2.1) (zbh a2.2) ht
   cases ho:fi.own with
   | false =>
    rw [ho] at main;exact ⟨(fun z=>by cases z),PE.imp main fun _ _ _ q=>zsZ q hlen⟩
   | true =>
    rw [ho] at main;have n:=PE.imp main fun _ _ _ q=>zsY q hlen
    exact ⟨fun _=>n,zbM n⟩
  ·cases h
 ·cases h
def zu9(hs:za4 cl G k rc)(g:Gx cl G k X nm N E)(h:mkG G rc nm N x args=some (w,fe)):w=false/\PE X (.Call (.Name x p) args [] pos) (tE cl E fe):=by
 unfold mkG at h;split at h
 ·rename_i hc;rw [yab] at hc;obtain ⟨⟨dds,fi⟩,h1,h⟩:=zab h;obtain ⟨fs,h2,h⟩:=zab h;dsimp only at h;obtain ⟨f,fd,ps,dvs,ds,k',hk,mC,M,B0,BD,vd,sd,F⟩:=g.gok.mks x dds fi h1;obtain ⟨a1,a2,a3⟩:=zem hs g h2;obtain ⟨g1,g2,g3⟩:=g.glob hc.1
  cases args with
  | nil=>cases hc.2
  | cons e es =>
   rw [ybh,yab] at a2;have hr:Room (k'+1) X.A:=g.room.mono hk;split at h
   ·rename_i hl;cases h;exact ⟨rfl,PE.imp (zik M F hr g1 mC B0 .nil g.pass a1 g2 (zaO a2.1) (zbh a2.2)) fun _ _ _ q=>zwu (dds:=[]) (fun _=>.nil) q (by rw [a3];exact hl)⟩
   ·split at h
    ·rename_i hl;cases h;exact ⟨rfl,PE.imp (zik M F hr g1 mC BD vd g.pass a1 g2 (zaO a2.1) (zbh a2.2)) fun _ _ _ q=>zwu sd q (by rw [a3];exact hl)⟩
    ·cases h
 ·cases h
end
section
variable{cl:Cf}{w:Wd}{n:Nat}{B:Base}{σ:St}{ρ:Env}{S:Sto}
def Rel.newo{a dx p:Addr}{ob:Ob}{fs:List (Str×V)}{f:Str}{o0:HO}{d0:D}(R:Rel cl B σ w ρ S)(hn:S[n]?=some ob)(hmu:w.mu[n]?=some a)(how:w.ow a=some (.obj n))(hH:w.H a=some (.ins (cl ob.cls) dx fs))(hF:zcw cl w n fs ob.fs)(hp:w.H p=none)(ht:Top cl w o0 d0) :
  Rel cl B σ ((w.addF p o0 n f).mut a (.ins (cl ob.cls) dx (zda f (.ref p) fs))) ρ (S.set n (ob.put f true (.tup [d0])))/\Fut w ((w.addF p o0 n f).mut a (.ins (cl ob.cls) dx (zda f (.ref p) fs))):=by
 have hap:a≠p:=zam hH hp
 have kp:∀b u,w.H b=some u->w.ow b≠some (.obj n)->((w.addF p o0 n f).mut a (.ins (cl ob.cls) dx (zda f (.ref p) fs))).H b=some u/\((w.addF p o0 n f).mut a (.ins (cl ob.cls) dx (zda f (.ref p) fs))).ow b=w.ow b:=fun b u hb hne=>by
  have hbp:b≠p:=zam hb hp;refine ⟨?_,?_⟩
  ·show upd (upd w.H p _) a _ b=_;rw [zac (fun z=>hne (by rw [z];exact how)),zac hbp];exact hb
  ·show (if b=p then _ else w.ow b)=_;rw [if_neg hbp]
 have ff:Fut w ((w.addF p o0 n f).mut a (.ins (cl ob.cls) dx (zda f (.ref p) fs))):=⟨fun b u hb hk=>by
  have:=kp b u hb (by rw [hk];exact fun z=>by cases z)
  exact ⟨this.1,this.2.trans hk⟩,fun _ _ h=>h⟩
 have hB:B.Fr a=none:=(R.wd.own a _ how).elim (fun z=>by cases z) fun z=>z
 have hBp:B.Fr p=none:=by
  cases z:B.Fr p with
  | none=>rfl
  | some u=>have:=(R.wd.fr p u z).1;rw [hp] at this;cases this
 have Hp:((w.addF p o0 n f).mut a (.ins (cl ob.cls) dx (zda f (.ref p) fs))).H p=some o0:=by
  show upd (upd w.H p _) a _ p=_;rw [zac hap.symm,zag]
 have owp:((w.addF p o0 n f).mut a (.ins (cl ob.cls) dx (zda f (.ref p) fs))).ow p=some (.fld n f):=if_pos rfl
 have owa:((w.addF p o0 n f).mut a (.ins (cl ob.cls) dx (zda f (.ref p) fs))).ow a=some (.obj n):=by
  show (if a=p then _ else w.ow a)=_;rw [if_neg hap];exact how
 refine ⟨⟨⟨fun b u h=>?_,fun b r h=>?_,by rw [yaK];exact R.wd.len,fun m ob' h=>?_,R.wd.tab.keep ff fun P ps h1 h2=>⟨(kp P _ h1 (by rw [h2];simp)).1,(kp P _ h1 (by rw [h2];simp)).2.trans h2⟩⟩,R.len,fun i o e h=>?_⟩,ff⟩
 ·have:=kp b u (R.wd.fr b u h).1 fun z=>by
   rcases R.wd.own b _ z with y | y
   ·cases y
   ·rw [h] at y;cases y
  exact ⟨this.1,this.2.trans (R.wd.fr b u h).2⟩
 ·have h':(if b=p then some (Root.fld n f) else w.ow b)=some r:=h;split at h'
  ·rename_i z;rw [z];exact .inr hBp
  ·exact R.wd.own b r h'
 ·rcases zhy h with ⟨rfl,rfl⟩ | ⟨hne,h⟩
  ·refine ⟨a,hmu,owa,dx,_,zag,?_⟩;refine zcw.put (hF.keepF ff fun b u g hb hg=>?_) (.inr ⟨rfl,d0,rfl,p,o0,rfl,owp,Hp,ht.up ff⟩);have:=kp b u hb (by rw [hg];exact fun z=>by cases z);exact ⟨this.1,this.2.trans hg⟩
  ·obtain ⟨b,e,x⟩:=R.wd.obj m ob' h;exact ⟨b,e,x.keep ff fun b u hb hm=>kp b u hb fun z=>by rw [z] at hm;exact hne hm.symm⟩
 ·obtain ⟨v,e1,x⟩:=R.slots i o e h
  exact ⟨v,e1,x.keep ff fun b u hb hr=>by
   have:=kp b u hb (by rw [hr];exact fun z=>by cases z)
   exact ⟨this.1,this.2.trans hr⟩⟩
def Rel.seto{a dx c:Addr}{ob:Ob}{fs:List (Str×V)}{f:Str}{o0:HO}{d0:D}(R:Rel cl B σ w ρ S)(hn:S[n]?=some ob)(hmu:w.mu[n]?=some a)(how:w.ow a=some (.obj n))(hH:w.H a=some (.ins (cl ob.cls) dx fs))(hF:zcw cl w n fs ob.fs)
  (hl:fs.lookup f=some (.ref c)) (hc:w.ow c=some (.fld n f)) (ht:Top cl w o0 d0) (nd:zd3 ob=true) :
  Rel cl B σ (w.mut c o0) ρ (S.set n (ob.put f true (.tup [d0])))/\Fut w (w.mut c o0):=by
 have ff:=zcG (w:=w) (p:=c) (o:=o0) (by rw [hc];exact yaC _)
 have kp:∀b o,w.H b=some o->w.ow b≠some (.fld n f)->(w.mut c o0).H b=some o/\(w.mut c o0).ow b=w.ow b:=fun b o hb hne=>⟨by
  show upd w.H c _ b=_
  rw [zac (fun z=>hne (by rw [z];exact hc))];exact hb,rfl⟩
 have hB:B.Fr c=none:=(R.wd.own c _ hc).elim (fun z=>by cases z) fun z=>z
 refine ⟨⟨⟨fun b o h=>?_,R.wd.own,by rw [yaK];exact R.wd.len,fun m' ob' h=>?_,R.wd.tab.keep ff fun P ps h1 h2=>⟨(kp P _ h1 (by rw [h2];simp)).1,(kp P _ h1 (by rw [h2];simp)).2.trans h2⟩⟩,R.len,fun i o e h=>?_⟩,ff⟩
 ·refine ⟨?_,(R.wd.fr b o h).2⟩;show upd w.H c _ b=_;rw [zac (fun z=>by rw [z,hB] at h;cases h)];exact (R.wd.fr b o h).1
 ·rcases zhy h with ⟨rfl,rfl⟩ | ⟨hne,h⟩
  ·refine ⟨a,hmu,how,dx,fs,?_,?_⟩
   ·exact (kp a _ hH (by rw [how];exact fun z=>by cases z)).1
   ·refine zcw.dic (a:=c) ff (fun b o g hg hb hr=>?_) (.inr ⟨rfl,d0,rfl,c,o0,rfl,hc,zag,ht.up ff⟩) hF (yao nd) hl
    ·exact ⟨(kp b o hb (by rw [hr];exact fun z=>hg (by cases z;rfl))).1,hr⟩
  ·obtain ⟨b,e,x⟩:=R.wd.obj m' ob' h;exact ⟨b,e,x.keep ff fun b o hb hm=>kp b o hb fun z=>by rw [z] at hm;exact hne hm.symm⟩
 ·obtain ⟨v',e1,x⟩:=R.slots i o e h;exact ⟨v',e1,x.keep ff fun b o hb hr=>⟨(kp b o hb (by rw [hr];exact fun z=>by cases z)).1,hr⟩⟩
end
noncomputable def zq6(cn f:Str)(d:D)(S:Sto):Option (Nat×Ob×D):=match d with
 | .ref n=>(match S[n]? with
  | some ob=>if ob.cls=cn then (match ob.fs.lookup f with | some (true,.tup [d])=>some (n,ob,d) | _=>none) else none
  | none=>none)
 | _=>none
section
variable{cl:Cf}{cn:Str}{X:Cx}{E:St->XK}{e:Expr}{fe:Fe}{f:Str}{pos:Pos}{B:Base}{σ:St}{w:Wd}{ρ:Env}{S:Sto}
def ztI{v:V}{d:D}{n:Nat}{ob:Ob}{d0:D}(hk:zf8 cl cn f)(R:Rel cl B σ w ρ S)(hv:Shd cl w v d)(hd:zq6 cn f d S=some (n,ob,d0)) :
  ∃a dx fs c o,v=.ref a/\S[n]?=some ob/\w.mu[n]?=some a/\w.ow a=some (.obj n)/\w.H a=some (.ins (cl ob.cls) dx fs)/\zcw cl w n fs ob.fs/\Cls cl.K (cl ob.cls)/\zcd cl.K (cl ob.cls) f/\fs.lookup f=some (.ref c)/\w.ow c=some (.fld n f)/\w.H c=some o/\Top cl w o d0:=by
 unfold zq6 at hd
 cases d with
 | ref n' =>
  dsimp only at hd
  cases hS:S[n']? with
  | none=>rw [hS] at hd;cases hd
  | some ob' =>
   rw [hS] at hd;dsimp only at hd;split at hd
   ·rename_i hfk;split at hd
    ·rename_i ds' hl;cases hd;obtain ⟨a,dx,fs,rfl,hmu,how,hH,hF⟩:=zfq R hv hS;obtain ⟨v,lv,fr⟩:=hF.look hl
     rcases fr with ⟨z,_⟩ | ⟨_,d1,z,c,o,rfl,c1,c2,c3⟩
     ·cases z
     ·cases z;exact ⟨a,dx,fs,c,o,rfl,hS,hmu,how,hH,hF,hfk ▸ hk.1,hfk ▸ hk.2,lv,c1,c2,c3⟩
    ·cases hd
   ·cases hd
 | _=>cases hd
end
noncomputable abbrev Fq:=Env->Sto->Option D
noncomputable def tQ(cl:Cf)(g:Fq):TE:=fun σ H Q=>∃B w ρ S d,w.H=H/\Rel cl B σ w ρ S/\g ρ S=some d/\∀v,Shd cl w v d->Q v H
def zhC:List Fq->Env->Sto->Option (List D)
 | [],_,_=>some []
 | g::gs,ρ,S=>(g ρ S).bind fun d=>(zhC gs ρ S).map (d::·)
noncomputable def zbw(i:Nat):Fq:=fun ρ _=>match ρ[i]? with | some (some (false,d))=>some d | _=>none
section
variable{X:Cx}{cl:Cf}{e o:Expr}{es:List Expr}{g:Fq}{gs:List Fq}{pos:Pos}{f cn:Str}
def zr9{i:Nat}{x:Str}(hN:X.N[i]?=some x)(hv:Vis X.env.scope x)(hd:(x == ("__debug__":Str))=false)(hcd:(x == ("__classdict__":Str))=false):PE X (.Name x pos) (tQ cl (zbw i)):=by
 refine PE.imp (zaD hN hv hd hcd) ?_;rintro σ H Q ⟨B,w,ρ,S,d,rfl,R,hg,q⟩;unfold zbw at hg;split at hg
 ·rename_i d' hi;cases hg;obtain ⟨v,ev,rv⟩:=R.slots i false _ hi;exact ⟨v,ev,q v rv⟩
 ·cases hg
noncomputable def tQs(cl:Cf)(gs:List Fq):TA:=fun σ H Q=>∃B w ρ S ds,w.H=H/\Rel cl B σ w ρ S/\zhC gs ρ S=some ds/\∀vs,Shds cl w vs ds->Q vs H
def zr8:PA X [] (tQs cl []):=PA.imp zbx fun σ H Q ⟨B,w,ρ,S,ds,e,R,h,q⟩=>by cases h;exact q [] .nil
def zpv(he:PE X e (tQ cl g))(ht:PA X es (tQs cl gs))(hs:starEach (e::es) X.env=(false,eval e X.env)::starEach es X.env):PA X (e::es) (tQs cl (g::gs)):=by
 refine PA.imp (zaF he ht hs) ?_;rintro σ H Q ⟨B,w,ρ,S,ds,rfl,R,hg,q⟩;unfold zhC at hg
 cases h1:g ρ S with
 | none=>rw [h1] at hg;cases hg
 | some d1 =>
  rw [h1] at hg
  cases h2:zhC gs ρ S with
  | none=>rw [h2] at hg;cases hg
  | some ds1 =>
   rw [h2] at hg;cases hg;exact ⟨B,w,ρ,S,d1,rfl,R,h1,fun v hv=>⟨B,w,ρ,S,ds1,rfl,R,h2,fun vs hvs=>q _ (.cons hv hvs)⟩⟩
end
noncomputable def zin(cn f:Str)(ρ:Env)(S:Sto)(i:Nat):Option (Nat×Ob×D):=match ρ[i]? with | some (some (false,d))=>zq6 cn f d S | _=>none
def zeT(cn f:Str)(i:Nat):Fs:=fun ρ S=>match ρ[i]? with
 | some (some (false,.ref n))=>(match S[n]? with
   | some ob=>if decide (ob.cls=cn)&&decide (ob.fs.length<1000) then .nx ρ (S.set n (ob.put f true (.tup [.lst []]))) else .bad
   | none=>.bad)
 | _=>.bad
def zpr(cn f:Str)(i:Nat)(g:Fq):Fs:=fun ρ S=>match zin cn f ρ S i,g ρ S with
 | some (n,ob,.lst l),some d=>if zaE l.length&&zd3 ob then .nx ρ (S.set n (ob.put f true (.tup [.lst (l++[d])]))) else .bad
 | _,_=>.bad
def zqE(cn f:Str)(i:Nat):Fe:=fun ρ S=>match zin cn f ρ S i with
 | some (n,ob,.lst l)=>(match l[l.length-1]? with | some d=>if zd3 ob then .ok d (S.set n (ob.put f true (.tup [.lst l.dropLast]))) else .bad | none=>.bad)
 | _=>.bad
def zfW(cn f:Str)(i:Nat):Fe:=fun ρ S=>match zin cn f ρ S i with
 | some (_,_,.lst l)=>.ok (.int l.length) S
 | _=>.bad
section
variable{X:Cx}{cl:Cf}{E:St->XK}{own:Bool}{e:Expr}{es:List Expr}{g:Fq}{gs:List Fq}{pos pos' apos ap cp p p2:Pos}{f cn:Str}{i:Nat}{x:Str}
def zdO{B:Base}{σ:St}{w:Wd}{ρ:Env}{S:Sto}{n:Nat}{ob:Ob}{d0:D}(hk:zf8 cl cn f)(R:Rel cl B σ w ρ S)(h:zin cn f ρ S i=some (n,ob,d0)) :
  ∃a dx fs c o,σ[i]?=some (some (.ref a))/\S[n]?=some ob/\w.mu[n]?=some a/\w.ow a=some (.obj n)/\w.H a=some (.ins (cl ob.cls) dx fs)/\zcw cl w n fs ob.fs/\Cls cl.K (cl ob.cls)/\zcd cl.K (cl ob.cls) f/\fs.lookup f=some (.ref c)/\w.ow c=some (.fld n f)/\w.H c=some o/\Top cl w o d0:=by
 unfold zin at h;split at h
 ·rename_i d hi;obtain ⟨v,ev,rv⟩:=R.slots i false _ hi;obtain ⟨a,dx,fs,c,o,rfl,h1⟩:=ztI hk R rv h;exact ⟨a,dx,fs,c,o,ev,h1⟩
 ·cases h
def zo3(hN:X.N[i]?=some x)(hv:Vis X.env.scope x)(hd:(x == ("__debug__":Str))=false)(hcd:(x == ("__classdict__":Str))=false)(sm:Same' cl X)(hk:zf8 cl cn f)(hs:swapsWith (.List [] p) (some (.Attribute (.Name x p2) f apos)) pos.line X.env=pure false):PS X (.Assign [.Attribute (.Name x p2) f apos] (.List [] p) pos) (tS cl E own (zeT cn f i)):=by
 refine PS.imp (zkO (zaD hN hv hd hcd) (zn8 zbx) hs) ?_;rintro De σ H ⟨B,w,ρ,S,rfl,R,q⟩;refine ⟨by decide,fun pd hpd=>?_⟩;unfold zeT at q;split at q
 ·rename_i n hi;obtain ⟨v,ev,rv⟩:=R.slots i false _ hi
  cases hS:S[n]? with
  | none=>rw [hS] at q;exact q.elim
  | some ob =>
   rw [hS] at q;dsimp only at q;split at q
   ·rename_i hc0;rw [yab] at hc0;obtain ⟨a,dx,fs,rfl,hmu,how,hH,hF⟩:=zfq R rv hS;rw [sm.kk];refine ⟨_,ev,a,_,dx,fs,rfl,?_,yao hc0.1 ▸ hk.1,yao hc0.1 ▸ hk.2,by rw [hF.len];exact yao hc0.2,?_⟩
    ·rw [zac (zam hH hpd)];exact hH
    ·obtain ⟨R3,F3⟩:=R.newo (f:=f) hS hmu how hH hF hpd (.lst .nil);exact q σ _ R3 F3
   ·exact q.elim
 ·exact q.elim
def zo8(hN:X.N[i]?=some x)(hv:Vis X.env.scope x)(hd:(x == ("__debug__":Str))=false)(hcd:(x == ("__classdict__":Str))=false)(sm:Same' cl X)(hk:zf8 cl cn f)(hb:attributeBase (.Name x p) f X.env (eval (.Name x p) X.env)=eval (.Name x p) X.env)(he:PE X e (tQ cl g))(hbase:attributeBase (.Attribute (.Name x p) f apos) "append" X.env (eval (.Attribute (.Name x p) f apos) X.env)=eval (.Attribute (.Name x p) f apos) X.env)
  (hpl:zbi e=true) (hln:(ap.endLine == cp.line)=true):PS X (.Expr (.Call (.Attribute (.Attribute (.Name x p) f apos) "append" ap) [e] [] cp) pos) (tS cl E own (zpr cn f i g)):=by
 refine PS.imp (zdb (zjm (es:=[]) ya7 ybO ybP zdx (zbV (zaD hN hv hd hcd) hb) (zaF he zbx (zaO hpl)) (hbase:=hbase) (hfew:=zgO (by simp [hpl]) (by simp)) (hline:=hln) (hs:=zaO hpl) (hplain:=rfl))) ?_;rintro De σ H ⟨B,w,ρ,S,rfl,R,q⟩;unfold zpr at q;split at q
 ·rename_i n ob l d hl hg;obtain ⟨a,dx,fs,c,o,ev,hS,hmu,how,hH,hF,c1,c2,lv,oc,hc,t⟩:=zdO hk R hl;split at q
  ·rename_i hz;rw [yab] at hz
   cases t with
   | lst t =>
    rw [sm.kk];refine ⟨_,ev,a,_,dx,fs,_,rfl,hH,c1,c2,lv,.inl ⟨rfl,_,SqL.of hc⟩,B,w,ρ,S,d,rfl,R,hg,fun v h'=>?_⟩;refine ⟨c,_,v,rfl,rfl,hc,by rw [t.length];exact zcS hz.1,?_⟩;obtain ⟨R3,F3⟩:=R.seto hS hmu how hH hF lv oc (.lst (t.append (.cons h' .nil))) hz.2;exact q σ _ R3 F3
  ·exact q.elim
 ·exact q.elim
def zpl(hN:X.N[i]?=some x)(hv:Vis X.env.scope x)(hd:(x == ("__debug__":Str))=false)(hcd:(x == ("__classdict__":Str))=false)(sm:Same' cl X)(hk:zf8 cl cn f)(hb:attributeBase (.Name x p) f X.env (eval (.Name x p) X.env)=eval (.Name x p) X.env)(hbase:attributeBase (.Attribute (.Name x p) f apos) "pop" X.env (eval (.Attribute (.Name x p) f apos) X.env)=eval (.Attribute (.Name x p) f apos) X.env)
  (hln:(ap.endLine == cp.line)=true):PE X (.Call (.Attribute (.Attribute (.Name x p) f apos) "pop" ap) [] [] cp) (tE cl E (zqE cn f i)):=by
 refine PE.imp (zst ya7 PySem.F.slot_list_pop PySem.F.type_list_pop zsV (zbV (zaD hN hv hd hcd) hb) (hbase:=hbase) (hline:=hln)) ?_;rintro σ H Q ⟨B,w,ρ,S,rfl,R,q⟩;unfold zqE at q
 cases hl:zin cn f ρ S i with
 | none=>rw [hl] at q;exact q.elim
 | some u =>
  obtain ⟨n,ob,d0⟩:=u;rw [hl] at q
  cases d0 with
  | lst l =>
   dsimp only at q;obtain ⟨a,dx,fs,c,o,ev,hS,hmu,how,hH,hF,c1,c2,lv,oc,hc,t⟩:=zdO hk R hl
   cases hy:l[l.length-1]? with
   | none=>rw [hy] at q;exact q.elim
   | some d =>
    rw [hy] at q;dsimp only at q
    cases hnd:zd3 ob with
    | false=>rw [hnd,if_neg (by decide)] at q;exact q.elim
    | true =>
     rw [hnd,if_pos rfl] at q
     cases t with
     | @lst xs _ t =>
      obtain ⟨v,ev',rv⟩:=t.at hy;rw [sm.kk]
      have hdl:Shds cl w xs.dropLast l.dropLast:=by
       rw [List.dropLast_eq_take,List.dropLast_eq_take,t.length];exact t.take _
      refine ⟨_,ev,a,_,dx,fs,_,rfl,hH,c1,c2,lv,.inl ⟨rfl,_,SqL.of hc⟩,c,xs,v,rfl,rfl,hc,by rw [t.length];exact ev',?_⟩;obtain ⟨R3,F3⟩:=R.seto hS hmu how hH hF lv oc (.lst hdl) hnd;exact q v _ R3 F3 (rv.up F3)
  | _=>exact q.elim
def zpn{q1:Pos}{y:Str}(hN:X.N[i]?=some x)(hv:Vis X.env.scope x)(hd:(x == ("__debug__":Str))=false)(hcd:(x == ("__classdict__":Str))=false)(sm:Same' cl X)(hk:zf8 cl cn f)(hb:attributeBase (.Name x p) f X.env (eval (.Name x p) X.env)=eval (.Name x p) X.env)(hg:Gl X "len")(hm:X.mg "len" = none) :
  PE X (.Call (.Name "len" q1) [.Attribute (.Name x p) f apos] [] cp) (tE cl E (zfW cn f i)):=by
 refine PE.imp (zcg zbY hg hm PySem.boot_len (zaF (zbV (zaD hN hv hd hcd) hb) zbx)) ?_;rintro σ H Q ⟨B,w,ρ,S,rfl,R,q⟩;unfold zfW at q
 cases hl:zin cn f ρ S i with
 | none=>rw [hl] at q;exact q.elim
 | some u =>
  obtain ⟨n,ob,d0⟩:=u;rw [hl] at q
  cases d0 with
  | lst l =>
   dsimp only at q;obtain ⟨a,dx,fs,c,o,ev,hS,hmu,how,hH,hF,c1,c2,lv,oc,hc,t⟩:=zdO hk R hl
   cases t with
   | lst t =>
    rw [sm.kk];refine ⟨_,ev,a,_,dx,fs,_,rfl,hH,c1,c2,lv,c,_,rfl,.inl (SqL.of hc),?_⟩;rw [t.length];exact q _ w R (Fut.refl _) (.int _)
  | _=>exact q.elim
end
noncomputable def eQ(g:Fq):Fe:=fun ρ S=>match g ρ S with | some d=>.ok d S | none=>.bad
def dicI(cn f:Str)(ρ:Env)(S:Sto)(i:Nat):Option (Nat×Ob×List (D×D)):=match zin cn f ρ S i with
 | some (n,ob,.dic ds)=>if zau ds then some (n,ob,ds) else none
 | _=>none
def zmz(cn f:Str)(i:Nat)(g:Fq):Fq:=fun ρ S=>match g ρ S,dicI cn f ρ S i with | some (.str k),some (_,_,ds)=>some (.bl (zaB k ds).isSome) | _,_=>none
def zfB(cn f:Str)(i:Nat)(g:Fq):Fq:=fun ρ S=>match g ρ S,dicI cn f ρ S i with | some (.str k),some (_,_,ds)=>some (.bl (!(zaB k ds).isSome)) | _,_=>none
def zpy(cn f:Str)(i:Nat)(g:Fq):Fq:=fun ρ S=>match g ρ S,dicI cn f ρ S i with | some (.str k),some (_,_,ds)=>zaB k ds | _,_=>none
def zgr(cn f:Str)(i:Nat)(g:Fq):Fq:=fun ρ S=>match g ρ S,dicI cn f ρ S i with | some (.str k),some (_,_,ds)=>some ((zaB k ds).getD .non) | _,_=>none
def zkw(cn f:Str)(i:Nat):Fs:=fun ρ S=>match ρ[i]? with
 | some (some (false,.ref n))=>(match S[n]? with
   | some ob=>if decide (ob.cls=cn)&&decide (ob.fs.length<1000) then .nx ρ (S.set n (ob.put f true (.tup [.dic []]))) else .bad
   | none=>.bad)
 | _=>.bad
def zi9(cn f:Str)(i:Nat)(gk ge:Fq):Fs:=fun ρ S=>match gk ρ S,ge ρ S,dicI cn f ρ S i with
 | some (.str k),some d,some (n,ob,ds)=>if zaE ds.length&&zd3 ob then .nx ρ (S.set n (ob.put f true (.tup [.dic (putS k d ds)]))) else .bad
 | _,_,_=>.bad
def zja(cn f:Str)(i:Nat)(gk:Fq):Fs:=fun ρ S=>match gk ρ S,dicI cn f ρ S i with
 | some (.str k),some (n,ob,ds)=>if zd3 ob then (if (zaB k ds).isSome then .nx ρ (S.set n (ob.put f true (.tup [.dic (dropS k ds)]))) else .nx ρ S) else .bad
 | _,_=>.bad
section
variable{X:Cx}{cl:Cf}{E:St->XK}{own:Bool}{e o:Expr}{g gk ge:Fq}{pos apos ap cp p p2 p3:Pos}{f cn:Str}{i:Nat}{x:Str}{σ:St}{H:Hp}{Q:VK}
def zoR(q:tE cl E (eQ g) σ H Q):tQ cl g σ H Q:=by
 obtain ⟨B,w,ρ,S,rfl,R,q⟩:=q;unfold eQ at q
 cases hg:g ρ S with
 | none=>rw [hg] at q;exact q.elim
 | some d=>rw [hg] at q;exact ⟨B,w,ρ,S,d,rfl,R,hg,fun v hv=>q v w R (Fut.refl _) hv⟩
def zuK(h:PE X e (tQ cl g)):PE X e (tE cl E (eQ g)):=PE.imp h fun _ _ _ q=>zoR q
def zfX{B:Base}{w:Wd}{ρ:Env}{S:Sto}{n:Nat}{ob:Ob}{ds:List (D×D)}(hk:zf8 cl cn f)(R:Rel cl B σ w ρ S)(h:dicI cn f ρ S i=some (n,ob,ds)) :
  ∃a dx fs c kvs,σ[i]?=some (some (.ref a))/\S[n]?=some ob/\w.mu[n]?=some a/\w.ow a=some (.obj n)/\w.H a=some (.ins (cl ob.cls) dx fs)/\zcw cl w n fs ob.fs/\Cls cl.K (cl ob.cls)/\zcd cl.K (cl ob.cls) f/\fs.lookup f=some (.ref c)/\w.ow c=some (.fld n f)/\w.H c=some (.dK kvs)/\ShdK cl w kvs ds/\zau ds=true:=by
 unfold dicI at h;split at h
 ·rename_i n' ob' ds' hl;split at h
  ·rename_i ho;cases h;obtain ⟨a,dx,fs,c,o,ev,h1,h2,h3,h4,h5,h6,h7,h8,h9,h10,t⟩:=zdO hk R hl;obtain ⟨kvs,rfl,t2⟩:=zoH t ho;exact ⟨a,dx,fs,c,kvs,ev,h1,h2,h3,h4,h5,h6,h7,h8,h9,h10,t2,ho⟩
  ·cases h
 ·cases h
def ze3{w:Wd}{v:V}{k:Str}(h:Shd cl w v (.str k)):v=.str k:=by cases h;rfl
def zmy{B:Base}{w:Wd}{ρ:Env}{S:Sto}{k:Str}{n:Nat}{ob:Ob}{ds:List (D×D)}{P:Option V->Prop}(hk:zf8 cl cn f)(kk:X.K=cl.K)(R:Rel cl B σ w ρ S)(h:dicI cn f ρ S i=some (n,ob,ds))
  (hq:∀ov:Option V,(ov=none/\zaB k ds=none)\/(∃v d,ov=some v/\zaB k ds=some d/\Shd cl w v d)->P ov) :
  ∃v,σ[i]?=some (some v)/\∃a C dx fs c,v=.ref a/\w.H a=some (.ins C dx fs)/\Cls X.K C/\zcd X.K C f/\fs.lookup f=some (.ref c)/\IsD w.H c/\∃ov,zhS w.H c (.str k) ov/\P ov:=by
 obtain ⟨a,dx,fs,c,kvs,ev,_,_,_,h4,_,h6,h7,h8,_,h10,t,ho⟩:=zfX hk R h;rw [kk];exact ⟨_,ev,a,_,dx,fs,c,rfl,h4,h6,h7,h8,.inl ⟨kvs,.inl h10⟩,_,zhS.k (k:=.inr k) h10,hq _ (zb1 k t ho)⟩
def zw8(hk:zf8 cl cn f)(kk:X.K=cl.K)(q:tQ cl (zmz cn f i g) σ H Q):zwn (tQ cl g) (zur X.K (zrf i) f) σ H Q:=by
 obtain ⟨B,w,ρ,S,d,rfl,R,hg,q⟩:=q;unfold zmz at hg;split at hg
 ·rename_i k n ob ds h1 h2;cases hg;refine ⟨B,w,ρ,S,_,rfl,R,h1,fun v hv=>?_⟩;rw [ze3 hv]
  obtain ⟨v',e0,a,C,dx,fs,c,e1,e2,e3,e4,e5,_,ov,e6,e7⟩:=zmy (P:=fun ov=>Q (.bl ov.isSome) w.H) hk kk R h2 fun ov h=>by
   rcases h with ⟨rfl,h⟩ | ⟨_,_,rfl,h,_⟩<;>rw [h] at q<;>exact q _ (.bl _)
  exact ⟨v',e0,a,C,dx,fs,_,e1,e2,e3,e4,e5,c,ov,rfl,e6,e7⟩
 ·cases hg
def zoc(hk:zf8 cl cn f)(kk:X.K=cl.K)(q:tQ cl (zfB cn f i g) σ H Q):zkd (tQ cl g) (zur X.K (zrf i) f) σ H Q:=by
 obtain ⟨B,w,ρ,S,d,rfl,R,hg,q⟩:=q;unfold zfB at hg;split at hg
 ·rename_i k n ob ds h1 h2;cases hg;refine ⟨B,w,ρ,S,_,rfl,R,h1,fun v hv=>?_⟩;rw [ze3 hv]
  obtain ⟨v',e0,a,C,dx,fs,c,e1,e2,e3,e4,e5,_,ov,e6,e7⟩:=zmy (P:=fun ov=>Q (.bl (!ov.isSome)) w.H) hk kk R h2 fun ov h=>by
   rcases h with ⟨rfl,h⟩ | ⟨_,_,rfl,h,_⟩<;>rw [h] at q<;>exact q _ (.bl _)
  exact ⟨v',e0,a,C,dx,fs,_,e1,e2,e3,e4,e5,c,ov,rfl,e6,e7⟩
 ·cases hg
variable(hN:X.N[i]?=some x)(hv:Vis X.env.scope x)(hd:(x == ("__debug__":Str))=false)(hcd:(x == ("__classdict__":Str))=false)(sm:Same' cl X)(hk:zf8 cl cn f)(hb:attributeBase (.Name x p) f X.env (eval (.Name x p) X.env)=eval (.Name x p) X.env)
include hN hv hd hcd sm hk hb
def zsb(hu:X.A.units+1<cLine)(he:PE X e (tQ cl g))(hm:behindInMarks .In (.Attribute (.Name x p) f apos)=false):PE X (.Compare e [.In] [.Attribute (.Name x p) f apos] pos) (tQ cl (zmz cn f i g)) :=
 PE.imp (zn9 (zoa hu he (zbV (zaD hN hv hd hcd) hb)) hm) fun _ _ _ q=>zw8 hk sm.kk q
def zpw(hu:X.A.units+1<cLine)(he:PE X e (tQ cl g))(hm:behindInMarks .NotIn (.Attribute (.Name x p) f apos)=false):PE X (.Compare e [.NotIn] [.Attribute (.Name x p) f apos] pos) (tQ cl (zfB cn f i g)) :=
 PE.imp (zn9 (zgw hu he (zbV (zaD hN hv hd hcd) hb)) hm) fun _ _ _ q=>zoc hk sm.kk q
def zr7(hu:X.A.units+1<cLine)(he:PE X e (tQ cl g))(hm:behindInMarks .In (.Attribute (.Name x p) f apos)=false):PT X (.Compare e [.In] [.Attribute (.Name x p) f apos] pos) (tTr cl E (eQ (zmz cn f i g))) :=
 PT.imp (zn2 (zoa hu he (zbV (zaD hN hv hd hcd) hb)) hm) fun _ _ _ q=>zw8 hk sm.kk (zoR (zgb q))
def zpu(hu:X.A.units+1<cLine)(he:PE X e (tQ cl g))(hm:behindInMarks .NotIn (.Attribute (.Name x p) f apos)=false):PT X (.Compare e [.NotIn] [.Attribute (.Name x p) f apos] pos) (tTr cl E (eQ (zfB cn f i g))) :=
 PT.imp (zn2 (zgw hu he (zbV (zaD hN hv hd hcd) hb)) hm) fun _ _ _ q=>zoc hk sm.kk (zoR (zgb q))
def zpx(hu:X.A.units+1<cLine)(he:PE X e (tQ cl g))(m:M1 X (.Attribute (.Name x p) f apos) "get" ap e cp):PE X (.Call (.Attribute (.Attribute (.Name x p) f apos) "get" ap) [e] [] cp) (tQ cl (zgr cn f i g)):=by
 refine PE.imp (zmK hu (zbV (zaD hN hv hd hcd) hb) he m) ?_;rintro σ H Q ⟨B,w,ρ,S,d,rfl,R,hg,q⟩;unfold zgr at hg;split at hg
 ·rename_i k n ob ds h1 h2;cases hg
  obtain ⟨v',e0,a,C,dx,fs,c,e1,e2,e3,e4,e5,e55,ov,e6,e7⟩:=zmy (P:=fun ov=>Q (ov.getD .non) w.H) hk sm.kk R h2 fun ov h=>by
   rcases h with ⟨rfl,h⟩ | ⟨_,_,rfl,h,r⟩<;>rw [h] at q
   ·exact q _ .non
   ·exact q _ r
  refine ⟨v',e0,a,C,dx,fs,_,e1,e2,e3,e4,e5,c,rfl,e55,B,w,ρ,S,_,rfl,R,h1,fun v hv=>?_⟩;rw [ze3 hv];exact ⟨ov,e6,e7⟩
 ·cases hg
def zsa(hu:X.A.units+1<cLine)(he:PE X e (tQ cl g))(hs:zvO e):PE X (.Subscript (.Attribute (.Name x p) f apos) e pos) (tQ cl (zpy cn f i g)):=by
 refine PE.imp (zpO hu (zbV (zaD hN hv hd hcd) hb) he hs) ?_;rintro σ H Q ⟨B,w,ρ,S,d,rfl,R,hg,q⟩;unfold zpy at hg;split at hg
 ·rename_i k n ob ds h1 h2
  obtain ⟨v',e0,a,C,dx,fs,c,e1,e2,e3,e4,e5,e55,ov,e6,v,rfl,e7⟩:=zmy (P:=fun ov=>∃v,ov=some v/\Q v w.H) hk sm.kk R h2 fun ov h=>by
   rcases h with ⟨rfl,h⟩ | ⟨v,_,rfl,h,r⟩<;>rw [h] at hg
   ·cases hg
   ·cases hg;exact ⟨v,rfl,q _ r⟩
  refine ⟨v',e0,a,C,dx,fs,_,e1,e2,e3,e4,e5,B,w,ρ,S,_,rfl,R,h1,fun y hv=>?_⟩;rw [ze3 hv];exact ⟨c,v,rfl,e6,e7⟩
 ·cases hg
omit hb
def zo4(hs:swapsWith (.Dict [] [] p) (some (.Attribute (.Name x p2) f apos)) pos.line X.env=pure false):PS X (.Assign [.Attribute (.Name x p2) f apos] (.Dict [] [] p) pos) (tS cl E own (zkw cn f i)):=by
 refine PS.imp (zkO (zaD hN hv hd hcd) zil hs) ?_;rintro De σ H ⟨B,w,ρ,S,rfl,R,q⟩;intro pd hpd;unfold zkw at q;split at q
 ·rename_i n hi;obtain ⟨v,ev,rv⟩:=R.slots i false _ hi
  cases hS:S[n]? with
  | none=>rw [hS] at q;exact q.elim
  | some ob =>
   rw [hS] at q;dsimp only at q;split at q
   ·rename_i hc0;rw [yab] at hc0;obtain ⟨a,dx,fs,rfl,hmu,how,hH,hF⟩:=zfq R rv hS;rw [sm.kk];refine ⟨_,ev,a,_,dx,fs,rfl,?_,yao hc0.1 ▸ hk.1,yao hc0.1 ▸ hk.2,by rw [hF.len];exact yao hc0.2,?_⟩
    ·rw [zac (zam hH hpd)];exact hH
    ·obtain ⟨R3,F3⟩:=R.newo (f:=f) hS hmu how hH hF hpd (.dicK .nil);exact q σ _ R3 F3
   ·exact q.elim
 ·exact q.elim
include hb
def zoZ(hu:X.A.units+1<cLine)(hek:PE X e (tQ cl gk))(heo:PE X o (tQ cl ge))(hs:swapsWith o (some (.Subscript (.Attribute (.Name x p) f apos) e p3)) pos.line X.env=pure false):PS X (.Assign [.Subscript (.Attribute (.Name x p) f apos) e p3] o pos) (tS cl E own (zi9 cn f i gk ge)):=by
 refine PS.imp (zpD hu (zbV (zaD hN hv hd hcd) hb) hek heo hs) ?_;rintro De σ H ⟨B,w,ρ,S,rfl,R,q⟩;unfold zi9 at q;split at q
 ·rename_i k d n ob ds h1 h2 h3;split at q
  ·rename_i hz;rw [yab] at hz;refine ⟨B,w,ρ,S,_,rfl,R,h2,fun v hv=>?_⟩;obtain ⟨a,dx,fs,c,kvs,ev,hS,hmu,how,hH,hF,c1,c2,lv,oc,hc,t,ho⟩:=zfX hk R h3;rw [sm.kk];refine ⟨_,ev,a,_,dx,fs,_,rfl,hH,c1,c2,lv,B,w,ρ,S,_,rfl,R,h1,fun y hy=>?_⟩;rw [ze3 hy];refine ⟨c,_,rfl,zq1.k (k:=.inr k) hc (by rw [t.length];exact zcS hz.1),?_⟩;obtain ⟨R3,F3⟩:=R.seto hS hmu how hH hF lv oc (.dicK (t.putS ho hv)) hz.2;exact q σ _ R3 F3
  ·exact q.elim
 ·exact q.elim
def zo0{j:Nat}(hek:PE X e (tQ cl gk))(m:M2 X (.Attribute (.Name x p) f apos) "pop" ap e (.Constant .none j p2) cp):PS X (.Expr (.Call (.Attribute (.Attribute (.Name x p) f apos) "pop" ap) [e,.Constant .none j p2] [] cp) pos) (tS cl E own (zja cn f i gk)):=by
 refine PS.imp (zdb (zmJ (zbV (zaD hN hv hd hcd) hb) hek zn7 m)) ?_;rintro De σ H ⟨B,w,ρ,S,rfl,R,q⟩;unfold zja at q;split at q
 ·rename_i k n ob ds h1 h3;split at q
  ·rename_i hz;obtain ⟨a,dx,fs,c,kvs,ev,hS,hmu,how,hH,hF,c1,c2,lv,oc,hc,t,ho⟩:=zfX hk R h3;rw [sm.kk];refine ⟨_,ev,a,_,dx,fs,_,rfl,hH,c1,c2,lv,c,rfl,.inl ⟨kvs,.inl hc⟩,B,w,ρ,S,_,rfl,R,h1,fun y hy=>?_⟩;rw [ze3 hy];refine ⟨kvs,.inr k,hc,rfl,fun v hv=>?_,fun hn=>?_⟩
   ·rcases zb1 k t ho with ⟨z,_⟩ | ⟨_,_,_,z,_⟩
    ·rw [z] at hv;cases hv
    ·rw [z] at q;simp only [ycZ,ybU] at q;obtain ⟨R3,F3⟩:=R.seto hS hmu how hH hF lv oc (.dicK (t.dropS (k:=k) ho)) hz;exact q σ _ R3 F3
   ·rcases zb1 k t ho with ⟨_,z⟩ | ⟨_,_,z,_⟩
    ·rw [z] at q;simp only [Option.isSome_none,ybv,ycN] at q;exact q σ w R (Fut.refl _)
    ·rw [z] at hn;cases hn
  ·exact q.elim
 ·exact q.elim
end
def zjd(cn f:Str)(i:Nat)(gs:List Fq):Fs:=fun ρ S=>match zin cn f ρ S i,zhC gs ρ S with
 | some (n,ob,.lst l),some ds=>if zaE l.length&&zaE ds.length&&zd3 ob then .nx ρ (S.set n (ob.put f true (.tup [.lst (l++[.tup ds])]))) else .bad
 | _,_=>.bad
section
variable{X:Cx}{cl:Cf}{E:St->XK}{own:Bool}{es:List Expr}{gs:List Fq}{pos apos ap cp p p2:Pos}{f cn:Str}{i kk:Nat}{x:Str}
def zo7(hN:X.N[i]?=some x)(hv:Vis X.env.scope x)(hd:(x == ("__debug__":Str))=false)(hcd:(x == ("__classdict__":Str))=false)(sm:Same' cl X)(hk:zf8 cl cn f)(hb:attributeBase (.Name x p) f X.env (eval (.Name x p) X.env)=eval (.Name x p) X.env)(he:PA X es (tQs cl gs))(hbase:attributeBase (.Attribute (.Name x p) f apos) "append" X.env (eval (.Attribute (.Name x p) f apos) X.env)=eval (.Attribute (.Name x p) f apos) X.env)
  (hln:(ap.endLine == cp.line)=true):PS X (.Expr (.Call (.Attribute (.Attribute (.Name x p) f apos) "append" ap) [.Tuple es kk p2] [] cp) pos) (tS cl E own (zjd cn f i gs)):=by
 refine PS.imp (zdb (zjm (es:=[]) ya7 ybO ybP zdx (zbV (zaD hN hv hd hcd) hb) (zaF (zn5 he) zbx (zaO rfl)) (hbase:=hbase) (hfew:=zgO rfl (by simp)) (hline:=hln) (hs:=zaO rfl) (hplain:=rfl))) ?_;rintro De σ H ⟨B,w,ρ,S,rfl,R,q⟩;unfold zjd at q;split at q
 ·rename_i n ob l ds hl hg;obtain ⟨a,dx,fs,c,o,ev,hS,hmu,how,hH,hF,c1,c2,lv,oc,hc,t⟩:=zdO hk R hl;split at q
  ·rename_i hz;rw [yab,yab] at hz
   cases t with
   | lst t =>
    rw [sm.kk];refine ⟨_,ev,a,_,dx,fs,_,rfl,hH,c1,c2,lv,.inl ⟨rfl,_,SqL.of hc⟩,B,w,ρ,S,ds,rfl,R,hg,fun vs hvs=>⟨by rw [hvs.length];exact zaK hz.1.2,fun pn hpn=>?_⟩⟩;have gr:=zaq hpn (.tup vs);have R2:Rel cl B σ (w.add pn (.tup vs)) ρ S:=R.grow gr;obtain ⟨a',dx',fs',c',o',ev',_,hmu',how',hH',hF',_,_,lv',oc',hc',t'⟩:=zdO hk R2 hl;rw [ev] at ev';cases ev';have e1:=(gr.keep a _ hH).1;rw [hH'] at e1;cases e1;rw [lv] at lv';cases lv';have e2:=(gr.keep c _ hc).1;rw [hc'] at e2;cases e2
    cases t' with
    | lst t' =>
     refine ⟨c,_,_,rfl,rfl,hc',by rw [t.length];exact zcS hz.1.1,?_⟩;obtain ⟨R3,F3⟩:=R2.seto hS hmu' how' hH' hF' lv oc' (.lst (t'.append (.cons (Shd.newT hpn hvs) .nil))) hz.2;exact q σ _ R3 (gr.fut.trans F3)
  ·exact q.elim
 ·exact q.elim
end
noncomputable def ztZ(f:Str):Bool:=decide (f = "done")||decide (f = "undone")||decide (f = "before")||decide (f = "after")
noncomputable def zqH(f:Str):Bool:=decide (f = "named")
structure FA where
 i:Nat
 x:Str
 p:Pos
 f:Str
 ap:Pos
def faG(G:Genv)(nm:Names)(N:List Str)(e:Expr):Option FA :=
 (ztH e).bind fun t=>(nmF t.1).bind fun x=>if G.ob.fk G.ob.cur t.2.1 then (zbd nm N x.1).map fun i=>⟨i,x.1,x.2,t.2.1,t.2.2⟩ else none
noncomputable def zsG:List Expr->List Keyword->Option Expr | [a],[]=>some a | _,_=>none
def zhu{as:List Expr}{ks:List Keyword}{a:Expr}(h:zsG as ks=some a):as=[a]/\ks=[]:=by
 unfold zsG at h;split at h
 ·cases h;exact ⟨rfl,rfl⟩
 ·cases h
noncomputable def zu6:List Expr->List Keyword->Bool | [],[]=>true | _,_=>false
def zp2{as:List Expr}{ks:List Keyword}(h:zu6 as ks=true):as=[]/\ks=[]:=by
 unfold zu6 at h;split at h
 ·exact ⟨rfl,rfl⟩
 ·cases h
def quG(G:Genv)(nm:Names)(N:List Str)(e:Expr):Option Fq:=match e with
 | .Name x _=>(zbd nm N x).map zbw
 | .Call f as ks cp=>(ztH f).bind fun t=>(zsG as ks).bind fun a=>(nmF a).bind fun y=>if decide (t.2.1 = "get")&&(t.2.2.endLine == cp.line) then (faG G nm N t.1).bind fun a=>if zqH a.f then (zbd nm N y.1).map fun j=>zgr G.ob.cur a.f a.i (zbw j) else none else none
 | _=>none
def quL(G:Genv)(nm:Names)(N:List Str):List Expr->Option (List Fq)
 | []=>some []
 | e::es=>(quG G nm N e).bind fun g=>(quL G nm N es).map (g::·)
noncomputable def inB:List CmpOp->List Expr->Option (Bool×Expr) | [.In],[b]=>some (true,b) | [.NotIn],[b]=>some (false,b) | _,_=>none
def zth{os:List CmpOp}{bs:List Expr}{c:Bool×Expr}(h:inB os bs=some c):bs=[c.2]/\os=[if c.1 then .In else .NotIn]:=by
 unfold inB at h;split at h
 ·cases h;exact ⟨rfl,rfl⟩
 ·cases h;exact ⟨rfl,rfl⟩
 ·cases h
def zuX(G:Genv)(nm:Names)(N:List Str)(f:Expr)(as:List Expr)(ks:List Keyword):Option Fe:=(nmF f).bind fun x=>(zsG as ks).bind fun b=>if decide (x.1 = "len")&&zbm nm x.1&&G.blt x.1 then (faG G nm N b).bind fun t=>if ztZ t.f then some (zfW G.ob.cur t.f t.i) else none else none
def zuW(G:Genv)(nm:Names)(N:List Str)(f:Expr)(as:List Expr)(ks:List Keyword)(cp:Pos):Option Fe:=(ztH f).bind fun u=>if zu6 as ks&&decide (u.2.1 = "pop")&&(u.2.2.endLine == cp.line) then (faG G nm N u.1).bind fun t=>if ztZ t.f then some (zqE G.ob.cur t.f t.i) else none else none
def zuY(G:Genv)(nm:Names)(N:List Str)(e:Expr):Option Fe:=match e with
 | .Compare a os bs _=>(nmF a).bind fun y=>(inB os bs).bind fun c=>(faG G nm N c.2).bind fun t=>if zqH t.f then (zbd nm N y.1).map fun j=>if c.1 then eQ (zmz G.ob.cur t.f t.i (zbw j)) else eQ (zfB G.ob.cur t.f t.i (zbw j)) else none
 | .Subscript b i _=>(nmF i).bind fun y=>(faG G nm N b).bind fun t=>if zqH t.f then (zbd nm N y.1).map fun j=>eQ (zpy G.ob.cur t.f t.i (zbw j)) else none
 | .Call f as ks cp=>(match zuX G nm N f as ks with | some r=>some r | none=>zuW G nm N f as ks cp)
 | _=>none
section
variable{cl:Cf}{G:Genv}{k:Nat}{X:Cx}{nm:Names}{N:List Str}{E:St->XK}
def zfR(g:Gx cl G k X nm N E){e:Expr}{a:FA}(h:faG G nm N e=some a):e=.Attribute (.Name a.x a.p) a.f a.ap/\X.N[a.i]?=some a.x/\Vis X.env.scope a.x/\(a.x == ("__debug__":Str))=false/\(a.x == ("__classdict__":Str))=false/\zf8 cl G.ob.cur a.f:=by
 unfold faG at h;obtain ⟨t,h1,h⟩:=zab h;obtain ⟨x,h2,h⟩:=zab h;split at h
 ·rename_i hf;obtain ⟨i,h3,h⟩:=yat.mp h;subst h;obtain ⟨s1,s2,s3,s4⟩:=g.slot h3;have e1:=zf4 h1;have e2:=zc4 h2;rw [e2] at e1;exact ⟨e1,s1,s2,s3,s4,g.gok.fk _ _ hf⟩
 ·cases h
def Gx.u1(g:Gx cl G k X nm N E):X.A.units+1<cLine:=yc0 (Nat.add_le_add_left (by decide) _) g.units
def zeV(g:Gx cl G k X nm N E){x:Str}{p:Pos}{j:Nat}(h:zbd nm N x=some j):PE X (.Name x p) (tQ cl (zbw j)):=by
 obtain ⟨s1,s2,s3,s4⟩:=g.slot h;exact zr9 s1 s2 s3 s4
def zr6(g:Gx cl G k X nm N E){e:Expr}{q:Fq}(h:quG G nm N e=some q):PE X e (tQ cl q)/\zbi e=true:=by
 unfold quG at h;split at h
 ·obtain ⟨i,h1,h⟩:=yat.mp h;subst h;exact ⟨zeV g h1,rfl⟩
 ·obtain ⟨⟨o,m,ap⟩,t1,h2⟩:=zab h;obtain ⟨b,t2,h3⟩:=zab h2;obtain ⟨⟨y,py⟩,t3,h4⟩:=zab h3;clear h h2 h3;have h:=h4;clear h4;obtain ⟨rfl,rfl⟩:=zhu t2;rw [zf4 t1,zc4 t3];dsimp only at h ⊢;split at h
  ·rename_i hc;rw [yab] at hc;have em:=yao hc.1;subst em;obtain ⟨a,h1,h⟩:=zab h;split at h
   ·obtain ⟨j,h2,h⟩:=yat.mp h;subst h;obtain ⟨e1,s1,s2,s3,s4,fk⟩:=zfR g h1;subst e1;exact ⟨zpx s1 s2 s3 s4 g.same fk rfl g.u1 (zeV g h2) ⟨rfl,rfl,hc.2,rfl⟩,rfl⟩
   ·cases h
  ·cases h
 ·cases h
theorem znZ(g:Gx cl G k X nm N E):∀{es:List Expr} {gs:List Fq},quL G nm N es=some gs->PA X es (tQs cl gs)
 | [],gs,h=>by cases h;exact zr8
 | e::es,gs,h=>by
  unfold quL at h;obtain ⟨q,h1,h⟩:=zab h;obtain ⟨gs',h2,h⟩:=yat.mp h;subst h;obtain ⟨a1,a2⟩:=zr6 g h1;exact zpv a1 (znZ g h2) (zaO a2)
def zht{e:Expr}{f:Fe}(p:PE X e (tE cl E f))(h:∀whole,isTrue e X.env whole=(do let v ← whole;standAt e.pos;holding [v] (truthy v)))(o:okE e=true):PE X e (tE cl E f)/\PT X e (tTr cl E f)/\okE e=true:=⟨p,za9 p h,o⟩
def zpR(g:Gx cl G k X nm N E){fe:Expr}{as:List Expr}{ks:List Keyword}{cp:Pos}{f:Fe}(h:zuX G nm N fe as ks=some f):PE X (.Call fe as ks cp) (tE cl E f)/\PT X (.Call fe as ks cp) (tTr cl E f)/\okE (.Call fe as ks cp)=true:=by
 unfold zuX at h;obtain ⟨⟨x,px⟩,t1,h2⟩:=zab h;obtain ⟨b,t2,h3⟩:=zab h2;clear h h2;have h:=h3;clear h3;obtain ⟨rfl,rfl⟩:=zhu t2;rw [zc4 t1];dsimp only at h ⊢;split at h
 ·rename_i hc;rw [yab,yab] at hc;have em:=yao hc.1.1;subst em;obtain ⟨a,h1,h⟩:=zab h;split at h
  ·cases h;obtain ⟨e1,s1,s2,s3,s4,fk⟩:=zfR g h1;subst e1;exact zht (zpn (y:="") s1 s2 s3 s4 g.same fk rfl (g.glob hc.1.2).1 (g.gok.blt _ hc.2)) (fun _=>rfl) rfl
  ·cases h
 ·cases h
def zpQ(g:Gx cl G k X nm N E){fe:Expr}{as:List Expr}{ks:List Keyword}{cp:Pos}{f:Fe}(h:zuW G nm N fe as ks cp=some f):PE X (.Call fe as ks cp) (tE cl E f)/\PT X (.Call fe as ks cp) (tTr cl E f)/\okE (.Call fe as ks cp)=true:=by
 unfold zuW at h;obtain ⟨⟨o,m,ap⟩,t1,h2⟩:=zab h;clear h;have h:=h2;clear h2;rw [zf4 t1];dsimp only at h ⊢;split at h
 ·rename_i hc;rw [yab,yab] at hc;obtain ⟨rfl,rfl⟩:=zp2 hc.1.1;have em:=yao hc.1.2;subst em;obtain ⟨a,h1,h⟩:=zab h;split at h
  ·cases h;obtain ⟨e1,s1,s2,s3,s4,fk⟩:=zfR g h1;subst e1;exact zht (zpl s1 s2 s3 s4 g.same fk rfl rfl hc.2) (fun _=>rfl) rfl
  ·cases h
 ·cases h
def zpS(g:Gx cl G k X nm N E){e:Expr}{f:Fe}(h:zuY G nm N e=some f):PE X e (tE cl E f)/\PT X e (tTr cl E f)/\okE e=true:=by
 unfold zuY at h;split at h
 ·obtain ⟨⟨y,py⟩,t1,h2⟩:=zab h;obtain ⟨⟨c,b⟩,t2,h3⟩:=zab h2;clear h h2;have h:=h3;clear h3;obtain ⟨rfl,rfl⟩:=zth t2;rw [zc4 t1];dsimp only at h ⊢;obtain ⟨a,h1,h⟩:=zab h;split at h
  ·obtain ⟨j,h2,h⟩:=yat.mp h;subst h;obtain ⟨e1,s1,s2,s3,s4,fk⟩:=zfR g h1;subst e1
   cases c with
   | true=>exact ⟨zuK (zsb s1 s2 s3 s4 g.same fk rfl g.u1 (zeV g h2) rfl),zr7 s1 s2 s3 s4 g.same fk rfl g.u1 (zeV g h2) rfl,rfl⟩
   | false=>exact ⟨zuK (zpw s1 s2 s3 s4 g.same fk rfl g.u1 (zeV g h2) rfl),zpu s1 s2 s3 s4 g.same fk rfl g.u1 (zeV g h2) rfl,rfl⟩
  ·cases h
 ·obtain ⟨⟨y,py⟩,t1,h2⟩:=zab h;clear h;have h:=h2;clear h2;rw [zc4 t1];dsimp only at h ⊢;obtain ⟨a,h1,h⟩:=zab h;split at h
  ·obtain ⟨j,h2,h⟩:=yat.mp h;subst h;obtain ⟨e1,s1,s2,s3,s4,fk⟩:=zfR g h1;subst e1;exact zht (zuK (zsa s1 s2 s3 s4 g.same fk rfl g.u1 (zeV g h2) fun _ _=>rfl)) (fun _=>rfl) rfl
  ·cases h
 ·split at h
  ·rename_i hr;cases h;exact zpR g hr
  ·exact zpQ g h
 ·cases h
end
noncomputable def mt0:Expr->Nat | .List [] _=>1 | .Dict [] [] _=>2 | _=>0
def zsX{e:Expr}(h:mt0 e=1):∃p,e=.List [] p:=by
 cases e with
 | List l p=>cases l with
  | nil=>exact ⟨p,rfl⟩
  | cons a l=>cases h
 | Dict a b p=>cases a<;>cases b<;>cases h
 | _=>cases h
def zsW{e:Expr}(h:mt0 e=2):∃p,e=.Dict [] [] p:=by
 cases e with
 | List l p=>cases l<;>cases h
 | Dict a b p=>cases a<;>cases b<;>first | exact ⟨p,rfl⟩ | cases h
 | _=>cases h
noncomputable def zwk:Expr->Option (List Expr×Nat×Pos) | .Tuple es k p=>some (es,k,p) | _=>none
def zoG{e:Expr}{x:List Expr×Nat×Pos}(h:zwk e=some x):e=.Tuple x.1 x.2.1 x.2.2:=by cases e<;>first | (cases h;done) | (cases h;rfl)
noncomputable def noV:Expr->Bool | .Constant c _ _=>(match c with | .none=>true | _=>false) | _=>false
def zsS{e:Expr}(h:noV e=true):∃k p,e=.Constant .none k p:=by
 cases e with
 | Constant c k p=>cases c<;>first | exact ⟨k,p,rfl⟩ | cases h
 | _=>cases h
noncomputable def zuR:List Expr->List Keyword->Option (Expr×Expr) | [a,b],[]=>some (a,b) | _,_=>none
def zpE{as:List Expr}{ks:List Keyword}{x:Expr×Expr}(h:zuR as ks=some x):as=[x.1,x.2]/\ks=[]:=by
 unfold zuR at h;split at h
 ·cases h;exact ⟨rfl,rfl⟩
 ·cases h
def zuZ(G:Genv)(nm:Names)(N:List Str)(tg e:Expr):Option Fs:=match tg with
 | .Attribute o f p=>(faG G nm N (.Attribute o f p)).bind fun t=>if decide (mt0 e=1)&&ztZ t.f then some (zeT G.ob.cur t.f t.i) else if decide (mt0 e=2)&&zqH t.f then some (zkw G.ob.cur t.f t.i) else none
 | .Subscript b i _=>(nmF i).bind fun y=>(nmF e).bind fun z=>(faG G nm N b).bind fun t=>if zqH t.f then (zbd nm N y.1).bind fun j=>(zbd nm N z.1).map fun l=>zi9 G.ob.cur t.f t.i (zbw j) (zbw l) else none
 | _=>none
def zxe(G:Genv)(nm:Names)(N:List Str)(t:FA)(a:Expr):Option Fs:=match zwk a with
 | some x=>(quL G nm N x.1).map fun gs=>zjd G.ob.cur t.f t.i gs
 | none=>(quG G nm N a).map fun g=>zpr G.ob.cur t.f t.i g
def zuV(G:Genv)(nm:Names)(N:List Str)(e:Expr):Option Fs:=match e with
 | .Call f as ks cp=>(ztH f).bind fun u=>(faG G nm N u.1).bind fun t=>if u.2.2.endLine == cp.line then (if decide (u.2.1 = "append")&&ztZ t.f then (zsG as ks).bind fun a=>zxe G nm N t a else if decide (u.2.1 = "pop")&&zqH t.f then (zuR as ks).bind fun x=>(nmF x.1).bind fun y=>if noV x.2 then (zbd nm N y.1).map fun j=>zja G.ob.cur t.f t.i (zbw j) else none else none) else none
 | _=>none
section
variable{cl:Cf}{G:Genv}{k:Nat}{X:Cx}{nm:Names}{N:List Str}{E:St->XK}{own:Bool}
def zpT(g:Gx cl G k X nm N E){tg e:Expr}{f:Fs}{pos:Pos}(h:zuZ G nm N tg e=some f):PS X (.Assign [tg] e pos) (tS cl E own f):=by
 unfold zuZ at h;split at h
 ·obtain ⟨a,h1,h2⟩:=zab h;clear h;obtain ⟨e1,s1,s2,s3,s4,fk⟩:=zfR g h1;rw [e1];split at h2
  ·rename_i hc;rw [yab] at hc;obtain ⟨p,rfl⟩:=zsX (yao hc.1);cases h2;exact zo3 s1 s2 s3 s4 g.same fk rfl
  ·split at h2
   ·rename_i hc;rw [yab] at hc;obtain ⟨p,rfl⟩:=zsW (yao hc.1);cases h2;exact zo4 s1 s2 s3 s4 g.same fk rfl
   ·cases h2
 ·obtain ⟨⟨y,py⟩,t1,h2⟩:=zab h;obtain ⟨⟨z,pz⟩,t2,h3⟩:=zab h2;obtain ⟨a,h1,h4⟩:=zab h3;clear h h2 h3;rw [zc4 t1,zc4 t2];split at h4
  ·obtain ⟨j,h2,h5⟩:=zab h4;obtain ⟨l,h3,h6⟩:=yat.mp h5;subst h6;obtain ⟨e1,s1,s2,s3,s4,fk⟩:=zfR g h1;rw [e1];exact zoZ s1 s2 s3 s4 g.same fk rfl g.u1 (zeV g h2) (zeV g h3) rfl
  ·cases h4
 ·cases h
def zpP(g:Gx cl G k X nm N E){e:Expr}{f:Fs}{pos:Pos}(h:zuV G nm N e=some f):PS X (.Expr e pos) (tS cl E own f):=by
 unfold zuV at h;split at h
 ·obtain ⟨⟨o,m,ap⟩,t1,h2⟩:=zab h;obtain ⟨a,h1,h3⟩:=zab h2;clear h h2;rw [zf4 t1];obtain ⟨e1,s1,s2,s3,s4,fk⟩:=zfR g h1;dsimp only at h3 e1 ⊢;subst e1;split at h3
  ·rename_i hl;split at h3
   ·rename_i hc;rw [yab] at hc;have em:=yao hc.1;subst em;obtain ⟨b,t2,h4⟩:=zab h3;obtain ⟨rfl,rfl⟩:=zhu t2;unfold zxe at h4;split at h4
    ·rename_i x hx;obtain ⟨gs,h5,rfl⟩:=yat.mp h4;rw [zoG hx];exact zo7 s1 s2 s3 s4 g.same fk rfl (znZ g h5) rfl hl
    ·obtain ⟨q,h5,rfl⟩:=yat.mp h4;obtain ⟨b1,b2⟩:=zr6 g h5;exact zo8 s1 s2 s3 s4 g.same fk rfl b1 rfl b2 hl
   ·split at h3
    ·rename_i hc;rw [yab] at hc;have em:=yao hc.1;subst em;obtain ⟨⟨x1,x2⟩,t2,h4⟩:=zab h3;obtain ⟨⟨y,py⟩,t3,h5⟩:=zab h4;obtain ⟨rfl,rfl⟩:=zpE t2;dsimp only at h5 t3 ⊢;split at h5
     ·rename_i hn;obtain ⟨kk,pp,hx2⟩:=zsS hn;obtain ⟨j,h6,rfl⟩:=yat.mp h5;rw [zc4 t3,hx2];exact zo0 s1 s2 s3 s4 g.same fk rfl (zeV g h6) ⟨rfl,rfl,hl,rfl⟩
     ·cases h5
    ·cases h3
  ·cases h3
 ·cases h
end
end S2
namespace L2
open PySem PySem.Spec PyProof.Rows
end L2
namespace S2
open PySem PySem.Spec PyProof.Rows L2
def zjB(cn f:Str)(i:Nat):Fe:=fun ρ S=>match dicI cn f ρ S i with
 | some (_,_,ds)=>if ds.length<64 then .ok (.lst ((zel (zd9 ds)).map D.str)) S else .bad
 | none=>.bad
section
variable{X:Cx}{cl:Cf}{E:St->XK}{pos apos cp p:Pos}{f cn:Str}{i:Nat}{x:Str}
theorem zpk{q1:Pos}(hN:X.N[i]?=some x)(hv:Vis X.env.scope x)(hd:(x == ("__debug__":Str))=false)(hcd:(x == ("__classdict__":Str))=false)(hc:X.calm=true)(sm:Same' cl X)(hk:zf8 cl cn f)(hb:attributeBase (.Name x p) f X.env (eval (.Name x p) X.env)=eval (.Name x p) X.env)(hg:Gl X "sorted")(hm:X.mg "sorted" = none) :
  PE X (.Call (.Name "sorted" q1) [.Attribute (.Name x p) f apos] [] cp) (tN cl E (zjB cn f i)):=by
 refine PE.imp (zcg (ze0 hc) hg hm (by decide +kernel) (zaF (zbV (zaD hN hv hd hcd) hb) zbx)) ?_;rintro σ H Q ⟨B,w,ρ,S,rfl,R,q⟩;unfold zjB at q
 cases hl:dicI cn f ρ S i with
 | none=>rw [hl] at q;exact q.elim
 | some u =>
  obtain ⟨n,ob,ds⟩:=u;rw [hl] at q;dsimp only at q
  by_cases hz:ds.length<64
  ·rw [if_pos hz] at q;obtain ⟨a,dx,fs,c,kvs,ev,hS,hmu,how,hH,hF,c1,c2,lv,oc,hc',t,ho⟩:=zfX hk R hl;obtain ⟨k1,k2⟩:=zfJ t ho;rw [sm.kk];exact ⟨_,ev,a,_,dx,fs,_,rfl,hH,c1,c2,lv,c,kvs,zd9 ds,rfl,.inl hc',k1,by rw [k2];exact hz,fun pn hpn=>q pn _ w R (Fut.refl _) hpn (.lst zgj)⟩
  ·rw [if_neg hz] at q;exact q.elim
end
def zuD(G:Genv)(nm:Names)(N:List Str)(e:Expr):Option Fe:=match e with
 | .Call (.Name x _) [b] [] _=>if decide (x = "sorted")&&zbm nm x&&G.blt x then (faG G nm N b).bind fun t=>if zqH t.f then some (zjB G.ob.cur t.f t.i) else none else none
 | _=>none
def zpa{cl:Cf}{G:Genv}{k:Nat}{X:Cx}{nm:Names}{N:List Str}{E:St->XK}(g:Gx cl G k X nm N E){e:Expr}{f:Fe}(h:zuD G nm N e=some f):PE X e (tN cl E f)/\PT X e (tTr cl E f)/\okE e=true:=by
 unfold zuD at h;split at h
 ·split at h
  ·rename_i hc;rw [yab,yab] at hc;have em:=yao hc.1.1;subst em;obtain ⟨a,h1,h⟩:=zab h;split at h
   ·cases h;obtain ⟨e1,s1,s2,s3,s4,fk⟩:=zfR g h1;subst e1;have go:∀{e:Expr} {f:Fe},PE X e (tN cl E f)->(∀whole,isTrue e X.env whole=(do let v ← whole;standAt e.pos;holding [v] (truthy v)))->okE e=true->PE X e (tN cl E f)/\PT X e (tTr cl E f)/\okE e=true:=fun p h o=>⟨p,za9 (zbM p) h,o⟩
    exact go (zpk s1 s2 s3 s4 g.calm g.same fk rfl (g.glob hc.1.2).1 (g.gok.blt _ hc.2)) (fun _=>rfl) rfl
   ·cases h
  ·cases h
 ·cases h
noncomputable def zsU:Expr->Option Str | .Name x _=>some x | _=>none
noncomputable def zvo(df:Bool):Option NameKind->Bool | some .local=>true | some .cell=>df | _=>false
def tgI(df:Bool)(nm:Names)(N:List Str)(n:Nat)(x:Str):Option Nat:=if zvo df (nm.lookup x) then (idx N x).bind fun i=>if i<n then some i else none else none
def zq5(df:Bool)(nm:Names)(N:List Str)(n:Nat):List Expr->Option (List Nat)
 | []=>some []
 | .Name x _::es=>(tgI df nm N n x).bind fun i=>(zq5 df nm N n es).bind fun is=>some (i::is)
 | _::_=>none
def tgG(df:Bool)(nm:Names)(N:List Str)(n:Nat):Expr->Option Tg
 | .Name x _=>(tgI df nm N n x).map .one
 | .Tuple es _ _=>(zq5 df nm N n es).map .tup
 | _=>none
structure Sto'(X:Cx)(nm:Names)(df:Bool):Prop where
 fn:df=true->∀x,nm.lookup x=some .cell->X.fn x=true
section
variable{cl:Cf}{G:Genv}{k:Nat}{X:Cx}{nm:Names}{N:List Str}{E:St->XK}{df:Bool}{n:Nat}
def ze2(g:Gx cl G k X nm N E)(sd:Sto' X nm df)(h:tgI df nm N n x=some i):i<n/\X.N.Nodup/\X.N[i]?=some x/\Loc X.env.scope x/\(X.fn x=true\/X.env.scope.names.lookup x=some .local):=by
 unfold tgI at h;split at h
 ·rename_i hl
  cases hi:idx N x with
  | none=>rw [hi] at h;cases h
  | some j =>
   rw [hi] at h;dsimp only [Option.bind] at h;split at h
   ·rename_i hn;cases h;refine ⟨hn,by rw [g.eN];exact g.nd,by rw [g.eN];exact zeC hi,?_,?_⟩
    ·cases hk:nm.lookup x with
     | none=>rw [hk] at hl;cases hl
     | some kd =>
      obtain ⟨kd',e,z⟩:=g.vis x kd hk;rw [hk] at hl;unfold L2.Loc;rw [e]
      rcases z with rfl | ⟨rfl,_⟩
      ·cases kd'<;>first | exact .inl rfl | exact .inr rfl | cases hl
      ·cases hl
    ·cases hk:nm.lookup x with
     | none=>rw [hk] at hl;cases hl
     | some kd =>
      rw [hk] at hl
      cases kd<;>first | exact .inr (g.fnx x hk) | exact .inl (sd.fn hl x hk) | cases hl
   ·cases h
 ·cases h
theorem zjZ(g:Gx cl G k X nm N E)(sd:Sto' X nm df):∀{es:List Expr} {is:List Nat},zq5 df nm N n es=some is->PGs X es (tGs cl n is)/\(assignEach es X.env).length=is.length/\(assignEach es X.env).findIdx? (·.1)=none
 | [],is,h=>by cases h;exact ⟨zpg,rfl,rfl⟩
 | e::es,is,h=>by
  cases e with
  | Name x pos =>
   unfold zq5 at h
   cases h1:tgI df nm N n x with
   | none=>rw [h1] at h;cases h
   | some i =>
    rw [h1] at h
    cases h2:zq5 df nm N n es with
    | none=>rw [h2] at h;cases h
    | some is' =>
     rw [h2] at h;cases h;obtain ⟨a1,a2,a3,a4,a5⟩:=ze2 g sd h1;obtain ⟨b1,b2,b3⟩:=zjZ g sd h2;refine ⟨zmm a1 a2 a3 a4 a5 b1,?_,?_⟩
     ·show (assignEach es X.env).length+1=_;rw [b2];rfl
     ·show ((false,assign (.Name x pos) X.env)::assignEach es X.env).findIdx? (·.1)=none;rw [List.findIdx?_cons];simp [b3]
  | _=>cases h
def zoL(g:Gx cl G k X nm N E)(sd:Sto' X nm df)(h:tgG df nm N n tg=some t):PG X tg (tG cl n t):=by
 unfold tgG at h;split at h
 ·rename_i x pos
  cases h1:tgI df nm N n x with
  | none=>rw [h1] at h;cases h
  | some i =>
   rw [h1] at h;cases h;obtain ⟨a1,a2,a3,a4,a5⟩:=ze2 g sd h1;exact zrM a1 a2 a3 a4 a5
 ·rename_i es kk pos
  cases h1:zq5 df nm N n es with
  | none=>rw [h1] at h;cases h
  | some is =>
   rw [h1] at h;cases h;obtain ⟨b1,b2,b3⟩:=zjZ g sd h1;exact zrL g.calm b1 b2 b3
 ·cases h
end
def zaX:Expr->List Str
 | .Name x _=>[x]
 | .Tuple es _ _=>es.filterMap zsU
 | _=>[]
def zaW(names:Names)(N:List Str):List (Str×Nat):=names.filterMap fun p=>if p.2=.free then (idx N p.1).map fun i=>(p.1,i) else none
noncomputable def zyo:Option NameKind->Bool | some .cell=>true | some .free=>true | _=>false
def zlP(nm:Names)(scope:Scope)(xs:List Str)(caps:List (Str×Nat)):Bool :=
 decide (scope.kind=.function)&&decide ((scope.names.map (·.1)).Nodup)&&scope.names.all (fun y=>!decide (y.2=.local)||decide (scope.names.lookup y.1=some .local))
 && scope.names.all (fun y=>!decide (y.2=.free)||zyo (nm.lookup y.1))&&caps.all (fun p=>scope.names.all fun z=>!decide (z.1=p.1)||decide (z.2=.free))&&decide ((xs++caps.map (·.1)).Nodup)
def znv(rc:Rec)(nm:Names)(N:List Str):List Expr->Option Fe
 | []=>some zd5
 | [c]=>if zbs c then shE rc nm N c else none
 | _=>none
def zjF(G:Genv)(rc:Rec)(nm:Names)(N:List Str)(elt:Expr)(g:Comprehension)(scope:Scope):Option Fe :=
 if decide (g.is_async=0)&&zlP nm scope (zaX g.target) (zaW scope.names N) then
  (zjw G rc nm N g.target g.iter).bind fun it =>
  (tgG true scope.names (zaX g.target++(zaW scope.names N).map (·.1)) (zaX g.target).length g.target).bind fun t =>
  (znv rc scope.names (zaX g.target++(zaW scope.names N).map (·.1)) g.ifs).bind fun c =>
  (shE rc scope.names (zaX g.target++(zaW scope.names N).map (·.1)) elt).bind fun el =>
  some (zb3 (zaX g.target).length t it c el ((zaW scope.names N).map (·.2)))
 else none
theorem zc9{scope:Scope}{env:PySem.Env}:∀{names:Names} {x:Str} {kd:NameKind},names.lookup x=some kd →
  ∃kd',(names.map fun (n,k)=>if (k == NameKind.free&&env.scope.kind == .function&&env.kindOf n == some .cell) then (n,NameKind.cell) else (n,k)).lookup x=some kd'/\(kd'=kd\/(kd=.free/\kd'=.cell))
 | [],_,_,h=>by cases h
 | (n,k0)::r,x,kd,h=>by
  rw [yaD] at h;rw [yaz];dsimp only
  by_cases hc:(k0 == NameKind.free&&env.scope.kind == .function&&env.kindOf n == some .cell)=true
  ·rw [if_pos hc,yaD]
   cases hx:x == n with
   | true =>
    rw [hx] at h;cases h;simp only [yab,ycd] at hc;exact ⟨_,rfl,.inr ⟨hc.1.1,rfl⟩⟩
   | false=>rw [hx] at h;exact zc9 (scope:=scope) h
  ·rw [if_neg hc,yaD]
   cases hx:x == n with
   | true=>rw [hx] at h;cases h;exact ⟨_,rfl,.inl rfl⟩
   | false=>rw [hx] at h;exact zc9 (scope:=scope) h
section
variable{cl:Cf}{G:Genv}{k:Nat}{rc:Rec}{X:Cx}{nm:Names}{N:List Str}{E:St->XK}
def zjE(g:Gx cl G k X nm N E)(h:zlP nm scope xs (zaW scope.names N)=true):CompScopeG X.env.scope scope X.N xs (zaW scope.names N)/\(xs++(zaW scope.names N).map (·.1)).Nodup:=by
 unfold zlP at h;simp only [yab,ybl,ya9,ycU,ybC,ycr] at h;obtain ⟨⟨⟨⟨⟨h1,h2⟩,h3⟩,h4⟩,h5⟩,h6⟩:=h
 have fr:∀y∈scope.names,y.2=.free->X.env.scope.names.lookup y.1=some .cell\/X.env.scope.names.lookup y.1=some .free:=fun y hy hf=>by
  rcases h4 y hy with z | z
  ·exact absurd hf z
  ·cases hk:nm.lookup y.1 with
   | none=>rw [hk] at z;cases z
   | some kd =>
    obtain ⟨kd',e,zz⟩:=g.vis y.1 kd hk;rw [hk] at z;rw [e]
    rcases zz with rfl | ⟨_,rfl⟩
    ·cases kd'<;>first | exact .inl rfl | exact .inr rfl | cases z
    ·exact .inl rfl
 refine ⟨⟨h2,h1,fun y hy hl=>(h3 y hy).elim (fun z=>absurd hl z) fun z=>z,fr,fun p hp=>?_,fun p hp z hz e=>(h5 p hp z hz).elim (fun w=>absurd e w) fun w=>w⟩,h6⟩;unfold zaW at hp;obtain ⟨q,hq,e⟩:=ybt.mp hp;split at e
 ·rename_i hf
  cases hi:idx N q.1 with
  | none=>rw [hi] at e;cases e
  | some i =>
   rw [hi] at e;have e':(q.1,i)=p:=Option.some.inj e;subst e';refine ⟨by rw [g.eN];exact zeC hi,by rw [<-hf];exact hq,?_⟩
   rcases fr q hq hf with z | z<;>rw [z]<;>exact fun w=>by cases w
 ·cases e
def zfO(g:Gx cl G k X nm N E)(hn:(xs++(zaW scope.names N).map (·.1)).Nodup)(cl':List (Str×Addr))(C:Addr)(s:Shared)(H:Hp)(fp:List Addr) :
  Gx cl G k (zaY X xs (zaW scope.names N) scope cl' C s H fp) scope.names (xs++(zaW scope.names N).map (·.1)) noE where
 gok:=g.gok
 room:=g.room
 calm:=g.calm
 pass:=fun pins σ H s e s' I q=>by
  obtain ⟨a,cls,a0,H',B,_,_,_,_,_,_,_,_,_,z⟩:=q;exact z.elim
 eN:=rfl
 kk:=g.kk
 pp:=g.pp
 ww:=g.ww
 nd:=hn
 vis:=fun x kd h=>zc9 (scope:=scope) h
 fnx:=fun x h=>lookup_relabel_local h
 cod:=fun c h=>g.cod c h
 fnc:=fun x h=>yaQ h
def zqI(hs:za4 cl G k rc)(g:Gx cl G k X nm N noE)(h:znv rc nm N ifs=some c):PIf X ifs (tTr cl noE c):=by
 unfold znv at h;split at h
 ·cases h;intro pins s σ H Q I q;obtain ⟨B,w,ρ,S,rfl,R,q⟩:=q;exact zpK pins s σ w.H Q I (q w R (Fut.refl _))
 ·split at h
  ·rename_i c ht;obtain ⟨_,a2,_⟩:=zaZ hs g h;exact zpJ (a2 ht)
  ·cases h
 ·cases h
def zfm(hs:za4 cl G k rc)(g:Gx cl G k X nm N E)(h:zjF G rc nm N elt gg scope=some f) :
  ∃it t c el,f=zb3 (zaX gg.target).length t it c el ((zaW scope.names N).map (·.2))/\gg=⟨gg.target,gg.iter,gg.ifs,0⟩/\CompScopeG X.env.scope scope X.N (zaX gg.target) (zaW scope.names N)/\PI X gg.target gg.iter (tI cl E it)/\okE gg.iter=true ∧
   (∀cl' C s H fp,PG (zaY X (zaX gg.target) (zaW scope.names N) scope cl' C s H fp) gg.target (tG cl (zaX gg.target).length t)) ∧
   (∀cl' C s H fp,PIf (zaY X (zaX gg.target) (zaW scope.names N) scope cl' C s H fp) gg.ifs (tTr cl noE c)) ∧
   ∀cl' C s H fp,PE (zaY X (zaX gg.target) (zaW scope.names N) scope cl' C s H fp) elt (tE cl noE el):=by
 unfold zjF at h;split at h
 ·rename_i hc;rw [yab] at hc;obtain ⟨S,hn⟩:=zjE g hc.2
  cases h1:zjw G rc nm N gg.target gg.iter with
  | none=>rw [h1] at h;cases h
  | some it =>
   rw [h1] at h;dsimp only [Option.bind] at h
   cases h2:tgG true scope.names (zaX gg.target++(zaW scope.names N).map (·.1)) (zaX gg.target).length gg.target with
   | none=>rw [h2] at h;cases h
   | some t =>
    rw [h2] at h;dsimp only at h
    cases h3:znv rc scope.names (zaX gg.target++(zaW scope.names N).map (·.1)) gg.ifs with
    | none=>rw [h3] at h;cases h
    | some c =>
     rw [h3] at h;dsimp only at h
     cases h4:shE rc scope.names (zaX gg.target++(zaW scope.names N).map (·.1)) elt with
     | none=>rw [h4] at h;cases h
     | some el =>
      rw [h4] at h;cases h;obtain ⟨i1,i2⟩:=zln hs g (tg:=gg.target) h1;refine ⟨it,t,c,el,rfl,?_,S,i1,i2,fun cl' C s H fp=>zoL (zfO g hn cl' C s H fp) ⟨fun _ x hx=>yaQ hx⟩ h2,fun cl' C s H fp=>zqI hs (zfO g hn cl' C s H fp) h3,fun cl' C s H fp=>(zaZ hs (zfO g hn cl' C s H fp) h4).1⟩;have:=yao hc.1;cases gg;simp only at this;rw [this]
 ·cases h
def zlN(hs:za4 cl G k rc)(g:Gx cl G k X nm N E)(h:zjF G rc nm N elt gg scope=some f):PE X (.ListComp elt [gg] scope pos) (tN cl E f):=by
 obtain ⟨it,t,c,el,rfl,eg,S,i1,i2,i3,i4,i5⟩:=zfm hs g h;rw [eg];exact PE.imp (zmM g.calm S i1 i3 i4 i5 (zfF i2)) fun _ _ _ q=>zov q
end
noncomputable def zw7:Expr->Bool | .Slice _ _ _ _=>false | _=>true
def ztW(rc:Rec)(nm:Names)(N:List Str):Option Expr->Option (Option Fe)
 | none=>some none
 | some e=>(opE rc nm N e).map some
def zlM:∀(l:List D) (d r:D),zdH l d=some r->∃n,r=.int n:=by
 intro l d r h;unfold zdH at h;split at h
 ·cases h;exact ⟨_,rfl⟩
 ·cases h
def unG(rc:Rec)(nm:Names)(N:List Str)(a:Expr):UnaryOp->Option (Bool×Fe)
 | .Not=>if zbs a then (shE rc nm N a).map fun f=>(false,eUn zdP f) else none
 | _=>none
def zty(rc:Rec)(nm:Names)(N:List Str)(a:Expr):List CmpOp->List Expr->Option (Bool×Fe)
 | [op],[b]=>(ztz op b).bind fun g=>(opE rc nm N a).bind fun f=>(opE rc nm N b).bind fun h=>some (false,zat g f h)
 | [op,op'],[b,c]=>(ztz op b).bind fun g=>(ztz op' c).bind fun g'=>(opE rc nm N a).bind fun f=>(opE rc nm N b).bind fun h=>(opE rc nm N c).bind fun k=>some (false,zcM g g' f h k)
 | _,_=>none
def zwp(rc:Rec)(nm:Names)(N:List Str)(a:Expr):Expr->Option (Bool×Fe)
 | .Slice lo hi none _=>(opE rc nm N a).bind fun f=>(ztW rc nm N lo).bind fun l=>(ztW rc nm N hi).bind fun u=>some (false,eSl f l u)
 | i=>if zw7 i then (opE rc nm N a).bind fun f=>(opE rc nm N i).bind fun h=>some (false,zat ixD f h) else none
def zxd(rc:Rec)(nm:Names)(N:List Str)(o:Expr)(m:Str)(ap cp:Pos)(args:List Expr)(kws:List Keyword):Option Fe:=(nmF o).bind fun x=>match args,kws with
 | [a],[]=>if (ap.endLine == cp.line)&&decide (m = "count") then (zbd nm N x.1).bind fun i=>(opE rc nm N a).map fun f=>eMt zdH i f else none
 | _,_=>none
def zox(G:Genv)(rc:Rec)(nm:Names)(N:List Str)(args:List Expr)(kws:List Keyword)(cp:Pos):Expr->Option (Bool×Fe)
 | .Attribute o m ap=>(match zxd rc nm N o m ap cp args kws with | some f=>some (false,f) | none=>zp4 G rc nm N o m ap cp args kws)
 | .Name x _=>if kws.isEmpty then (match mkG G rc nm N x args with | some p=>some p | none=>(match spG G rc nm N x args with | some p=>some p | none=>zqP G rc nm N x args)) else none
 | _=>none
def lcG(G:Genv)(rc:Rec)(nm:Names)(N:List Str)(elt:Expr)(scope:Scope):List Comprehension->Option (Bool×Fe)
 | [g]=>(zjF G rc nm N elt g scope).map fun f=>(true,f)
 | _=>none
def zny(nm:Names)(N:List Str):List Str->Option (List Nat)
 | []=>some []
 | x::xs=>if nm.lookup x=some .cell then (idx N x).bind fun i=>(zny nm N xs).map (i::·) else none
def zoJ(G:Genv)(nm:Names)(N:List Str)(args:List Expr)(kws:List Keyword)(f:Expr):Option (Bool×Fe):=match f,args,kws with
 | .Name x _,[e],[]=>if decide (x = "_law_stays")&&zbm nm x then (G.lam e).bind fun r=>(zny nm N r.1).map fun cs=>(false,zeL cs r.2) else none
 | _,_,_=>none
def zaA(G:Genv)(rc:Rec):Rec:=fun nm N e=>match e with
 | .Constant c _ _=>(zxc c).map fun d=>(false,zaw d)
 | .Name x _=>(match zbd nm N x with
  | some i=>some (false,zaf i)
  | none=>if zbm nm x then (G.con x).map fun d=>(false,zaw d) else none)
 | .Tuple es _ _=>(shL rc nm N es).map fun fs=>(false,ziL fs)
 | .List es _=>(shL rc nm N es).map fun fs=>(true,zhe fs)
 | .BinOp a op b _=>if zqo a&&ztg op then (opE rc nm N a).bind fun f=>(opE rc nm N b).bind fun h=>some (true,zat zhv f h) else (zvF op).bind fun g=>(opE rc nm N a).bind fun f=>(opE rc nm N b).bind fun h=>some (false,zat g f h)
 | .UnaryOp op a _=>unG rc nm N a op
 | .BoolOp op es _=>(zjK rc nm N op es).map fun f=>(false,f)
 | .Compare a ops bs _=>zty rc nm N a ops bs
 | .IfExp c a b _=>if zbs c then (shE rc nm N c).bind fun g=>(shE rc nm N a).bind fun f=>(shE rc nm N b).bind fun h=>some (false,eIf g f h) else none
 | .Subscript a i _=>zwp rc nm N a i
 | .Attribute o f _=>zvw G rc nm N o f
 | .Call f args kws cp=>(match zoJ G nm N args kws f with | some p=>some p | none=>zox G rc nm N args kws cp f)
 | .ListComp elt gs scope _=>lcG G rc nm N elt scope gs
 | .Dict [] [] _=>some (true,zts)
 | _=>none
def zhI(G:Genv)(rc:Rec):Rec:=fun nm N e=>match zuY G nm N e with
 | some f=>some (false,f)
 | none=>(match zuD G nm N e with | some f=>some (true,f) | none=>zaA G rc nm N e)
noncomputable def zot(G:Genv):Nat->Rec
 | 0=>fun _ _ _=>none
 | n+1=>zhI G (zot G n)
section
variable{cl:Cf}{G:Genv}{k:Nat}{rc:Rec}
def zm6(h:zw7 i=true):zhQ i:=by
 intro o j
 cases i<;>first | rfl | cases h
def zaa{α β:Type}{o:Option α}{f:α->Option β}{b:β}(h:o.bind f=some b):∃a,o=some a/\f a=some b:=by
 cases o with
 | none=>cases h
 | some a=>exact ⟨a,rfl,h⟩
def map_some{α β:Type}{o:Option α}{f:α->β}{b:β}(h:o.map f=some b):∃a,o=some a/\f a=b:=by
 cases o with
 | none=>cases h
 | some a=>exact ⟨a,rfl,Option.some.inj h⟩
def zio(hs:za4 cl G k rc)(g:Gx cl G k X nm N E)(h:ztW rc nm N o=some f):PO X o (ztU cl E f):=by
 unfold ztW at h;split at h
 ·cases h;exact zpG
 ·obtain ⟨a,h1,rfl⟩:=map_some h;exact zpF (zb0 hs g h1).1
theorem zlR{X:Cx}{nm:Names}{N:List Str}{E:St->XK}(g:Gx cl G k X nm N E):∀{xs:List Str} {cs:List Nat},zny nm N xs=some cs->CapsOk X xs cs
 | [],cs,h=>by cases h;exact ⟨rfl,fun j x i h=>by simp at h⟩
 | x::xs,cs,h=>by
  unfold zny at h;split at h
  ·rename_i hx;obtain ⟨i,h1,h⟩:=Option.bind_eq_some_iff.mp h;obtain ⟨cs',h2,h⟩:=yat.mp h;subst h;have c:=zlR g h2;refine ⟨by rw [yaj,yaj,c.len],fun j y i' e1 e2=>?_⟩
   cases j with
   | zero =>
    cases e1;cases e2;refine ⟨by rw [g.eN];exact zeC h1,?_,g.fnc _ hx⟩;obtain ⟨kd,a1,a2⟩:=g.vis _ _ hx
    rcases a2 with z | ⟨z,_⟩
    ·rwa [z] at a1
    ·cases z
   | succ j=>exact c.at' j y i' e1 e2
  ·cases h
def ztx{X:Cx}{nm:Names}{N:List Str}{E:St->XK}(hs:za4 cl G k rc)(g:Gx cl G k X nm N E){o:Expr}{m:Str}{ap cp:Pos}{args:List Expr}{kws:List Keyword}{fe:Fe}(h:zxd rc nm N o m ap cp args kws=some fe):PE X (.Call (.Attribute o m ap) args kws cp) (tE cl E fe):=by
 obtain ⟨⟨x,p⟩,e1,h2⟩:=zaa h;obtain rfl:=zc4 e1;clear h e1;have h:=h2;clear h2;dsimp only at h ⊢;split at h
 ·rename_i a;split at h
  ·rename_i hb;rw [yab,ya9] at hb;obtain ⟨hln,rfl⟩:=hb;obtain ⟨i,h1,h⟩:=zaa h;obtain ⟨fa,h2,h⟩:=yat.mp h;cases h;obtain ⟨n1,n2,n3,n4⟩:=g.slot h1;obtain ⟨a1,a2⟩:=zb0 hs g h2;exact zuH PySem.F.slot_list_count PySem.F.type_list_count (zmX g.kk g.units) zlM n1 n2 n3 n4 a1 (zak a2) hln
  ·cases h
 ·cases h
def zoI{X:Cx}{nm:Names}{N:List Str}{E:St->XK}(g:Gx cl G k X nm N E){args:List Expr}{kws:List Keyword}{f:Expr}{cp:Pos}{o:Bool}{fe:Fe}(h:zoJ G nm N args kws f=some (o,fe)):o=false/\PE X (.Call f args kws cp) (tE cl E fe):=by
 unfold zoJ at h;split at h
 ·rename_i x p e;split at h
  ·rename_i hc;rw [yab] at hc;have ex:=yao hc.1;subst ex;obtain ⟨r,h1,h⟩:=Option.bind_eq_some_iff.mp h;obtain ⟨cs,h2,h⟩:=yat.mp h;cases h;exact ⟨rfl,g.gok.tl e r.1 r.2 h1 X E cs p cp rfl rfl rfl rfl rfl g.room g.calm (g.glob hc.2).1 g.cod (zlR g h2)⟩
  ·cases h
 ·cases h
def zlK(hs:za4 cl G k rc):za4 cl G k (zaA G rc):=by
 intro X nm N E g e o f h;cases e
 case Constant =>
  unfold zaA at h;dsimp only at h;obtain ⟨d,h1,h2⟩:=map_some h;cases h2;rename_i c kk pos
  have p:PE X (.Constant c kk pos) (tE cl E (zaw d)):=by
   cases c<;>simp [zxc] at h1<;>subst h1
   ·exact zkq zn7 fun w=>.non
   ·exact zkq zsu fun w=>.bl _
   ·exact zkq zss fun w=>.int _
   ·exact zkq zn6 fun w=>.str _
  exact ⟨(fun z=>by cases z),p,fun _=>za9 p (fun _=>rfl),rfl⟩
 case Name =>
  unfold zaA at h;dsimp only at h;rename_i x pos;split at h
  ·rename_i i hi;cases h;obtain ⟨h1,h2,h3,h4⟩:=g.slot hi;have p:PE X (.Name x pos) (tE cl E (zaf i)):=zrN h1 h2 h3 h4;exact ⟨(fun z=>by cases z),p,fun _=>za9 p (fun _=>rfl),rfl⟩
  ·split at h
   ·rename_i hg;obtain ⟨d,h1,h2⟩:=map_some h;cases h2;obtain ⟨g1,g2,g3⟩:=g.glob hg;obtain ⟨v,u,m,r,sh⟩:=g.gok.con x d h1;have p:PE X (.Name x pos) (tE cl E (zaw d)):=zkq (zkX g1 m r g2) sh;exact ⟨(fun z=>by cases z),p,fun _=>za9 p (fun _=>rfl),rfl⟩
   ·cases h
 case Tuple =>
  unfold zaA at h;dsimp only at h;obtain ⟨fs,h1,h2⟩:=map_some h;cases h2;rename_i es kk pos;have p:PE X (.Tuple es kk pos) (tE cl E (ziL fs)):=zrO (zem hs g h1).1;exact ⟨(fun z=>by cases z),p,fun _=>za9 p (fun _=>rfl),rfl⟩
 case List =>
  unfold zaA at h;dsimp only at h;obtain ⟨fs,h1,h2⟩:=map_some h;cases h2;rename_i es pos;have p:PE X (.List es pos) (tN cl E (zhe fs)):=zrR (zem hs g h1).1;exact ⟨fun _=>p,zbM p,fun _=>za9 (zbM p) (fun _=>rfl),rfl⟩
 case BinOp =>
  unfold zaA at h;dsimp only at h;split at h
  ·rename_i a op b pos hm;obtain ⟨fa,h2,h⟩:=zaa h;obtain ⟨fb,h3,h⟩:=zaa h;cases h;rw [yab] at hm
   have ho:op=.Mult:=by cases op<;>first | rfl | cases hm.2
   subst ho;have p:PE X (.BinOp a .Mult b pos) (tN cl E (zat zhv fa fb)):=zpm (zb0 hs g h2).1 (zb0 hs g h3).1;exact ⟨fun _=>p,zbM p,fun _=>za9 (zbM p) (fun _=>rfl),rfl⟩
  obtain ⟨gg,h1,h⟩:=zaa h;obtain ⟨fa,h2,h⟩:=zaa h;obtain ⟨fb,h3,h⟩:=zaa h;cases h;exact ⟨(fun z=>by cases z),znX (zoy h1) (zb0 hs g h2).1 (zb0 hs g h3).1,fun _=>za9 (znX (zoy h1) (zb0 hs g h2).1 (zb0 hs g h3).1) (fun _=>rfl),rfl⟩
 case UnaryOp =>
  unfold zaA at h;dsimp only at h;rename_i op a pos;unfold unG at h;split at h
  ·split at h
   ·rename_i ht;obtain ⟨fa,h1,h2⟩:=map_some h;cases h2;obtain ⟨a1,a2,_⟩:=zaZ hs g h1;exact ⟨(fun z=>by cases z),zrQ a1,fun _=>zrw (a2 ht),rfl⟩
   ·cases h
  ·cases h
 case BoolOp =>
  unfold zaA at h;dsimp only at h;obtain ⟨fa,h1,h2⟩:=map_some h;cases h2;rename_i op es pos;obtain ⟨b1,b2⟩:=zlW hs g (pos:=pos) h1;exact ⟨(fun z=>by cases z),b1,fun _=>b2.pt,rfl⟩
 case Compare =>
  unfold zaA at h;dsimp only at h;rename_i a ops bs pos;unfold zty at h;split at h
  ·obtain ⟨gg,h1,h⟩:=zaa h;obtain ⟨fa,h2,h⟩:=zaa h;obtain ⟨fb,h3,h⟩:=zaa h;cases h;obtain ⟨a1,_⟩:=zb0 hs g h2;obtain ⟨b1,b2⟩:=zb0 hs g h3;exact ⟨(fun z=>by cases z),zrT (zfn g h1) a1 b1 (zet b2),fun _=>zrx (zfn g h1) a1 b1 (zet b2),rfl⟩
  ·obtain ⟨gg,h1,h⟩:=zaa h;obtain ⟨gg',h1',h⟩:=zaa h;obtain ⟨fa,h2,h⟩:=zaa h;obtain ⟨fb,h3,h⟩:=zaa h;obtain ⟨fc,h4,h⟩:=zaa h;cases h;obtain ⟨a1,_⟩:=zb0 hs g h2;obtain ⟨b1,_⟩:=zb0 hs g h3;obtain ⟨c1,c2⟩:=zb0 hs g h4;have hm:∀{op op':CmpOp} {b c:Expr},okE c=true->lastMarks [op,op'] [b,c]=false:=fun h=>zet h
   exact ⟨(fun z=>by cases z),zmp (zfn g h1) (zfn g h1') a1 b1 c1 (hm c2),fun _=>zmk (zfn g h1) (zfn g h1') a1 b1 c1 (hm c2),rfl⟩
  ·cases h
 case IfExp =>
  unfold zaA at h;dsimp only at h;split at h
  ·rename_i c a b pos ht;obtain ⟨fc,h1,h⟩:=zaa h;obtain ⟨fa,h2,h⟩:=zaa h;obtain ⟨fb,h3,h⟩:=zaa h;cases h;obtain ⟨_,c2,_⟩:=zaZ hs g h1;exact ⟨(fun z=>by cases z),zuJ (c2 ht) (zaZ hs g h2).1 (zaZ hs g h3).1,(fun z=>by cases z),rfl⟩
  ·cases h
 case Subscript =>
  unfold zaA at h;dsimp only at h;rename_i a i pos;unfold zwp at h;split at h
  ·obtain ⟨fa,h1,h⟩:=zaa h;obtain ⟨fl,h2,h⟩:=zaa h;obtain ⟨fu,h3,h⟩:=zaa h;cases h;exact ⟨(fun z=>by cases z),zrP (zb0 hs g h1).1 (zio hs g h2) (zio hs g h3),fun _=>za9 (zrP (zb0 hs g h1).1 (zio hs g h2) (zio hs g h3)) (fun _=>rfl),rfl⟩
  ·split at h
   ·rename_i hix;obtain ⟨fa,h1,h⟩:=zaa h;obtain ⟨fb,h2,h⟩:=zaa h;cases h;have p:PE X (.Subscript a _ pos) (tE cl E (zat ixD fa fb)):=zuI (zvp g.kk g.units) (zb0 hs g h1).1 (zb0 hs g h2).1 (zm6 hix);exact ⟨(fun z=>by cases z),p,fun _=>za9 p (fun _=>rfl),rfl⟩
   ·cases h
 case Attribute =>
  unfold zaA at h;dsimp only at h;rename_i o fl pos;obtain ⟨rfl,n1⟩:=ztm hs g (pos:=pos) h;exact ⟨(fun z=>by cases z),n1,fun _=>za9 n1 (fun _=>rfl),rfl⟩
 case Call =>
  unfold zaA at h;dsimp only at h;rename_i fn args kws cp;split at h
  ·rename_i pt hpt;obtain ⟨w,fe⟩:=pt;cases h;obtain ⟨rfl,n1⟩:=zoI g (cp:=cp) hpt;exact ⟨(fun z=>by cases z),n1,fun _=>za9 n1 (fun _=>rfl),rfl⟩
  rename_i hno;clear hno;unfold zox at h;split at h
  ·rename_i o m ap;split at h
   ·rename_i ff hff;cases h;have p:=ztx hs g (ap:=ap) (cp:=cp) hff;exact ⟨(fun z=>by cases z),p,fun _=>za9 p (fun _=>rfl),rfl⟩
   obtain ⟨a1,a2⟩:=zp3 hs g (ap:=ap) (pos:=cp) h;exact ⟨a1,a2,fun _=>za9 a2 (fun _=>rfl),rfl⟩
  ·rename_i x p;split at h
   ·rename_i hk
    have hk':kws=[]:=by simpa using hk
    subst hk';split at h
    ·rename_i pm hmk;obtain ⟨w,fe⟩:=pm;cases h;obtain ⟨rfl,n1⟩:=zu9 hs g (p:=p) (pos:=cp) hmk;exact ⟨(fun z=>by cases z),n1,fun _=>za9 n1 (fun _=>rfl),rfl⟩
    split at h
    ·rename_i hsp;cases h;obtain ⟨a1,a2⟩:=zuE hs g (p:=p) (pos:=cp) hsp;exact ⟨a1,a2,fun _=>za9 a2 (fun _=>rfl),rfl⟩
    ·obtain ⟨a1,a2⟩:=zqO hs g (p:=p) (pos:=cp) h;exact ⟨a1,a2,fun _=>za9 a2 (fun _=>rfl),rfl⟩
   ·cases h
  ·cases h
 case ListComp =>
  unfold zaA at h;dsimp only at h;rename_i elt gs scope pos;unfold lcG at h;split at h
  ·obtain ⟨fa,h1,h2⟩:=map_some h;cases h2;rename_i gg;have p:PE X (.ListComp elt [gg] scope pos) (tN cl E f):=zlN hs g h1;exact ⟨fun _=>p,zbM p,fun _=>za9 (zbM p) (fun _=>rfl),rfl⟩
  ·cases h
 case Dict ks vs _ =>
  cases ks with
  | cons _ _=>cases h
  | nil =>
   cases vs with
   | cons _ _=>cases h
   | nil =>
    unfold zaA at h;dsimp only at h;rename_i pos;cases h;exact ⟨fun _=>zhi,zbM (zhi),fun _=>za9 (zbM (zhi)) (fun _=>rfl),rfl⟩
 all_goals cases h
def znr(hs:za4 cl G k rc):za4 cl G k (zhI G rc):=by
 intro X nm N E g e o f h;unfold zhI at h;split at h
 ·rename_i f' ho;cases h;obtain ⟨p1,p2,p3⟩:=zpS g ho;exact ⟨(fun z=>by cases z),p1,fun _=>p2,p3⟩
 ·split at h
  ·rename_i f' ho;cases h;obtain ⟨p1,p2,p3⟩:=zpa g ho;exact ⟨fun _=>p1,zbM p1,fun _=>p2,p3⟩
  ·exact zlK hs X nm N E g e o f h
theorem zgU:∀n,za4 cl G k (zot G n)
 | 0=>fun _ _ _ _ _ _ _ _ h=>by cases h
 | n+1=>znr (zgU n)
end
noncomputable def zl6(X:Cx)(E:St->XK):Prop:=∀(C:Addr) (pins:Z3) (σ:St) (H:Hp) (s:Shared) (e:Addr) (h':Heap) (vs:List Value),Inv X pins σ H s->Heap.MadeExcOf s.heap h' e (.ref C) vs->E σ (.ref C) none H->X.xe (.ref e) { s with heap:=h' }
noncomputable def zoP(C:Addr)(E:St->XK)(t:TA):TS:=fun _ σ H=>t σ H fun vs H1=>vs.length<=sizeLine/\E σ (.ref C) none H1
theorem zkN(hr:zl6 X E)(hc:X.calm=true)(hg:Gl X x)(hm:X.mg x=some (.ref C))
  (z:PySem.W.excIn X.K C bmV "ValueError.__new__" = true) (ha:PA X (e::es) t)
  (he:starEach (e::es) X.env=(false,eval e X.env)::starEach es X.env) (hpl:(backTo cpos (starEach es X.env)).any (·.1)=false) (hdb:(x == ("__debug__":Str))=false) :
  PS X (.Raise (some (.Call (.Name x np) (e::es) [] cpos)) none pos) (zoP C E t):=by
 intro pins s σ H D I h;obtain ⟨bm,N,nm,qn,bs,hd,sn,sub,ab,col,dd,c0,c1,c2,c3,c5,mN,o1,o2,o3,o4⟩:=zqD I.mod.kin z
 refine wpAny_Raise_call_subU (C:=C) (nm:=nm) (q:=qn) (N:=N) (bs:=bs) (bm:=bm) (hdct:=hd) (sn:=sn) (sub:=sub) (ab:=ab) (col:=col) (dd:=dd) (k0:=c0) (k1:=c1) (k2:=c2) (k3:=c3) (k5:=c5)
  yb6 (by decide +kernel) yb6 (mN:=mN) (o4.hasType yb6.hasBase) (I.ok.hd hc) (by rw [he];show (false||(backTo cpos (starEach es X.env)).any (·.1))=false;rw [hpl];rfl) o3 (zdR I hg hm ⟨rfl,?_⟩ hdb)
 have go:=ha cpos pins s σ H _ I h;rw [he] at go ⊢;exact yb7 (thn go fun us s2 ⟨vs,H2,I2,r2,q1,q2⟩=>⟨rfl,by rw [<-r2.length];exact q1,I2.bk _ _ o1,o2.keeps I2.bk,o4.keeps I2.bk,fun h' a mk=>hr C pins σ H2 s2 a h' us I2 mk q2⟩)
def sRz(c:Str)(fs:List Fe):Fs:=fun ρ S=>match zai fs ρ S with | .ok ds S'=>if zaE ds.length then .ex c ρ S' else .bad | .exc x S'=>.ex x ρ S' | .bad=>.bad
noncomputable def Base.hold(B:Base)(p:Addr)(o:HO):Base:=⟨fun a=>if a=p then some o else B.Fr a,fun a=>if a=p then some .far else B.fw a⟩
noncomputable def Wd.claim(w:Wd)(p:Addr)(r:Root):Wd:=⟨w.H,fun a=>if a=p then some r else if w.ow a=some r then some .far else w.ow a,w.mu⟩
section
variable{cl:Cf}{B:Base}{σ:St}{w:Wd}{ρ:Env}{S:Sto}
theorem Rel.hold(R:Rel cl B σ w ρ S)(hp:w.H p=none):Rel cl (B.hold p o) σ (w.addAs p o .far) ρ S:=by
 have ff:=za1 (w:=w) (p:=p) (o:=o) (r:=.far) hp
 have kp:∀a u,w.H a=some u->(w.addAs p o .far).H a=some u/\(w.addAs p o .far).ow a=w.ow a:=fun a u ha=>by
  have n:a≠p:=zam ha hp;refine ⟨?_,?_⟩
  ·show upd w.H p o a=_;rw [zac n];exact ha
  ·show (if a=p then _ else if w.ow a=some Root.far then some Root.far else w.ow a)=_;rw [if_neg n];split
   ·rename_i e;exact e.symm
   ·rfl
 refine ⟨⟨fun a u h=>?_,fun a r h=>?_,R.wd.len,fun n ob h=>?_,R.wd.tab.keep ff fun P ps h1 h2=>⟨(kp P _ h1).1,(kp P _ h1).2.trans h2⟩⟩,R.len,fun j b e hj=>?_⟩
 ·by_cases ha:a=p
  ·subst ha;have h':(if a=a then some o else B.Fr a)=some u:=h;rw [if_pos rfl] at h';cases h';exact ⟨zag,by show (if a=a then some Root.far else _)=(if a=a then some Root.far else _);rw [if_pos rfl,if_pos rfl]⟩
  ·have h':(if a=p then some o else B.Fr a)=some u:=h;rw [if_neg ha] at h';have:=kp a u (R.wd.fr a u h').1;refine ⟨this.1,this.2.trans ?_⟩;show _=(if a=p then some Root.far else B.fw a);rw [if_neg ha];exact (R.wd.fr a u h').2
 ·by_cases ha:a=p
  ·have h':(if a=p then some Root.far else if w.ow a=some Root.far then some Root.far else w.ow a)=some r:=h;rw [if_pos ha] at h';cases h';exact .inl rfl
  ·have h':(if a=p then some Root.far else if w.ow a=some Root.far then some Root.far else w.ow a)=some r:=h;rw [if_neg ha] at h';split at h'
   ·cases h';exact .inl rfl
   ·rcases R.wd.own a r h' with z | z
    ·exact .inl z
    ·refine .inr ?_;show (if a=p then some o else B.Fr a)=none;rw [if_neg ha];exact z
 ·obtain ⟨a,e,x⟩:=R.wd.obj n ob h;exact ⟨a,e,x.keep ff fun b u hb _=>kp b u hb⟩
 ·obtain ⟨v,e1,x⟩:=R.slots j b e hj;exact ⟨v,e1,x.keep ff fun a u ha hr=>⟨(kp a u ha).1,(kp a u ha).2.trans hr⟩⟩
def Rel.unhold(R:Rel cl (B.hold p o) σ w ρ S)(hB:B.Fr p=none):Rel cl B σ w ρ S:=by
 refine ⟨⟨fun a u h=>?_,fun a r h=>?_,R.wd.len,R.wd.obj,R.wd.tab⟩,R.len,R.slots⟩
 ·have na:a≠p:=fun z=>by rw [z,hB] at h;cases h
  have h2:=R.wd.fr a u (show (if a=p then some o else B.Fr a)=some u by rw [if_neg na];exact h);exact ⟨h2.1,h2.2.trans (show (if a=p then some Root.far else B.fw a)=_ from if_neg na)⟩
 ·rcases R.wd.own a r h with z | z
  ·exact .inl z
  ·have z':(if a=p then some o else B.Fr a)=none:=z;split at z'
   ·cases z'
   ·exact .inr z'
def zeD(h:w.ow p≠none):Fut w (w.claim p r) where
 keep:=fun a u ha hk=>by
  have n:a≠p:=fun z=>h (by rw [<-z];exact hk)
  refine ⟨ha,?_⟩;show (if a=p then some r else if w.ow a=some r then some Root.far else w.ow a)=none;rw [if_neg n,if_neg (by rw [hk];exact fun z=>by cases z)];exact hk
 mu:=fun _ _ h=>h
theorem Rel.claim(R:Rel cl (B.hold p o) σ w ρ S)(hB:B.Fr p=none)(t:Top cl w o d):Rel cl B (σ.set i (some (.ref p))) (w.claim p (.slot i)) (ρ.set i (some (true,d))) S:=by
 have hp:=R.wd.fr p o (show (if p=p then some o else B.Fr p)=some o from if_pos rfl);have hfar:w.ow p=some .far:=hp.2.trans (show (if p=p then some Root.far else B.fw p)=_ from if_pos rfl);have ff:=zeD (w:=w) (p:=p) (r:=.slot i) (by rw [hfar];exact yaC _)
 have kp:∀a u,w.H a=some u->w.ow a≠some .far->w.ow a≠some (.slot i)->(w.claim p (.slot i)).H a=some u/\(w.claim p (.slot i)).ow a=w.ow a:=fun a u ha hk hk2=>by
  have n:a≠p:=fun z=>hk (by rw [z];exact hfar)
  refine ⟨ha,?_⟩;show (if a=p then _ else if w.ow a=some (Root.slot i) then some Root.far else w.ow a)=_;rw [if_neg n,if_neg hk2]
 refine ⟨⟨fun a u h=>?_,fun a r h=>?_,R.wd.len,fun n ob h=>?_,R.wd.tab.keep ff fun P ps h1 h2=>⟨(kp P _ h1 (by rw [h2];simp) (by rw [h2];simp)).1,(kp P _ h1 (by rw [h2];simp) (by rw [h2];simp)).2.trans h2⟩⟩,by rw [yaK,yaK];exact R.len,fun j b e hj=>?_⟩
 ·have na:a≠p:=fun z=>by rw [z,hB] at h;cases h
  have h2:=R.wd.fr a u (show (if a=p then some o else B.Fr a)=some u by rw [if_neg na];exact h);have h3:w.ow a=B.fw a:=h2.2.trans (show (if a=p then some Root.far else B.fw a)=_ from if_neg na)
  have hne:w.ow a≠some (.slot i):=fun z=>by
   rcases R.wd.own a _ z with y | y
   ·cases y
   ·have y':(if a=p then some o else B.Fr a)=none:=y;rw [if_neg na,h] at y';cases y'
  refine ⟨h2.1,?_⟩;show (if a=p then some (Root.slot i) else if w.ow a=some (Root.slot i) then some Root.far else w.ow a)=_;rw [if_neg na,if_neg hne];exact h3
 ·have h':(if a=p then some (Root.slot i) else if w.ow a=some (Root.slot i) then some Root.far else w.ow a)=some r:=h;split at h'
  ·rename_i e;rw [e];exact .inr hB
  ·rename_i na;split at h'
   ·cases h';exact .inl rfl
   ·rcases R.wd.own a r h' with z | z
    ·exact .inl z
    ·have z':(if a=p then some o else B.Fr a)=none:=z;rw [if_neg na] at z';exact .inr z'
 ·obtain ⟨a,e,x⟩:=R.wd.obj n ob h;exact ⟨a,e,x.keep ff fun b u hb hn=>kp b u hb (fun z=>by rwa [z] at hn) (fun z=>by rwa [z] at hn)⟩
 ·by_cases hij:i=j
  ·subst hij
   have hlt:i<ρ.length:=by
    have:=(yap.mp hj).1;rwa [yaK] at this
   rw [yaG hlt] at hj;cases hj;exact ⟨.ref p,by rw [yaG (by rw [R.len];exact hlt)],p,o,rfl,if_pos rfl,hp.1,t.up ff⟩
  ·rw [yaU hij] at hj ⊢;obtain ⟨v,e1,x⟩:=R.slots j b e hj;refine ⟨v,e1,x.keep ff fun a u ha hr=>?_⟩;have:=kp a u ha (by rw [hr];exact fun z=>by cases z) (by rw [hr];exact fun z=>hij (by cases z;rfl));exact ⟨this.1,this.2.trans hr⟩
end
noncomputable def tO(cl:Cf)(E:St->XK):Bool->Fe->TE | true,f=>tN cl E f | false,f=>tE cl E f
noncomputable def zrW(i j:Nat)(o1:Bool)(f1:Fe)(o2:Bool)(f2:Fe):Fs:=fun ρ S=>match f1 ρ S with
 | .ok d1 S1=>(match f2 ρ S1 with
  | .ok d2 S2=>.nx ((ρ.set i (some (o1,d1))).set j (some (o2,d2))) S2
  | .exc c S'=>.ex c ρ S'
  | .bad=>.bad)
 | .exc c S'=>.ex c ρ S'
 | .bad=>.bad
section
variable{X:Cx}{cl:Cf}{E:St->XK}{own:Bool}
def zmQ(q:tS cl E own (zrW i j o1 f1 o2 f2) De σ H):zwl i j (zmi (tO cl E o1 f1) (zmi (tO cl E o2 f2) zrj)) De σ H:=by
 obtain ⟨B,w,ρ,S,rfl,R,q⟩:=q;unfold zrW at q
 cases o1 with
 | false =>
  refine ⟨B,w,ρ,S,rfl,R,?_⟩
  cases h1:f1 ρ S with
  | bad=>rwa [h1] at q
  | exc c S1=>rw [h1] at q;exact fun w' R' F'=>q σ w' R' F'
  | ok d1 S1 =>
   rw [h1] at q;dsimp only at q;intro v w1 R1 F1 sh1
   cases o2 with
   | false =>
    refine ⟨B,w1,ρ,S1,rfl,R1,?_⟩
    cases h2:f2 ρ S1 with
    | bad=>rwa [h2] at q
    | exc c S2=>rw [h2] at q;exact fun w' R' F'=>q σ w' R' (F1.trans F')
    | ok d2 S2 =>
     rw [h2] at q;intro v2 w2 R2 F2 sh2;exact ⟨v,v2,rfl,q _ w2 ((R2.put (sh1.up F2)).put sh2) (F1.trans F2)⟩
   | true =>
    refine ⟨B,w1,ρ,S1,rfl,R1,?_⟩
    cases h2:f2 ρ S1 with
    | bad=>rwa [h2] at q
    | exc c S2=>rw [h2] at q;exact fun w' R' F'=>q σ w' R' (F1.trans F')
    | ok d2 S2 =>
     rw [h2] at q;intro p2 u2 w2 R2 F2 hp2 t2;exact ⟨v,.ref p2,rfl,q _ (w2.addAs p2 u2 (.slot j)) ((R2.put (sh1.up F2)).own hp2 t2) (F1.trans (F2.trans (za1 hp2)))⟩
 | true =>
  refine ⟨B,w,ρ,S,rfl,R,?_⟩
  cases h1:f1 ρ S with
  | bad=>rwa [h1] at q
  | exc c S1=>rw [h1] at q;exact fun w' R' F'=>q σ w' R' F'
  | ok d1 S1 =>
   rw [h1] at q;dsimp only at q;intro p u w1 R1 F1 hp t1;have Rh:=R1.hold (o:=u) hp;have fa:=za1 (w:=w1) (p:=p) (o:=u) (r:=.far) hp
   have hB:B.Fr p=none:=by
    cases z:B.Fr p with
    | none=>rfl
    | some x=>have:=(R1.wd.fr p x z).1;rw [hp] at this;cases this
   cases o2 with
   | false =>
    refine ⟨B.hold p u,w1.addAs p u .far,ρ,S1,rfl,Rh,?_⟩
    cases h2:f2 ρ S1 with
    | bad=>rwa [h2] at q
    | exc c S2=>rw [h2] at q;exact fun w' R' F'=>q σ w' (R'.unhold hB) (F1.trans (fa.trans F'))
    | ok d2 S2 =>
     rw [h2] at q;intro v2 w2 R2 F2 sh2;have hpp:=R2.wd.fr p u (show (if p=p then some u else B.Fr p)=some u from if_pos rfl)
     have hfar:w2.ow p≠none:=by rw [hpp.2,show (B.hold p u).fw p=some Root.far from if_pos rfl];exact yaC _
     have fc:=zeD (w:=w2) (p:=p) (r:=.slot i) hfar;exact ⟨.ref p,v2,rfl,q _ (w2.claim p (.slot i)) ((R2.claim hB (t1.up (fa.trans F2))).put (sh2.up fc)) (F1.trans (fa.trans (F2.trans fc)))⟩
   | true =>
    refine ⟨B.hold p u,w1.addAs p u .far,ρ,S1,rfl,Rh,?_⟩
    cases h2:f2 ρ S1 with
    | bad=>rwa [h2] at q
    | exc c S2=>rw [h2] at q;exact fun w' R' F'=>q σ w' (R'.unhold hB) (F1.trans (fa.trans F'))
    | ok d2 S2 =>
     rw [h2] at q;intro p2 u2 w2 R2 F2 hp2 t2;have hpp:=R2.wd.fr p u (show (if p=p then some u else B.Fr p)=some u from if_pos rfl)
     have hfar:w2.ow p≠none:=by rw [hpp.2,show (B.hold p u).fw p=some Root.far from if_pos rfl];exact yaC _
     have fc:=zeD (w:=w2) (p:=p) (r:=.slot i) hfar;exact ⟨.ref p,.ref p2,rfl,q _ ((w2.claim p (.slot i)).addAs p2 u2 (.slot j)) ((R2.claim hB (t1.up (fa.trans F2))).own (w:=w2.claim p (.slot i)) hp2 (t2.up fc)) (F1.trans (fa.trans (F2.trans (fc.trans (za1 (w:=w2.claim p (.slot i)) hp2)))))⟩
end
noncomputable def zgG:Expr->Bool | .ListComp _ _ _ _=>true | .SetComp _ _ _ _=>true | .DictComp _ _ _ _ _=>true | _=>false
def zft(h:zgG e=false):swapsWith e t l env=pure false:=by
 cases e<;>first | rfl | cases h
structure Gd(cl:Cf)(G:Genv)(k:Nat)(X:Cx)(nm:Names)(N:List Str)(E:St->XK)(full:Bool):Prop where
 gx:Gx cl G k X nm N E
 fn:∀x,X.fn x=true
 kind:X.env.scope.kind=.function
 sc:X.env.scope.names=nm
 own:full=true->PassesOwn (model X.prog X.w) X.A X.env X.xe
 raises:full=true->zl6 X E
 stk:X.stack=X.env::X.outer
 frm:X.env.frame=some X.env.locals
def zcf:Nat->Names->List Str->Expr->List Nat
 | 0,_,_,_=>[]
 | n+1,nm,N,e =>
  let rc:=zcf n nm N
  let op:=fun (e:Expr)=>match e with | .Name _ _=>[] | e=>rc e
  match e with
  | .Name x _=>(zbd nm N x).toList
  | .Tuple es _ _=>es.flatMap rc
  | .List es _=>es.flatMap rc
  | .BinOp a _ b _=>op a++op b
  | .UnaryOp _ a _=>rc a
  | .BoolOp _ es _=>es.flatMap rc
  | .Compare a _ bs _=>op a++bs.flatMap op
  | .IfExp c a b _=>rc c++rc a++rc b
  | .Subscript a (.Slice lo hi _ _) _=>op a++lo.toList.flatMap op++hi.toList.flatMap op
  | .Subscript a i _=>op a++op i
  | .Call (.Name f _) args [] _=>if (zlX f).isSome||decide (f = "isinstance") then args.flatMap op else args.flatMap rc
  | .Call (.Attribute o _ _) args [] _=>op o++args.flatMap rc
  | .Dict _ _ _=>[]
  | .Attribute o _ _=>op o
  | .ListComp _ [g] scope _=>rc g.iter++(zaW scope.names N).map (·.2)
  | .Lambda _ _ scope _=>(zaW scope.names N).map (·.2)
  | _=>[]
def zjc(t:Tg)(f:Fe):Fs:=fun ρ S=>match f ρ S with
 | .ok d S'=>(match t.put ρ d with | some ρ'=>.nx ρ' S' | none=>.bad)
 | .exc c S'=>.ex c ρ S'
 | .bad=>.bad
noncomputable def zmR(nm:Names)(x y:Str)(px py:Pos)(a b:Expr):Bool :=
 decide (nm.lookup x=some .local)&&decide (nm.lookup y=some .local)&&decide (px.line=py.line)&&!decide (x=y)&&zbi a&&zbi b&&!([a,b].all (foldedForSure 8))&&!([a,b].all (constantsAlone 8))
noncomputable def zok:Expr->Bool | .Constant _ _ _=>true | _=>false
noncomputable def zyn:Expr->Bool | .Name _ _=>true | .Constant _ _ _=>true | .Subscript _ _ _=>true | .BinOp _ _ _ _=>true | _=>false
noncomputable def zsF{α:Type}:List α->Option α | [a]=>some a | _=>none
def zk2{α:Type}{l:List α}{a:α}(h:zsF l=some a):l=[a]:=by
 cases l with
 | nil=>cases h
 | cons b t=>cases t with
  | nil=>cases h;rfl
  | cons _ _=>cases h
noncomputable def zgB:Expr->Option (Str×Pos) | .Name x p=>some (x,p) | _=>none
def zcV(h:zgB e=some x):e=.Name x.1 x.2:=by cases e<;>first | (cases h;done) | (cases h;rfl)
noncomputable def zqQ:Expr->Option (Expr×List Expr×List Keyword×Pos) | .Call f a k p=>some (f,a,k,p) | _=>none
def ziS(h:zqQ e=some x):e=.Call x.1 x.2.1 x.2.2.1 x.2.2.2:=by cases e<;>first | (cases h;done) | (cases h;rfl)
noncomputable def zt8:Expr->Option (Expr×Str×Pos) | .Attribute o m p=>some (o,m,p) | _=>none
def zlY(h:zt8 e=some x):e=.Attribute x.1 x.2.1 x.2.2:=by cases e<;>first | (cases h;done) | (cases h;rfl)
noncomputable def zq4:Expr->Option (List Expr×Nat×Pos) | .Tuple es k p=>some (es,k,p) | _=>none
def zhg(h:zq4 e=some x):e=.Tuple x.1 x.2.1 x.2.2:=by cases e<;>first | (cases h;done) | (cases h;rfl)
noncomputable def zwq:Expr->Option (Expr×Expr×Pos) | .Subscript a i p=>some (a,i,p) | _=>none
def zoS(h:zwq e=some x):e=.Subscript x.1 x.2.1 x.2.2:=by cases e<;>first | (cases h;done) | (cases h;rfl)
noncomputable def lcE:Expr->Option (Expr×List Comprehension×Scope×Pos) | .ListComp elt gs scope p=>some (elt,gs,scope,p) | _=>none
def zs1(h:lcE e=some x):e=.ListComp x.1 x.2.1 x.2.2.1 x.2.2.2:=by cases e<;>first | (cases h;done) | (cases h;rfl)
noncomputable def zul{α:Type}:List α->Option (α×α) | [a,b]=>some (a,b) | _=>none
def znO{α:Type}{l:List α}{a:α×α}(h:zul l=some a):l=[a.1,a.2]:=by
 cases l with
 | nil=>cases h
 | cons b t=>cases t with
  | nil=>cases h
  | cons c t=>cases t with
   | nil=>cases h;rfl
   | cons _ _=>cases h
def zvL(G:Genv)(rc:Rec)(nm:Names)(N:List Str)(x:Str)(e:Expr):Option Fs :=
 (tgI true nm N N.length x).bind fun i=>match lcE e with
  | some c=>(zsF c.2.1).bind fun g=>(zjF G rc nm N c.1 g c.2.2.1).bind fun f=>some (zc7 i true f)
  | none=>if zgG e then none else (rc nm N e).bind fun p=>some (zc7 i p.1 p.2)
def zyD(rc:Rec)(nm:Names)(N:List Str)(t:List Expr×Nat×Pos)(vs:List Expr)(e:Expr):Option Fs:=(tgG true nm N N.length (.Tuple t.1 t.2.1 t.2.2)).bind fun t=>(shE rc nm N e).bind fun f=>some (zjc t f)
def zvK(rc:Rec)(nm:Names)(N:List Str)(t:List Expr×Nat×Pos)(e:Expr):Option Fs:=match zq4 e with
 | some v=>if zvD nm t.1 then zyD rc nm N t v.1 e else (zul t.1).bind fun xy=>(zgB xy.1).bind fun x=>(zgB xy.2).bind fun y=>(zul v.1).bind fun ab =>
  if zmR nm x.1 y.1 x.2 y.2 ab.1 ab.2 then (tgI true nm N N.length x.1).bind fun i=>(tgI true nm N N.length y.1).bind fun j=>if i=j then none else (rc nm N ab.1).bind fun p=>(rc nm N ab.2).bind fun q=>some (zrW i j p.1 p.2 q.1 q.2)
  else if zok ab.1&&zok ab.2 then (tgG true nm N N.length (.Tuple t.1 t.2.1 t.2.2)).bind fun t=>(shE rc nm N e).bind fun f=>some (zjc t f) else none
 | none=>(tgG true nm N N.length (.Tuple t.1 t.2.1 t.2.2)).bind fun t=>(shE rc nm N e).bind fun f=>some (zjc t f)
def zvM(G:Genv)(rc:Rec)(nm:Names)(N:List Str)(o:Expr)(f:Str)(e:Expr):Option Fs :=
 (nmF o).bind fun x=>if !G.ob.fk G.ob.cur f then none else (shE rc nm N o).bind fun fo=>(shE rc nm N e).bind fun fe=>some (zkv G.ob.cur f fo fe)
def zvN(rc:Rec)(nm:Names)(N:List Str)(x:Str)(ix e:Expr):Option Fs :=
 if zyn ix&&!zgG e then (zbd nm N x).bind fun i=>(shE rc nm N ix).bind fun k=>(shE rc nm N e).bind fun f=>some (zpq i k f) else none
def ztM(G:Genv)(rc:Rec)(nm:Names)(N:List Str)(q:Expr×Expr×Pos)(e:Expr):Option Fs:=(zgB q.1).bind fun x=>zvN rc nm N x.1 q.2.1 e
def zqX(G:Genv)(rc:Rec)(nm:Names)(N:List Str)(tg e:Expr):Option Fs:=match zgB tg with
 | some x=>zvL G rc nm N x.1 e
 | none=>match zq4 tg with
  | some t=>zvK rc nm N t e
  | none=>match zt8 tg with
   | some a=>zvM G rc nm N a.1 a.2.1 e
   | none=>(zwq tg).bind fun q=>ztM G rc nm N q e
def zua(G:Genv)(rc:Rec)(nm:Names)(N:List Str)(tg e:Expr):Option Fs:=match zuZ G nm N tg e with
 | some f=>some f
 | none=>zqX G rc nm N tg e
structure Mc where
 x:Str
 px:Pos
 m:Str
 ap:Pos
 a:Expr
 cp:Pos
def zmW(e:Expr):Option Mc:=(zqQ e).bind fun c=>if c.2.2.1.isEmpty then (zt8 c.1).bind fun t=>(zgB t.1).bind fun x=>(zsF c.2.1).bind fun a=>some ⟨x.1,x.2,t.2.1,t.2.2,a,c.2.2.2⟩ else none
def zlE(G:Genv)(rc:Rec)(nm:Names)(N:List Str)(e:Expr):Option Fs:=match zmW e with
 | some c=>if decide (c.m = "append")&&(c.ap.endLine == c.cp.line) then (zbd nm N c.x).bind fun i=>(shE rc nm N c.a).bind fun f=>some (zhk i f)
  else if decide (c.m = "extend")&&(c.ap.endLine == c.cp.line) then (zbd nm N c.x).bind fun i=>(opE rc nm N c.a).bind fun f=>some (zhj i f) else if zgG e then none else (shE rc nm N e).map zmq
 | none=>if zgG e then none else (shE rc nm N e).map zmq
def zqC(G:Genv)(rc:Rec)(nm:Names)(N:List Str)(e:Expr):Option Fs:=match zuV G nm N e with
 | some f=>some f
 | none=>zlE G rc nm N e
def zuN(rc:Rec)(nm:Names)(N:List Str)(own:Bool)(e:Expr):Option Fs:=match own with
 | true=>(match e with
  | .Name x _=>(zbd nm N x).map zi8
  | e=>(rc nm N e).bind fun p=>if p.1 then some (zbF p.2) else none)
 | false=>(shE rc nm N e).map zbF
def rzG(G:Genv)(rc:Rec)(nm:Names)(N:List Str)(full:Bool)(a b:Option Expr):Option Fs:=if b.isNone then a.bind fun e=>(zqQ e).bind fun c=>(zgB c.1).bind fun x=>if c.2.2.1.isEmpty&&!c.2.1.isEmpty&&full&&zbm nm x.1&&G.exc x.1 then (shL rc nm N c.2.1).bind fun fs=>some (sRz x.1 fs) else none else none
def stG(G:Genv)(rc:Rec)(rs:Bool->List Stmt->Option Fs)(nm:Names)(N:List Str)(own full:Bool)(st:Stmt):Option Fs:=match st with
 | .Pass _=>some sNx
 | .Assign ts e _=>(zsF ts).bind fun tg=>zua G rc nm N tg e
 | .Expr e _=>zqC G rc nm N e
 | .Return o _=>(match o with | some e=>zuN rc nm N own e | none=>if own then none else some zpp)
 | .If c a b _=>if zbs c then (shE rc nm N c).bind fun f=>(rs full a).bind fun g=>(rs full b).bind fun h=>some (sIf f g h) else none
 | .For tg it body el _=>if full&&el.isEmpty then (zjw G rc nm N tg it).bind fun i=>(tgG true nm N N.length tg).bind fun t=>(rs full body).bind fun b=>some (zjb t i b) else none
 | .Raise a b _=>rzG G rc nm N full a b
 | _=>none
def zpI(n:Nat)(own:Bool)(nm:Names)(N:List Str):Stmt->List Nat
 | .Assign [_] e _=>zcf n nm N e
 | .Expr (.Call (.Attribute _ _ _) args [] _) _=>args.flatMap (zcf n nm N)
 | .Expr e _=>zcf n nm N e
 | .Return (some (.Name x p)) _=>if own then [] else zcf n nm N (.Name x p)
 | .Return (some e) _=>zcf n nm N e
 | .If c _ _ _=>zcf n nm N c
 | .For _ it _ _ _=>zcf n nm N it
 | .While c _ _ _=>zcf n nm N c
 | _=>[]
def blk(ds:Stmt->Option Fs):List Stmt->Option Fs
 | []=>some sNx
 | s::r=>(ds s).bind fun f=>(blk ds r).bind fun g=>some (zal f g)
def zns(G:Genv)(own:Bool):Nat->Bool->Names->List Str->Stmt->Option Fs
 | 0,_,_,_,_=>none
 | n+1,full,nm,N,st=>(stG G (zot G n) (fun fl b=>blk (zns G own n fl nm N) b) nm N own full st).map (sFz (zpI n own nm N st))
section
variable{cl:Cf}{G:Genv}{k:Nat}{rc:Rec}{X:Cx}{nm:Names}{N:List Str}{E:St->XK}{own full:Bool}
def Gd.sto(g:Gd cl G k X nm N E full):Sto' X nm true:=⟨fun _ x _=>g.fn x⟩
def zi3:∃b,swapsWith (.ListComp elt gs scope p) (some (.Name x px)) l env=pure b:=⟨_,rfl⟩
def zl2(q:tS cl E own (zjc t f) De σ H):znR (tE cl E f) (tG cl n t) De σ H:=by
 obtain ⟨B,w,ρ,S,rfl,R,q⟩:=q;refine ⟨B,w,ρ,S,rfl,R,?_⟩;unfold zjc at q
 cases hf:f ρ S with
 | bad=>rwa [hf] at q
 | exc c S1=>rw [hf] at q;exact fun w' R' F'=>q σ w' R' F'
 | ok d S1 =>
  rw [hf] at q;intro v w' R' F' h';dsimp only at q
  cases hp:t.put ρ d with
  | none=>rw [hp] at q;exact q.elim
  | some ρ'=>rw [hp] at q;exact ⟨B,w',ρ,S1,d,ρ',rfl,R',h',hp,fun σ' _ _ R2=>q σ' w' R2 F'⟩
def zsw(hk:X.env.scope.kind=.function)(hs:X.env.scope.names=nm)(h:zmR nm x y px py a b=true) :
  swappedStores [.Tuple [.Name x px,.Name y py] kt pt] (.Tuple [a,b] k2 pt2) X.env=pure (some [x,y]):=by
 unfold zmR at h;simp only [yab,ya9,ybC,ycr] at h;obtain ⟨⟨⟨⟨⟨⟨⟨h1,h2⟩,h3⟩,h4⟩,h5⟩,h6⟩,h7⟩,h8⟩:=h
 have hb:X.env.blockKind=.function:=by unfold Env.blockKind;rw [hk];rfl
 have k1:X.env.kindOf x=some .local:=by unfold Env.kindOf;rw [hs];exact h1
 have k2':X.env.kindOf y=some .local:=by unfold Env.kindOf;rw [hs];exact h2
 have st:([a,b].any fun | .Starred ..=>true | _=>false)=false:=by
  rw [yc4];intro e he
  have hp:zbi e=true:=by
   rcases yaw.mp he with z | z
   ·rw [z];exact h5
   ·rw [yaH.mp z];exact h6
  cases e<;>first | (cases hp;done) | (intro z;cases z)
 have ed:[x,y].eraseDups.length=2:=by
  have:(y == x)=false:=by rw [ybn];exact fun z=>h4 z.symm
  simp [List.eraseDups_cons,this]
 unfold swappedStores;simp only [hb,st];simp [k1,k2',h3,h7,h8,ed,show (Expr.Name x px).pos=px from rfl,show (Expr.Name y py).pos=py from rfl];intro z;exfalso
 rcases z with z | z
 ·cases a<;>first | (cases h5;done) | cases z
 ·cases b<;>first | (cases h6;done) | cases z
def znw(hs:za4 cl G k rc)(g:Gd cl G k X nm N E full)(hi:tgI true nm N N.length x=some i)(h:zjF G rc nm N elt gg scope=some f) :
  PS X (.Assign [.Name x px] (.ListComp elt [gg] scope p) pos) (tS cl E own (zc7 i true f)):=by
 obtain ⟨a1,a2,a3,a4,a5⟩:=ze2 g.gx g.sto hi;obtain ⟨b,hb⟩:=zi3 (elt:=elt) (gs:=[gg]) (scope:=scope) (p:=p) (px:=px) (x:=x) (l:=pos.line) (env:=X.env)
 cases b with
 | false=>exact zkg a2 a3 a4 (zlN hs g.gx h) hb a5
 | true =>
  obtain ⟨it,t,c,el,rfl,eg,S,i1,i2,i3,i4,i5⟩:=zfm hs g.gx h;rw [eg] at hb ⊢;refine PS.imp (zmC g.gx.calm S a2 a3 a4 i1 i3 i4 i5 hb a5 (zfF i2)) ?_;intro De σ H q;exact zov (ztL q)
def ztw{x y:Str}{px py pt pt2 p1 p2:Pos}{kt k2:Nat}{a b:Const}{ka kb:Nat}{env:PySem.Env}:swappedStores [.Tuple [.Name x px,.Name y py] kt pt] (.Tuple [.Constant a ka p1,.Constant b kb p2] k2 pt2) env=pure none:=by
 have hf:∀(c:Const) (k:Nat) (p:Pos),foldedForSure 8 (.Constant c k p)=true:=fun _ _ _=>rfl
 unfold swappedStores;simp only [ybh,List.all_nil,hf,Bool.and_self,ybU]
 split<;>first | rfl | (split<;>first | rfl | (split<;>rfl))
def zrq:swapsWithSole [.Subscript a i p] e l env=pure false:=by cases e<;>rfl
def zrv:swappedStores [.Subscript a i p] e env=pure none:=by cases e<;>rfl
def zrp:swapsWithSole [.Tuple es kk p] e l env=pure false:=by cases e<;>rfl
def zru(h:zq4 e=none):swappedStores [.Tuple es kk p] e env=pure none:=by cases e<;>first | rfl | cases h
def zrr:swapsWith e (some (.Attribute o f p)) l env=pure false:=by cases e<;>rfl
def zqW(hs:za4 cl G k rc)(g:Gd cl G k X nm N E full)(h:zvL G rc nm N x e=some f):PS X (.Assign [.Name x px] e pos) (tS cl E own f):=by
 unfold zvL at h;obtain ⟨i,h1,h⟩:=zaa h
 cases hl:lcE e with
 | some c =>
  rw [hl] at h;obtain ⟨gg,h2,h⟩:=zaa h;obtain ⟨fe,h3,h⟩:=zaa h;cases h;rw [zs1 hl,zk2 h2];exact znw hs g h1 h3
 | none =>
  rw [hl] at h;dsimp only at h;split at h
  ·cases h
  ·rename_i hc;obtain ⟨⟨o,fe⟩,h2,h⟩:=zaa h;cases h;obtain ⟨a1,a2,a3,a4,a5⟩:=ze2 g.gx g.sto h1;obtain ⟨b1,b2,_,_⟩:=hs X nm N E g.gx _ o fe h2;have sw:=zft (t:=some (.Name x px)) (l:=pos.line) (env:=X.env) (by simpa using hc)
   cases o with
   | false=>exact zrB a2 a3 a4 b2 sw a5
   | true=>exact zkg a2 a3 a4 (b1 rfl) sw a5
def zqV(hs:za4 cl G k rc)(g:Gd cl G k X nm N E full)(h:zvK rc nm N t e=some f):PS X (.Assign [.Tuple t.1 t.2.1 t.2.2] e pos) (tS cl E own f):=by
 have tupCase:swappedStores [.Tuple t.1 t.2.1 t.2.2] e X.env=pure none->((tgG true nm N N.length (.Tuple t.1 t.2.1 t.2.2)).bind fun t=>(shE rc nm N e).bind fun f=>some (zjc t f))=some f->PS X (.Assign [.Tuple t.1 t.2.1 t.2.2] e pos) (tS cl E own f):=by
  intro sw2 h;obtain ⟨t',h1,h⟩:=zaa h;obtain ⟨fe,h2,h⟩:=zaa h;cases h;exact PS.imp (zn3 (zaZ hs g.gx h2).1 (zoL g.gx g.sto h1) zrp sw2 rfl) fun _ _ _ q=>zl2 q
 unfold zvK at h
 cases hv:zq4 e with
 | none =>
  rw [hv] at h;exact tupCase (zru hv) h
 | some v =>
  rw [hv] at h;dsimp only at h;split at h
  ·rename_i hce;have ev:=zhg hv;refine tupCase ?_ h;rw [ev];exact zqM g.sc hce
  obtain ⟨xy,h1,h⟩:=zaa h;obtain ⟨x,h2,h⟩:=zaa h;obtain ⟨y,h3,h⟩:=zaa h;obtain ⟨ab,h4,h⟩:=zaa h;have ev:=zhg hv
  have et:t.1=[.Name x.1 x.2,.Name y.1 y.2]:=by rw [znO h1,zcV h2,zcV h3]
  rw [znO h4] at ev;obtain ⟨a,b⟩:=ab;dsimp only at h ev;split at h
  ·rename_i hp;obtain ⟨i,h1,h⟩:=zaa h;obtain ⟨j,h2,h⟩:=zaa h;split at h
   ·cases h
   ·rename_i hij;obtain ⟨⟨o1,f1⟩,h3,h⟩:=zaa h;obtain ⟨⟨o2,f2⟩,h4,h⟩:=zaa h;cases h;obtain ⟨_,a2,a3,_,_⟩:=ze2 g.gx g.sto h1;obtain ⟨_,_,b3,_,_⟩:=ze2 g.gx g.sto h2;obtain ⟨p1,p2,_,p4⟩:=hs X nm N E g.gx a o1 f1 h3;obtain ⟨q1,q2,_,q4⟩:=hs X nm N E g.gx b o2 f2 h4
    have hx:X.env.scope.names.lookup x.1=some .local/\X.env.scope.names.lookup y.1=some .local:=by
     unfold zmR at hp;simp only [yab,ya9] at hp;rw [g.sc];exact ⟨hp.1.1.1.1.1.1.1,hp.1.1.1.1.1.1.2⟩
    have P1:PE X a (tO cl E o1 f1):=by cases o1 with | false=>exact p2 | true=>exact p1 rfl
    have P2:PE X b (tO cl E o2 f2):=by cases o2 with | false=>exact q2 | true=>exact q1 rfl
    rw [et,ev];exact PS.imp (zsg g.gx.calm a2 a3 b3 hij hx.1 hx.2 (zaF P1 (zaF P2 zbx (zaO (zak q4))) (zaO (zak p4))) (zsw g.kind g.sc hp) rfl) fun _ _ _ q=>zmQ q
  ·split at h
   ·rename_i hc;rw [yab] at hc;refine tupCase ?_ h;rw [et,ev]
    cases a<;>first | (cases hc.1;done) | (cases b<;>first | (cases hc.2;done) | exact ztw)
   ·cases h
def zqY(hs:za4 cl G k rc)(g:Gd cl G k X nm N E full)(h:zvM G rc nm N o fl e=some f):PS X (.Assign [.Attribute o fl ap] e pos) (tS cl E own f):=by
 unfold zvM at h;obtain ⟨x,h1,hz⟩:=zaa h;have e1:=zc4 h1;clear h h1;subst e1;split at hz
 ·cases hz
 ·rename_i hf;rw [Bool.not_eq_true,Bool.not_eq_false'] at hf;obtain ⟨fo,h2,hz⟩:=zaa hz;obtain ⟨fe,h3,hz⟩:=zaa hz;cases hz;exact zo2 g.gx.same (g.gx.gok.fk _ _ hf) (zaZ hs g.gx h2).1 (zaZ hs g.gx h3).1 zrr
def zqZ(hs:za4 cl G k rc)(g:Gd cl G k X nm N E full)(h:zvN rc nm N x ix e=some f):PS X (.Assign [.Subscript (.Name x px) ix p3] e pos) (tS cl E own f):=by
 unfold zvN at h;split at h
 ·rename_i hx;rw [yab] at hx;obtain ⟨i,h1,h⟩:=zaa h;obtain ⟨fi,h2,h⟩:=zaa h;obtain ⟨fe,h3,h⟩:=zaa h;cases h;obtain ⟨s1,s2,s3,s4⟩:=g.gx.slot h1;refine zoY g.gx.u1 s1 s2 s3 s4 (zaZ hs g.gx h2).1 (zaZ hs g.gx h3).1 zrq zrv ?_
  cases ix<;>first | (intro _;rfl) | cases hx.1
 ·cases h
def zqU(hs:za4 cl G k rc)(g:Gd cl G k X nm N E full){tg e:Expr}{f:Fs}{pos:Pos}(h:zqX G rc nm N tg e=some f):PS X (.Assign [tg] e pos) (tS cl E own f):=by
 unfold zqX at h
 cases h1:zgB tg with
 | some x=>rw [h1] at h;rw [zcV h1];exact zqW hs g h
 | none =>
  rw [h1] at h
  cases h2:zq4 tg with
  | some t=>rw [h2] at h;rw [zhg h2];exact zqV hs g h
  | none =>
   rw [h2] at h
   cases h3:zt8 tg with
   | some a=>rw [h3] at h;rw [zlY h3];exact zqY hs g h
   | none =>
    rw [h3] at h;obtain ⟨q,h4,h⟩:=zaa h;rw [zoS h4];unfold ztM at h;obtain ⟨x,h6,h⟩:=zaa h;rw [zcV h6];exact zqZ hs g h
def ztK(hs:za4 cl G k rc)(g:Gd cl G k X nm N E full)(h:zua G rc nm N tg e=some f):PS X (.Assign [tg] e pos) (tS cl E own f):=by
 unfold zua at h;split at h
 ·rename_i f' ho;cases h;exact zpT g.gx ho
 ·exact zqU hs g h
def zmV(h:zmW e=some c):e=.Call (.Attribute (.Name c.x c.px) c.m c.ap) [c.a] [] c.cp:=by
 unfold zmW at h;obtain ⟨c1,h1,h⟩:=zaa h;split at h
 ·rename_i hk;obtain ⟨t,h2,h⟩:=zaa h;obtain ⟨x,h3,h⟩:=zaa h;obtain ⟨a,h4,h⟩:=zaa h;cases h;rw [ziS h1,zlY h2,zcV h3,zk2 h4,ycJ.mp hk]
 ·cases h
def znm(hs:za4 cl G k rc)(g:Gd cl G k X nm N E full){e:Expr}{f:Fs}{pos:Pos}(h:zlE G rc nm N e=some f):PS X (.Expr e pos) (tS cl E own f):=by
 unfold zlE at h
 cases hc:zmW e with
 | some c =>
  obtain ⟨x,px,m,ap,a,cp⟩:=c;obtain rfl:=zmV hc;rw [hc] at h;dsimp only at h;split at h
  ·rename_i hm;rw [yab] at hm;have em:=yao hm.1;subst em;obtain ⟨i,h1,h⟩:=zaa h;obtain ⟨fe,h2,h⟩:=zaa h;cases h;obtain ⟨s1,s2,s3,s4⟩:=g.gx.slot h1;obtain ⟨a1,_,a3⟩:=zaZ hs g.gx h2;exact zrC s1 s2 s3 s4 a1 (zak a3) hm.2
  split at h
  ·rename_i hm;rw [yab] at hm;have em:=yao hm.1;subst em;obtain ⟨i,h1,h⟩:=zaa h;obtain ⟨fe,h2,h⟩:=zaa h;cases h;obtain ⟨s1,s2,s3,s4⟩:=g.gx.slot h1;obtain ⟨a1,a3⟩:=zb0 hs g.gx h2;exact zo5 s1 s2 s3 s4 a1 (zak a3) hm.2
  split at h
  ·cases h
  ·rename_i hc;obtain ⟨fe,h2,h⟩:=map_some h;subst h;exact znS (zaZ hs g.gx h2).1 (zft (by simpa using hc))
 | none =>
  rw [hc] at h;dsimp only at h;split at h
  ·cases h
  ·rename_i hc;obtain ⟨fe,h2,h⟩:=map_some h;subst h;exact znS (zaZ hs g.gx h2).1 (zft (by simpa using hc))
def zqB(hs:za4 cl G k rc)(g:Gd cl G k X nm N E full)(h:zqC G rc nm N e=some f):PS X (.Expr e pos) (tS cl E own f):=by
 unfold zqC at h;split at h
 ·rename_i f' ho;cases h;exact zpP g.gx ho
 ·exact znm hs g h
def zr1(hs:za4 cl G k rc)(g:Gd cl G k X nm N E full)(h:zuN rc nm N own e=some f):PS X (.Return (some e) pos) (tS cl E own f):=by
 unfold zuN at h;split at h
 ·split at h
  ·obtain ⟨i,h1,h⟩:=map_some h;subst h;obtain ⟨s1,s2,s3,s4⟩:=g.gx.slot h1;exact zoV s1 s2 s3 s4
  ·obtain ⟨⟨o,fe⟩,h1,h⟩:=zaa h;dsimp only at h;split at h
   ·rename_i ho;cases h;exact zoW ((hs X nm N E g.gx _ o fe h1).1 ho)
   ·cases h
 ·obtain ⟨fe,h2,h⟩:=map_some h;subst h;exact zry (zaZ hs g.gx h2).1
def zuA(hs:za4 cl G k rc){rs:Bool->List Stmt->Option Fs}(hr:∀(fl:Bool) (X:Cx) (E:St->XK),Gd cl G k X nm N E fl->∀b f,rs fl b=some f->PSs X b (tS cl E own f))(g:Gd cl G k X nm N E full){st:Stmt}{f:Fs}(h:stG G rc rs nm N own full st=some f):PS X st (tS cl E own f):=by
 cases st with
 | Pass p=>cases h;exact zo1
 | Assign ts e p =>
  obtain ⟨tg,h1,h⟩:=zaa (show ((zsF ts).bind fun tg=>zua G rc nm N tg e)=some f from h);obtain rfl:=zk2 h1;exact ztK hs g h
 | Expr e p=>exact zqB hs g h
 | Return o p =>
  cases o with
  | some e=>exact zr1 hs g h
  | none =>
   have h':(if own then none else some zpp)=some f:=h;split at h'
   ·cases h'
   ·rename_i ho;cases h'
    have:own=false:=by simpa using ho
    subst this;exact zoX
 | If c a b p =>
  have h':(if zbs c then (shE rc nm N c).bind fun f=>(rs full a).bind fun g=>(rs full b).bind fun h=>some (sIf f g h) else none)=some f:=h;split at h'
  ·rename_i ht;obtain ⟨fc,h1,h⟩:=zaa h';obtain ⟨fa,h2,h⟩:=zaa h;obtain ⟨fb,h3,h⟩:=zaa h;cases h;exact zuB ((zaZ hs g.gx h1).2.1 ht) (hr full X E g a fa h2) (hr full X E g b fb h3)
  ·cases h'
 | For tg it body el p =>
  have h':(if full&&el.isEmpty then (zjw G rc nm N tg it).bind fun i=>(tgG true nm N N.length tg).bind fun t=>(rs full body).bind fun b=>some (zjb t i b) else none)=some f:=h;split at h'
  ·rename_i hf;rw [yab] at hf;obtain rfl:=ycJ.mp hf.2;obtain ⟨it,h1,h⟩:=zaa h';obtain ⟨t,h2,h⟩:=zaa h;obtain ⟨fb,h3,h⟩:=zaa h;cases h;obtain ⟨i1,i2⟩:=zln hs g.gx (tg:=_) h1;exact zrA (g.own hf.1) g.gx.calm i1 (zoL g.gx g.sto h2) (hr full X E g _ fb h3) (zfF i2)
  ·cases h'
 | Raise ea eb p =>
  have h':rzG G rc nm N full ea eb=some f:=h;unfold rzG at h';split at h'
  ·rename_i hb;obtain rfl:=Option.isNone_iff_eq_none.mp hb;obtain ⟨e0,e1,hz⟩:=zaa h';obtain ⟨c0,h1,hy⟩:=zaa hz;obtain ⟨⟨c,p⟩,h2,hx⟩:=zaa hy;have e2:=ziS h1;obtain ⟨fn,args,kws,cp⟩:=c0;have e3:fn=.Name c p:=zcV h2;clear h h' hz hy h1 h2;subst e1;subst e2;subst e3;dsimp only at hx ⊢;split at hx
   ·rename_i hf;simp only [yab] at hf;obtain ⟨⟨⟨⟨k0,a0⟩,f0⟩,g0⟩,x0⟩:=hf;obtain rfl:=ycJ.mp k0
    cases args with
    | nil=>cases a0
    | cons e es =>
    obtain ⟨fs,h1,h⟩:=zaa hx;cases h;obtain ⟨g1,g2,_⟩:=g.gx.glob g0;obtain ⟨m,z⟩:=g.gx.gok.exc c x0;obtain ⟨a1,a2,_⟩:=zem hs g.gx h1;rw [ybh,yab] at a2;refine PS.imp (zkN (g.raises f0) g.gx.calm g1 m z a1 (zaO a2.1) (zbh a2.2) g2) ?_;rintro De σ H ⟨B,w,ρ,S,rfl,R,q⟩;refine ⟨B,w,ρ,S,rfl,R,?_⟩;unfold sRz at q
    cases hv:zai fs ρ S with
    | bad=>rwa [hv] at q
    | exc c S1=>rw [hv] at q;exact fun w' R' F'=>q σ w' R' F'
    | ok ds S1 =>
     rw [hv] at q;dsimp only at q
     cases hz:zaE ds.length with
     | false=>rw [hz,if_neg (by decide)] at q;exact q.elim
     | true =>
      rw [hz,if_pos rfl] at q;exact fun vs w' R' F' sh=>⟨by rw [sh.length];exact zaK hz,q σ w' R' F'⟩
   ·cases hx
  ·cases h'
 | _=>cases h
theorem ziT(hd:∀st f,ds st=some f->PS X st (tS cl E own f)):∀{b:List Stmt} {f:Fs},blk ds b=some f->PSs X b (tS cl E own f)
 | [],f,h=>by cases h;exact zrz
 | s::r,f,h=>by
  unfold blk at h;obtain ⟨f1,h1,h⟩:=zaa h;obtain ⟨f2,h2,h⟩:=zaa h;cases h;exact zo6 (hd s f1 h1) (ziT hd h2)
theorem zfY:∀(n:Nat) (fl:Bool) (X:Cx) (E:St->XK),Gd cl G k X nm N E fl->∀st f,zns G own n fl nm N st=some f->PS X st (tS cl E own f)
 | 0,_,_,_,_,_,_,h=>by cases h
 | n+1,fl,X,E,g,st,f,h=>by
  unfold zns at h;obtain ⟨f1,h1,h⟩:=map_some h;subst h;exact zuC _ (zuA (zgU n) (fun fl X E g b f hb=>ziT (fun st f hst=>zfY n fl X E g st f hst) hb) g h1)
end
noncomputable def zbE(nN:Nat)(own:Bool)(fs:Fs)(ds:List D)(S:Sto):Out D:=match fs (ds.map (fun d=>some (false,d))++List.replicate (nN-ds.length) none) S with
 | .rt d S'=>.ok d S'
 | .nx _ S'=>if own then .bad else .ok .non S'
 | .ex c _ S'=>.exc c S'
 | _=>.bad
def zgV(G:Genv)(own:Bool)(N:List Str)(st:Stmt):Option Fs:=blk (zns G own 40 true (zad st).names N) (zaM st)
theorem zqt{P:Program}{wo:PySem.World}{K:PySem.W.Frag}{mg:Z6}{base:Heap}{cl:Cf}{G:Genv}{k:Nat}{x qual:Str}{st:Stmt}{f:Addr}{fd:FuncData}{N ps:List Str}{own:Bool}{fs:Fs}(F:Fun K x qual st f fd)(S:FnScope N ps (zad st))(hG:GOk cl G P wo K mg base k)
  (hk:K=cl.K) (hP:P=cl.P) (hW:wo=cl.wo) (hd:zgV G own N st=some fs) (hc:autoParam (G.cod=none) yAW):FnOk P wo K mg base (CXE P wo) (k+1) f fd ps (zgg cl ps.length own (zbE N.length own fs)):=by
 obtain ⟨oc,od,kV,doc,pm,an,cdv,ct,osl,rfl,lk,hcd⟩:=F.ex;refine ztk lk hcd S (fun vs H Q E h=>h.1) fun A outer s H vs Q E hr hsp=>?_
 refine ⟨tS cl (fun _=>E) own fs,?_,?_⟩
 ·have g:Gd cl G k (zhK (CXE P wo) P wo K mg base N qual (zad st) f cdv A outer s H E) (zad st).names N (fun _=>E) true :=
   ⟨⟨hG,hr,rfl,fun pins σ H1 s1 e s' I q=>zmP pins σ H1 s1 e s' I q,rfl,hk,hP,hW,S.nd,fun x kd h=>⟨kd,h,.inl rfl⟩,(fun x h=>h),(fun c h=>by rw [hc] at h;cases h),(fun x h=>rfl)⟩,fun _=>rfl,S.kind,rfl,fun _=>PassesOwn.leaving,fun _ C pins σ H1 s1 e h' vs I mk q=>zkJ C pins σ H1 s1 e h' vs I mk q,rfl,rfl⟩
  exact ziT (fun st f hst=>zfY 40 true _ _ g st f hst) hd
 ·obtain ⟨hl,B,w,ds,S0,rfl,W,sh,q⟩:=hsp;have hdl:ds.length=vs.length:=sh.length.symm;refine ⟨B,w,ds.map (fun d=>some (false,d))++List.replicate (N.length-ds.length) none,S0,rfl,⟨W,?_,fun i o d hi=>?_⟩,?_⟩
  ·unfold L2.zc6;rw [yar,yar,yae,yae,yaJ,yaJ,hdl]
  ·by_cases hlt:i<ds.length
   ·rw [yaE (by rw [yae];exact hlt),yaq] at hi
    cases hdi:ds[i]? with
    | none=>rw [hdi] at hi;cases hi
    | some d' =>
     rw [hdi] at hi;cases hi;obtain ⟨v,e1,e2⟩:=sh.at hdi;refine ⟨v,?_,e2⟩;unfold L2.zc6;rw [yaE (by rw [yae];omega),yaq,e1];rfl
   ·rw [yaA (by rw [yae];omega),yby] at hi
    split at hi<;>cases hi
  ·unfold zbE at q
   cases hf:fs (ds.map (fun d=>some (false,d))++List.replicate (N.length-ds.length) none) S0 with
   | bad=>rwa [hf] at q
   | bk _ _=>rw [hf] at q;exact q.elim
   | ct _ _=>rw [hf] at q;exact q.elim
   | rt d S'=>rwa [hf] at q
   | ex c ρ' S'=>rw [hf] at q;exact fun σ' w' R' F'=>q w' R'.wd F'
   | nx ρ' S' =>
    rw [hf] at q;dsimp only at q
    cases own with
    | true=>exact q.elim
    | false=>exact fun σ' w' R' F'=>q .non w' R'.wd F' .non
noncomputable def inC(j:Nat):Stmt->Stmt | .ClassDef _ _ _ b ..=>b.getD j (.Pass ⟨0,0,0,0⟩) | s=>s
end S2
namespace L2
open PySem PySem.Spec PyProof.Rows
noncomputable def znK(tabs:List (Addr×Addr))(H:Hp):Prop:=∀b,H b=none\/(∃o xs,H b=some (.frz o (.lst xs)))\/(H b=some (.tbl #[])/\b∈tabs.map (·.2))
def zlc{P:Program}{w:World}{K:PySem.W.Frag}{mg mb:Z6}{CX:CXT}{k:Nat}{fa a:Addr}{fd:FuncData}{x:Str}{sp:Sp}{s₁:Shared}{vs:List Value}{ns:List Int}{tabs:List (Addr×Addr)}
  (KX:K.In s₁.heap) (hns:s₁.heap.Ns mainGlobals mg) (hb:s₁.heap.Ns builtinsNs mb) (hbb:∀x:Str,x ≠ "__name__" -> mb x=bootBuiltins x) (hlim:s₁.heap.NoLimit) (hg:s₁.gens=#[])
  (ha:s₁.heap.get? a=some { cls:=.type "list",data:=.seq vs.toArray }) (hi:IntsAre vs ns) (hl:ns.length<=sizeLine) (hr:Room k callerA)
  (hT:PySem.W.TabsAt tabs s₁.heap) (hnt:PySem.W.noTabs K=true) (hbm:znM mg s₁.heap)
  (F:∀base:Heap,K.In base->base.Ns mainGlobals mg->znM mg base->(∀q∈tabs,PySem.W.CodeHd base q.1 q.2)->FnOk P w K mg base CX k fa fd [x] sp) (hbind:∀(s:Shared) (u:Value),BindsTo s fd ⟨[u],[]⟩ [(x,u)])
  (hsp:∀H:Hp,znK tabs H->(∀q∈tabs,H q.2=some (.tbl #[]))->(∀q∈tabs,q.2≠a)->SqL K H a (ns.map V.int)->sp [.ref a] H (fun v _=>v=.bl true) fun _ _ _=>False)
  (hCX:∀H e s',CX [] H s₁ (fun _ _ _=>False) e s'->False) :
  codeAny (model P w) callerA (.call (.ref fa) ⟨[.ref a],[]⟩) (fun r s'=>r=.ok (.ret (.bool true))/\OldK s₁.heap s'.heap/\s'.os=s₁.os/\AllBare s'.gens) s₁:=by
 have rv:=zga hi;have lenV:=hi.length
 have tP:∀b∈tabs.map (·.2),s₁.heap.get? b=some (PySem.W.tabObj #[]):=fun b hb=>by
  obtain ⟨q,hq,rfl⟩:=yau.mp hb;exact (hT q hq).2
 have na:a ∉ tabs.map (·.2):=fun z=>by have e:=tP a z;rw [ha] at e;cases e
 have tK:∀b∈tabs.map (·.2),K.lookup b=none:=fun b hb=>by
  cases e:K.lookup b with
  | none=>rfl
  | some o =>
   have e1:=KX b o e;rw [tP b hb] at e1;cases e1;have h2:=ybl.mp hnt _ (PySem.W.mem_of_lookupK e);exact absurd (show false=true from h2) yaP
 have core:∀H:Hp,znK tabs H->(∀q∈tabs,H q.2=some (.tbl #[]))->SqL K H a (ns.map V.int)->HOk P w H s₁.heap->(∀b,H b≠none->b=a\/b∈tabs.map (·.2))->(H a≠none->K.lookup a=none) →
   codeAny (model P w) callerA (.call (.ref fa) ⟨[.ref a],[]⟩) (fun r s'=>r=.ok (.ret (.bool true))/\OldK s₁.heap s'.heap/\s'.os=s₁.os/\AllBare s'.gens) s₁:=by
  intro H hO hTb hS hok hA hK;have zcn:∀{b:Addr} {o:Obj},s₁.heap.get? b=some o->H b=none->(zlv s₁.heap H).get? b=some o:=fun e n=>znd e n
  have noX:∀{b:Addr} {o:Obj},s₁.heap.get? b=some o->(∀its n,o.data≠.seq its n)->o≠PySem.W.tabObj #[]->H b=none:=fun {b o} e d d2=>by
   cases q:H b with
   | none=>rfl
   | some u =>
    rcases hA b (by rw [q];simp) with e' | e'
    ·subst e';rw [ha] at e;cases e;exact absurd rfl (d _ _)
    ·rw [tP b e'] at e;cases e;exact absurd rfl d2
  have noA:∀{b:Addr} {o:Obj} {es:Array DictEntry} {ep:Nat},s₁.heap.get? b=some o->o.data=.dict es ep->H b=none:=fun {b o es ep} e d=>noX e (fun _ _ z=>by rw [d] at z;cases z) (fun z=>by rw [z] at d;cases d)
  have nsK:∀{b:Addr} {m:Z6},s₁.heap.Ns b m->(zlv s₁.heap H).Ns b m:=fun {b m} ⟨o,es,ep,e,d,r⟩=>⟨o,es,ep,zcn e (noA e d),d,r⟩
  have hKb:K.In (zlv s₁.heap H):=fun b o e=>zcn (KX b o e) (by
   cases q:H b with
   | none=>rfl
   | some u =>
    rcases hA b (by rw [q];simp) with e' | e'
    ·subst e';rw [hK (by rw [q];simp)] at e;cases e
    ·rw [tK b e'] at e;cases e)
  have hBm:znM mg (zlv s₁.heap H):=by
   obtain ⟨bm,ob,b1,b2,b3,b4,b5,b6⟩:=hbm;exact ⟨bm,ob,b1,b2,zcn b3 (noX b3 (fun _ _ z=>by rw [b6] at z;cases z) (fun z=>by rw [z] at b6;cases b6)),b4,b5,b6⟩
  have hCd:∀q∈tabs,PySem.W.CodeHd (zlv s₁.heap H) q.1 q.2:=fun q hq=>by
   obtain ⟨o,us,file,tf,flags,tg,inF,text,tt,e,r1,r2,r⟩:=(hT q hq).1;exact ⟨o,us,file,tf,flags,tg,inF,text,tt,zcn e (noX e (fun _ _ z=>by rw [r2] at z;cases z) (fun z=>by rw [z] at r1;cases r1)),r1,r2,r⟩
  have hM:Mod K mg (zlv s₁.heap H):=⟨hKb,nsK hns,⟨mb,nsK hb,hbb⟩,let ⟨mc,h1,h2⟩:=hlim;⟨mc,nsK h1,h2⟩⟩;have e0:Env0 P w K mg (zlv s₁.heap H) callerA [] s₁ H:=⟨rfl,hM,fun b o e=>zpY e,Nat.le_of_eq (zlu _ _),trivial,fun b hb=>absurd (show b∈([]:List Addr) from hb) (by simp),hok,.of_eq hg⟩;refine ybK ((F _ hKb (nsK hns) hBm hCd).run callerA [] s₁ H ⟨[.ref a],[]⟩ [.ref a] [.ref a] _ _ hr e0 (hbind s₁ (.ref a)) (.cons rfl .nil) (hsp H hO hTb (fun q hq z=>na (z ▸ ycX hq)) hS)) fun r s' h=>?_
  cases r with
  | error e=>exact (hCX H e s' h).elim
  | ok fl =>
   cases fl with
   | next=>exact False.elim h
   | brk=>exact False.elim h
   | cont=>exact False.elim h
   | ret u =>
    obtain ⟨v,H',os,bare,un,hok',r',q⟩:=h;have q':v=.bl true:=q;subst q';obtain rfl:u=Value.bool true:=r';refine ⟨rfl,⟨fun b o e=>?_,fun b o e=>un.there b o e (by simp)⟩,os,bare⟩
    cases q:H b with
    | none=>exact .inl (un.keep b o e q (by intro z;exact absurd (show b∈([]:List Addr) from z) (by simp)) (by simp))
    | some u =>
     rcases hO b with z | ⟨ob,xs,z⟩ | ⟨z,hb⟩
     ·rw [q] at z;cases z
     ·have z2:=un.frzs b ob _ z;obtain ⟨e1,_⟩:=hok b _ z;obtain ⟨e2,_⟩:=hok' b _ z2;rw [e] at e1;cases e1;exact .inl e2
     ·obtain ⟨more,z2⟩:=un.tbls b _ z;have e2:s'.heap.get? b=some (PySem.W.tabObj (#[]++more)):=hok' b _ z2;have e1:=tP b hb;rw [e] at e1;cases e1;obtain ⟨p,hp,rfl⟩:=yau.mp hb;exact .inr (.inl ⟨((hT p hp).1.tab (hT p hp).2).isCodeTable,rfl,#[],more,rfl,e2⟩)
 have hTO:∀(H0:Hp),HOk P w H0 s₁.heap->(∀b,H0 b≠none->b=a)->HOk P w (fun b=>if b∈tabs.map (·.2) then some (.tbl #[]) else H0 b) s₁.heap:=fun H0 h0 hA b u q=>by
  have q':(if b∈tabs.map (·.2) then some (HO.tbl #[]) else H0 b)=some u:=q;split at q'
  ·rename_i hb;cases q';exact tP b hb
  ·refine (h0 b u q').stay (fun c v _ r=>r) (fun c r=>?_) fun c xs r=>?_
   ·show (if c∈tabs.map (·.2) then _ else H0 c)=_;rw [if_neg (fun z=>na (hA c (by rw [r];simp) ▸ z))];exact r
   ·show (if c∈tabs.map (·.2) then _ else H0 c)=_;rw [if_neg (fun z=>na (hA c (by rw [r];simp) ▸ z))];exact r
 cases hk:K.lookup a with
 | some o =>
  have e:=KX a o hk;rw [ha] at e;cases e;refine core (fun b=>if b∈tabs.map (·.2) then some (.tbl #[]) else none) (fun b=>?_) (fun q hq=>if_pos (ycX hq)) (.inr ⟨_,vs.toArray,_,hk,rfl,rfl,rfl,by rw [yai,lenV];exact hl,by simpa using rv⟩) (hTO (fun _=>none) (fun b u z=>by have z':(none:Option HO)=some u:=z;cases z') fun b z=>absurd rfl z) (fun b z=>?_) fun z=>absurd (if_neg na) z
  ·by_cases hb:b∈tabs.map (·.2)
   ·exact .inr (.inr ⟨if_pos hb,hb⟩)
   ·exact .inl (if_neg hb)
  ·by_cases hb:b∈tabs.map (·.2)
   ·exact .inr hb
   ·exact absurd (if_neg hb) z
 | none =>
  have h0:HOk P w (fun b=>if b=a then some (.frz { cls:=.type "list",data:=.seq vs.toArray } (.lst (ns.map V.int))) else none) s₁.heap:=fun b u z=>by
   by_cases hb:b=a
   ·have z':=(if_pos hb).symm.trans z;cases z';subst hb;exact ⟨ha,by rw [yae];exact hl,vs,_,rv,ha⟩
   ·have z':=(if_neg hb).symm.trans z;cases z'
  refine core (fun b=>if b∈tabs.map (·.2) then some (.tbl #[]) else if b=a then some (.frz { cls:=.type "list",data:=.seq vs.toArray } (.lst (ns.map V.int))) else none) (fun b=>?_) (fun q hq=>if_pos (ycX hq)) (.inl (.inr ⟨{ cls:=.type "list",data:=.seq vs.toArray },(if_neg na).trans (if_pos rfl)⟩)) (hTO _ h0 fun b z=>?_) (fun b z=>?_) fun _=>hk
  ·by_cases hb:b∈tabs.map (·.2)
   ·exact .inr (.inr ⟨if_pos hb,hb⟩)
   ·by_cases hb2:b=a
    ·exact .inr (.inl ⟨_,_,(if_neg hb).trans (if_pos hb2)⟩)
    ·exact .inl ((if_neg hb).trans (if_neg hb2))
  ·by_cases hb:b=a
   ·exact hb
   ·exact absurd (if_neg hb) z
  ·by_cases hb:b∈tabs.map (·.2)
   ·exact .inr hb
   ·by_cases hb2:b=a
    ·exact .inl hb2
    ·exact absurd ((if_neg hb).trans (if_neg hb2)) z
def zmc{l:PySem.W.OpenLaw}{n k:Nat}{q:Program}{loose:List Str}{XP:(Str->Option Value)->Heap->Prop}{YP:World->Heap->Prop}{d:DefRec}{K:Params->PySem.W.Frag}{CX:World->CXT}{sp:World->Sp}{x:Str}{tabs:List (Addr×Addr)}
  (hn:l.most=some n) (hn2:n<=sizeLine) (hdf:d.params.defaults=[]) (hr:Room k callerA)
  (hY:∀(w:World) (h:Heap),YP w h->(K w.params).In h) (hnt:∀w:World,PySem.W.noTabs (K w.params)=true)
  (hT:∀(w:World) (mg mb:Z6) (mean:ExcName->Option Value) (h:Heap),(K w.params).In h->Top q (PySem.W.looseW q loose) mean mg mb h->PySem.W.TabsAt tabs h)
  (F:∀(w:World) (mg:Z6) (fa:Addr) (h:Heap),(K w.params).In h->h.Ns mainGlobals mg->mg d.name=some (.ref fa) →
   ∃fd:FuncData,(∀(s:Shared) (u:Value),BindsTo s fd ⟨[u],[]⟩ [(x,u)]) ∧
    ∀base:Heap,(K w.params).In base->base.Ns mainGlobals mg->znM mg base->(∀q∈tabs,PySem.W.CodeHd base q.1 q.2)->FnOk l.prog w (K w.params) mg base (CX w) k fa fd [x] (sp w))
  (hsp:∀(w:World) (H:Hp) (a:Addr) (ns:List Int),ns.length<=n->znK tabs H->(∀q∈tabs,H q.2=some (.tbl #[]))->(∀q∈tabs,q.2≠a)->SqL (K w.params) H a (ns.map V.int)->sp w [.ref a] H (fun v _=>v=.bl true) fun _ _ _=>False)
  (hCX:∀(w:World) (H:Hp) (s:Shared) (e:Value) (s':Shared),CX w [] H s (fun _ _ _=>False) e s'->False) :
  PySem.W.WalkO q loose XP YP l.row.toRowW d [] (fun f vs=>PySem.call f vs):=by
 refine Att.zhP hn hdf fun w s₀ s₁ mg mb fa o pm cd doc a vs ns G Y ho hd hcd hmg hobj hints hlen hg=>?_
 have KX:=hY w _ Y;obtain ⟨fd,hb,hF⟩:=F w mg fa _ KX G.T.g hmg;exact zlc KX G.T.g G.T.b G.T.builtins G.T.nolimit hg hobj hints (yam hlen hn2) hr (hT w mg mb _ _ KX G.T) (hnt w) G.T.bmain hF hb (fun H hO hTb hne hS=>hsp w H a ns hlen hO hTb hne hS) fun H e s'=>hCX w H s₁ e s'
end L2
namespace S2
open PySem PySem.Spec PyProof.Rows L2
structure Tab where
 con:List (Str×D)
 blt:List Str
 exc:List Str
 und:List (Str×Str)
 rz:List Str
 fk:List (Str×Str)
 df:List Str
 ds:List Str
noncomputable def zvl(rz exc:List Str)(c C:Str):Option Bool:=if rz.contains c then (if C = "ValueError" then some true else if exc.contains C then some (decide (C=c)||decide (C = "FloorError")) else none) else none
noncomputable def zwj(l:List (Str×Str))(c C:Str):Bool:=l.contains (c,C)
structure Fn3 where
 cur:Str
 fs:List (Str×FnI)
 ms:List (Str×Str×FnI)
 ks:List (Str×List D×FnI)
def Gn(T:Tab)(F:Fn3):Genv:=⟨fun x=>T.con.lookup x,fun x=>F.fs.lookup x,fun x=>T.blt.contains x,fun x=>T.exc.contains x,zwj T.und,zvl T.rz T.exc,⟨F.cur,zwj T.fk,fun f=>T.df.contains f,fun m=>F.ms.lookup m,fun c=>F.ks.lookup c⟩,fun x=>T.ds.contains x,fun _=>none,none⟩
noncomputable def Fn3.fn(F:Fn3)(x:Str)(fi:FnI):Fn3:=⟨F.cur,(x,fi)::F.fs,F.ms,F.ks⟩
noncomputable def Fn3.mt(F:Fn3)(m c:Str)(fi:FnI):Fn3:=⟨F.cur,F.fs,(m,c,fi)::F.ms,F.ks⟩
noncomputable def Fn3.cls(F:Fn3)(c:Str)(dds:List D)(fi:FnI):Fn3:=⟨F.cur,F.fs,F.ms,(c,dds,fi)::F.ks⟩
noncomputable def Fn3.at(F:Fn3)(c:Str):Fn3:=⟨c,F.fs,F.ms,F.ks⟩
section
variable{cl:Cf}{T:Tab}{P:Program}{wo:PySem.World}{K:PySem.W.Frag}{mg:Z6}{base:Heap}{k:Nat}{fs:Fn3}
def zbW{α:Type}{a:α}{l:List (Str×α)}{b:α}(h:((x,a)::l).lookup y=some b):(y=x/\b=a)\/l.lookup y=some b:=by
 rw [yaD] at h
 cases e:y == x with
 | true=>rw [e] at h;cases h;exact .inl ⟨eq_of_beq e,rfl⟩
 | false=>rw [e] at h;exact .inr h
def zfj{α:Type}{p:α->Prop}:∀x∈([]:List α),p x:=fun _ h=>nomatch h
def zbj{α:Type}{p:α->Prop}{a:α}{l:List α}(h:p a)(t:∀x∈l,p x):∀x∈a::l,p x:=fun x hx=>(yaw.mp hx).elim (fun e=>e ▸ h) (t x)
theorem zgC{α:Type}{a:α}:∀{l:List (Str×α)},l.lookup x=some a->(x,a)∈l
 | [],h=>by cases h
 | (y,b)::l,h=>by
  rcases zbW h with ⟨rfl,rfl⟩ | h
  ·exact yav
  ·exact yan _ (zgC h)
noncomputable def zvP(K:PySem.W.Frag)(cl:Cf)(exc:List Str)(c:Str):Prop:=PySem.W.ExcCls K (cl c)/\PySem.W.kitOne K (.ref (cl c)) (.type "ValueError")=some true/\∀C∈exc,PySem.W.kitOne K (.ref (cl c)) (.ref (cl C))=some (decide (C=c)||decide (C = "FloorError"))
def zyt(hc:∀p∈T.con,∃v u,mg p.1=some u/\zaL v u/\∀w,Shd cl w v p.2)(hb:∀x∈T.blt,mg x=none)(he:∀c∈T.exc,mg c=some (.ref (cl c))/\PySem.W.excIn K (cl c) bmV "ValueError.__new__" = true)(hu:∀p∈T.und,L2.ztN K (cl p.1) (cl p.2))(hx:∀c∈T.rz,zvP K cl T.exc c)(hfk:∀p∈T.fk,Cls cl.K (cl p.1)/\zcd cl.K (cl p.1) p.2):GOk cl (Gn T ⟨"",[],[],[]⟩) P wo K mg base 0 where
 fk:=fun c f h=>hfk (c,f) (by simpa using (show T.fk.contains (c,f)=true from h))
 mt:=fun m c fi h=>by cases h
 mks:=fun c dds fi h=>by cases h
 tl:=fun _ _ _ h=>by cases h
 con:=fun x d h=>hc (x,d) (zgC h)
 fn:=fun x fi h=>by cases h
 blt:=fun x h=>hb x (by simpa using (show T.blt.contains x=true from h))
 exc:=fun c h=>he c (by simpa using (show T.exc.contains c=true from h))
 und:=fun c C h=>hu (c,C) (by simpa using (show T.und.contains (c,C)=true from h))
 isx:=fun c C b h=>by
  have h':zvl T.rz T.exc c C=some b:=h;unfold zvl at h';split at h'
  ·rename_i hc;obtain ⟨x1,x2,x3⟩:=hx c (by simpa using hc);refine ⟨x1,?_⟩;unfold ztA;split at h'
   ·rename_i hC;cases h';rw [if_pos hC];exact x2
   ·rename_i hC;rw [if_neg hC];split at h'
    ·rename_i hm;cases h';exact x3 C (by simpa using hm)
    ·cases h'
  ·cases h'
def GOk.add(g:GOk cl (Gn T fs) P wo K mg base k)(m:mg x=some (.ref f))(kp:PySem.W.keepIn K (.ref f)=true)(b:zcs K fd ps [])(F:FnOk P wo K mg base (CXE P wo) (k+1) f fd ps (zgg cl fi.ar fi.own fi.run)) :
  GOk cl (Gn T (fs.fn x fi)) P wo K mg base (k+1) where
 con:=g.con
 fn:=fun y fj h=>by
  rcases zbW h with ⟨rfl,rfl⟩ | h
  ·exact ⟨f,fd,ps,m,kp,b,F⟩
  ·obtain ⟨f',fd',ps',h1,h2,h3,h4⟩:=g.fn y fj h;exact ⟨f',fd',ps',h1,h2,h3,h4.mono (ybE _)⟩
 blt:=g.blt
 exc:=g.exc
 und:=g.und
 isx:=g.isx
 fk:=g.fk
 tl:=fun _ _ _ h=>by cases h
 mt:=fun m c fi h=>by
  obtain ⟨f',fd',ps',h1,h2,h3,h4⟩:=g.mt m c fi h;exact ⟨f',fd',ps',h1,h2,h3,h4.mono (ybE _)⟩
 mks:=fun c dds fi h=>by
  obtain ⟨f',fd',ps',dvs,ds,k',hk,z⟩:=g.mks c dds fi h;exact ⟨f',fd',ps',dvs,ds,k',Nat.le_succ_of_le hk,z⟩
theorem GOk.at(g:GOk cl (Gn T fs) P wo K mg base k)(c:Str):GOk cl (Gn T (fs.at c)) P wo K mg base k:=⟨g.con,g.fn,g.blt,g.exc,g.und,g.isx,g.fk,g.mt,g.mks,fun _ _ _ h=>by cases h⟩
def GOk.up(g:GOk cl (Gn T fs) P wo K mg base k)(hk:k<=k'):GOk cl (Gn T fs) P wo K mg base k' where
 con:=g.con
 fn:=fun y fj h=>by
  obtain ⟨f',fd',ps',h1,h2,h3,h4⟩:=g.fn y fj h;exact ⟨f',fd',ps',h1,h2,h3,h4.mono hk⟩
 blt:=g.blt
 exc:=g.exc
 und:=g.und
 isx:=g.isx
 fk:=g.fk
 tl:=fun _ _ _ h=>by cases h
 mt:=fun m c fi h=>by
  obtain ⟨f',fd',ps',h1,h2,h3,h4⟩:=g.mt m c fi h;exact ⟨f',fd',ps',h1,h2,h3,h4.mono hk⟩
 mks:=fun c dds fi h=>by
  obtain ⟨f',fd',ps',dvs,ds,j,hj,z⟩:=g.mks c dds fi h;exact ⟨f',fd',ps',dvs,ds,j,yam hj hk,z⟩
def GOk.addM(g:GOk cl (Gn T fs) P wo K mg base k)(cc:Cls K (cl c))(hm:Meth K (cl c) m f)(b:zcs K fd ps [])(F:FnOk P wo K mg base (CXE P wo) k f fd ps (zgg cl fi.ar fi.own fi.run)) :
  GOk cl (Gn T (fs.mt m c fi)) P wo K mg base k where
 con:=g.con
 fn:=g.fn
 blt:=g.blt
 exc:=g.exc
 und:=g.und
 isx:=g.isx
 fk:=g.fk
 tl:=fun _ _ _ h=>by cases h
 mt:=fun m' c' fi' h=>by
  rcases zbW h with ⟨rfl,e⟩ | h
  ·cases e;exact ⟨f,fd,ps,cc,hm,b,F⟩
  ·exact g.mt m' c' fi' h
 mks:=g.mks
def GOk.addK(g:GOk cl (Gn T fs) P wo K mg base k)(hk:k'+1<=k)(hm:mg c=some (.ref (cl c)))(M:Mk K (cl c) f)(b0:zcs K fd ps [])(bD:zcs K fd ps ds)(vd:Vals dvs ds)(sd:∀w,Shds cl w dvs dds)(F:FnOk P wo K mg base (CXE P wo) k' f fd ps (zgg cl fi.ar false fi.run)) :
  GOk cl (Gn T (fs.cls c dds fi)) P wo K mg base k where
 con:=g.con
 fn:=g.fn
 blt:=g.blt
 exc:=g.exc
 und:=g.und
 isx:=g.isx
 fk:=g.fk
 tl:=fun _ _ _ h=>by cases h
 mt:=g.mt
 mks:=fun c' dds' fi' h=>by
  rcases zbW h with ⟨rfl,e⟩ | h
  ·cases e;exact ⟨f,fd,ps,dvs,ds,k',hk,hm,M,b0,bD,vd,sd,F⟩
  ·exact g.mks c' dds' fi' h
end
noncomputable def zh3(K:PySem.W.Frag)(tabs:List (Addr×Addr)):Sp:=fun vs H Q _=>∃(a:Addr) (ns:List Int),vs=[.ref a]/\ns.length<=63/\znK tabs H/\(∀q∈tabs,H q.2=some (.tbl #[]))/\(∀q∈tabs,q.2≠a)/\SqL K H a (ns.map V.int)/\∀H',Q (.bl true) H'
def zp9{cl:Cf}{tabs:List (Addr×Addr)}(hc:∀P q,cl.tabs P=some q->P∈tabs.map (·.2)){run:List D->Sto->Out D}(hr:∀l:List Int,l.length<=63->∃S,run [.scr l] []=.ok (.bl true) S):∀vs H Q E,zh3 cl.K tabs vs H Q E->zgg cl 1 false run vs H Q E:=by
 rintro vs H Q E ⟨a,ns,rfl,hl,hO,hT,hne,hS,q⟩
 have na:a ∉ tabs.map (·.2):=fun z=>by obtain ⟨p,hp,e⟩:=yau.mp z;exact hne p hp e
 refine ⟨rfl,⟨fun _=>none,fun _=>none⟩,⟨H,fun b=>if b∈tabs.map (·.2) then some .tab else none,[]⟩,[.scr ns],[],rfl,⟨(fun a o h=>by cases h),(fun a r h=>.inr rfl),rfl,(fun n ob h=>by simp at h),fun P w h=>?_⟩,.cons ?_ .nil,?_⟩
 ·have hP:=hc P w h;obtain ⟨p,hp,rfl⟩:=yau.mp hP;exact ⟨#[],hT p hp,if_pos hP,trivial,fun pos cv e=>by cases e⟩
 ·rcases hS with (hS | ⟨o,hS⟩) | hS
  ·rcases hO a with z | ⟨o,xs,z⟩ | ⟨z,_⟩
   ·rw [hS] at z;cases z
   ·rw [hS] at z;cases z
   ·rw [hS] at z;cases z
  ·exact .scr hS (if_neg na)
  ·exact .scrK fun H=>.inr hS
 ·obtain ⟨S',e⟩:=hr ns hl;rw [e];intro v w' _ _ r;have r':Shd cl w' v (.bl true):=r;cases r';exact q _
noncomputable abbrev Rn:=List D->Sto->Out D
structure FnT(K:PySem.W.Frag)(x q:Str)(st:Stmt)(f:Addr):Prop where
 ex:∃(oc:Value) (od:Option Addr) (kV dc pm:Value) (an:Option Addr) (cd ct:Value) (sl:Array (Option Value)),K.lookup f=some ⟨oc,od,.func (PySem.W.fnOf x q (zbk st) (zaM st) (zad st) .none kV dc pm an cd ct),sl⟩/\PySem.W.codeIn K cd q=true/\PySem.W.keepIn K (.ref f)=true/\PySem.W.isFn K (.ref f)=true
structure GFn(K:PySem.W.Frag)(x:Str)(st:Stmt):Prop where
 ex:∃f,PySem.W.nsIn K mainGlobals x=some (some (.ref f))/\FnT K x x st f
structure MFn(K:PySem.W.Frag)(C:Addr)(m q:Str)(st:Stmt):Prop where
 ex:∃f,PySem.W.findIn K (.ref C) m=some (some (.ref f))/\FnT K m q st f
noncomputable def BB(x q:Str)(st:Stmt)(ps:List Str):Prop:=∀(kV doc pm:Value) (an:Option Addr) (cdv ct:Value) (us:List Value),us.length=ps.length->bindArgs (PySem.W.fnOf x q (zbk st) (zaM st) (zad st) .none kV doc pm an cdv ct) ⟨us,[]⟩=pure (ps.zip us)
def bb0{p:List Value->Prop}(h:p []):∀us:List Value,us.length=0->p us:=fun us e=>by rw [ybT e];exact h
def bbS{n:Nat}{p:List Value->Prop}(h:∀a:Value,∀us:List Value,us.length=n->p (a::us)):∀us:List Value,us.length=n+1->p us:=fun us e=>by
 cases us with
 | nil=>cases e
 | cons a us=>exact h a us (Nat.succ.inj e)
def bb1{p:List Value->Prop}(h:∀a0:Value,p [a0]):∀us:List Value,us.length=1->p us:=bbS fun a0=>bb0 (h a0)
def bb2{p:List Value->Prop}(h:∀a0 a1:Value,p [a0,a1]):∀us:List Value,us.length=2->p us:=bbS fun a0=>bbS fun a1=>bb0 (h a0 a1)
def bb3{p:List Value->Prop}(h:∀a0 a1 a2:Value,p [a0,a1,a2]):∀us:List Value,us.length=3->p us:=bbS fun a0=>bbS fun a1=>bbS fun a2=>bb0 (h a0 a1 a2)
def bb4{p:List Value->Prop}(h:∀a0 a1 a2 a3:Value,p [a0,a1,a2,a3]):∀us:List Value,us.length=4->p us:=bbS fun a0=>bbS fun a1=>bbS fun a2=>bbS fun a3=>bb0 (h a0 a1 a2 a3)
def bb5{p:List Value->Prop}(h:∀a0 a1 a2 a3 a4:Value,p [a0,a1,a2,a3,a4]):∀us:List Value,us.length=5->p us:=bbS fun a0=>bbS fun a1=>bbS fun a2=>bbS fun a3=>bbS fun a4=>bb0 (h a0 a1 a2 a3 a4)
def bb6{p:List Value->Prop}(h:∀a0 a1 a2 a3 a4 a5:Value,p [a0,a1,a2,a3,a4,a5]):∀us:List Value,us.length=6->p us:=bbS fun a0=>bbS fun a1=>bbS fun a2=>bbS fun a3=>bbS fun a4=>bbS fun a5=>bb0 (h a0 a1 a2 a3 a4 a5)
section
variable{cl:Cf}{T:Tab}{P:Program}{wo:PySem.World}{K:PySem.W.Frag}{mg:Z6}{base:Heap}{k:Nat}{fs:Fn3}
def FnT.un{x q:Str}{st:Stmt}{f:Addr}{ps:List Str}(p:FnT K x q st f)(b:BB x q st ps):∃fd,Fun K x q st f fd/\zcs K fd ps []/\PySem.W.keepIn K (.ref f)=true/\PySem.W.isFn K (.ref f)=true:=by
 obtain ⟨oc,od,kV,dc,pm,an,cd,ct,sl,l,c,kp,i⟩:=p.ex;have U:=zom (st:=st) l c kp;exact ⟨_,U,U.binds b,kp,i⟩
end
open PySem
open L2 hiding D
noncomputable def zcb:Fs :=
  (zal (sFz [] (zbF (zf7 (eUn (zcu "int") (zap 0)) (eUn zdP (eUn (zcu "bool") (zap 0))))))
  sNx)
noncomputable def zaS:List S2.D->Sto->Out S2.D:=zbE 1 false zcb
noncomputable def zaU:Fs :=
  (zal (sFz [] (zbF (zf7 (eUn (zcu "tuple") (zap 0)) (zcM leD leD (zap 1) (zar zdQ [(zap 0)]) (zap 2)))))
  sNx)
noncomputable def zah:List S2.D->Sto->Out S2.D:=zbE 3 false zaU
noncomputable def zdk:Fs :=
  (zal (sFz [0] (zbF (zf7 (eFn zaS [(zaf 0)]) (zcM leD leD (zaw (.int 0)) (zap 0) (zaw (.int 8))))))
  sNx)
noncomputable def zce:List S2.D->Sto->Out S2.D:=zbE 1 false zdk
noncomputable def zeH:Fs :=
  (zal (sFz [0,0] (zbF (zf7 (eFn zah [(zaf 0),(zaw (.int 4)),(zaw (.int 4))]) (zar ziV [(zb3 1 (.one 0) (zaH (zaf 0)) zd5 (eFn zce [(zaf 0)]) [])]))))
  sNx)
noncomputable def zcB:List S2.D->Sto->Out S2.D:=zbE 1 false zeH
noncomputable def zfT:Fs :=
  (zal (sFz [0] (sIf (eUn zdP (eFn zah [(zaf 0),(zaw (.int 1)),(zaw (.int 16))])) (zal (sFz [] (zbF (zaw (.bl false)))) sNx) sNx))
  (zal (sFz [0,0] (zbF (zf7 (zar ziV [(zb3 1 (.one 0) (zaH (zaf 0)) zd5 (eFn zcB [(zaf 0)]) [])]) (zat eqD (eUn zdf (zaf 0)) (zar zdQ [(zap 0)])))))
  sNx))
noncomputable def zdt:List S2.D->Sto->Out S2.D:=zbE 1 false zfT
noncomputable def zbz:Fs :=
  (zal (sFz [1] (zbF (zf7 (eFn zaS [(zaf 1)]) (zcM leD ltD (zaw (.int 0)) (zap 1) (zar zdQ [(zap 0)])))))
  sNx)
noncomputable def zaP:List S2.D->Sto->Out S2.D:=zbE 2 false zbz
noncomputable def zdC:Fs :=
  (zal (sFz [0,1] (zbF (eOr (zat zmb (zap 1) (zaw .non)) (eFn zaP [(zaf 0),(zaf 1)]))))
  sNx)
noncomputable def zb8:List S2.D->Sto->Out S2.D:=zbE 2 false zdC
noncomputable def zeh:Fs :=
  (zal (sFz [1,1,0] (zbF (zf7 (eFn zah [(zaf 1),(zaw (.int 1)),(zaw (.int 6))]) (zar ziV [(zb3 1 (.one 0) (zaH (zaf 1)) zd5 (eFn zb8 [(zaf 1),(zaf 0)]) [0])]))))
  sNx)
noncomputable def zcT:List S2.D->Sto->Out S2.D:=zbE 2 false zeh
noncomputable def zcc:Fs :=
  (zal (sFz [1] (sIf (eUn zdP (eFn zah [(zaf 1),(zaw (.int 1)),(zaw (.int 6))])) (zal (sFz [] (zbF (zaw (.bl false)))) sNx) sNx))
  (zal (sFz [1,0] (sIf (eUn zdP (zar ziV [(zb3 1 (.one 0) (zaH (zaf 1)) zd5 (eFn zcT [(zaf 1),(zaf 0)]) [0])])) (zal (sFz [] (zbF (zaw (.bl false)))) sNx) sNx))
  (zal (sFz [1,1] (zbF (zar ziV [(zb3 1 (.one 0) (zaH (zaf 1)) zd5 (zat eqD (zar zdQ [(zap 0)]) (zar zdQ [(zat ixD (zap 1) (zaw (.int 0)))])) [1])])))
  sNx)))
noncomputable def zbc:List S2.D->Sto->Out S2.D:=zbE 2 false zcc
noncomputable def zeG:Fs :=
  (zal (sFz [] (zc7 1 false (eIf (zat gtD (zar zdQ [(zap 0)]) (zaw (.int 0))) (zar zdQ [(zat ixD (zap 0) (zaw (.int 0)))]) (zaw (.int 0)))))
  (zal (sFz [1] (zbF (ziL [(zar zdQ [(zap 0)]),(zaf 1)])))
  sNx))
noncomputable def zcA:List S2.D->Sto->Out S2.D:=zbE 2 false zeG
noncomputable def zgP:Fs :=
  (zal (sFz [] (sIf (eOr (eUn zdP (eUn (zcu "str") (zap 0))) (eUn zdP (zcM leD leD (zaw (.int 1)) (zar zdQ [(zap 0)]) (zaw (.int 6))))) (zal (sFz [] (zbF (zaw (.bl false)))) sNx) sNx))
  (zal (sFz [0] (zbF (zar ziV [(zb3 1 (.one 0) (zaH (zaf 0)) zd5 (zcM leD leD (zaw (.str "a")) (zap 0) (zaw (.str "z"))) [])])))
  sNx))
noncomputable def zdu:List S2.D->Sto->Out S2.D:=zbE 1 false zgP
noncomputable def zbA:Fs :=
  (zal (sFz [0] (sIf (eUn zdP (eFn zdu [(zaf 0)])) (zal (sFz [] (sRz "NoName" [(zaw (.str "this is no name"))])) sNx) sNx))
  sNx)
noncomputable def za5:List S2.D->Sto->Out S2.D:=zbE 1 false zbA
noncomputable def zbC:Fs :=
  (zal (sFz [1] (sIf (eUn zdP (eFn zdt [(zaf 1)])) (zal (sFz [] (sRz "Unlike" [(zaw (.str "this is no set"))])) sNx) sNx))
  (zal (sFz [1] (zkv "Album" "tiles" (zaf 0) (zaf 1)))
  (zal (sFz [] (zkw "Album" "named" 0))
  (zal (sFz [] (zeT "Album" "done" 0))
  (zal (sFz [] (zeT "Album" "undone" 0))
  sNx)))))
noncomputable def zaJ:List S2.D->Sto->Out S2.D:=zbE 2 false zbC
noncomputable def zaN:Fs :=
  (zal (sFz [] (sIf (zat zmb (zap 2) (zaw .non)) (zal (sFz [1] (zja "Album" "named" 0 (zbw 1))) sNx) (zal (sFz [2] (zi9 "Album" "named" 0 (zbw 1) (zbw 2))) sNx)))
  sNx)
noncomputable def zaz:List S2.D->Sto->Out S2.D:=zbE 3 false zaN
noncomputable def zdU:Fs :=
  (zal (sFz [1,2,2,3] (zjd "Album" "done" 0 [(zbw 1),(zbw 2),(zgr "Album" "named" 0 (zbw 2)),(zbw 3)]))
  (zal (sFz [] (zeT "Album" "undone" 0))
  (zal (sFz [2,3] (zmq (zdG "Album" "name_floor" zaz (zaf 0) [(zaf 2),(zaf 3)])))
  sNx)))
noncomputable def zcU:List S2.D->Sto->Out S2.D:=zbE 4 false zdU
noncomputable def zdm:Fs :=
  (zal (sFz [1] (zmq (eFn za5 [(zaf 1)])))
  (zal (sFz [2] (sIf (eUn zdP (eFn zbc [(zra "Album" "tiles" (zaf 0)),(zaf 2)])) (zal (sFz [] (sRz "Unlike" [(zaw (.str "this is no floor of the set"))])) sNx) sNx))
  (zal (sFz [] (zc7 3 false (eQ (zmz "Album" "named" 0 (zbw 1)))))
  (zal (sFz [1,2] (zmq (zdG "Album" "do" zcU (zaf 0) [(zaw (.str "put")),(zaf 1),(zaf 2)])))
  (zal (sFz [3] (zbF (zaf 3)))
  sNx)))))
noncomputable def zbP:List S2.D->Sto->Out S2.D:=zbE 4 false zdm
noncomputable def zbB:Fs :=
  (zal (sFz [1] (sIf (eOr (eUn zdP (eFn zdu [(zaf 1)])) (eQ (zfB "Album" "named" 0 (zbw 1)))) (zal (sFz [] (sRz "NoName" [(zaw (.str "no floor has this name"))])) sNx) sNx))
  (zal (sFz [] (zbF (eQ (zpy "Album" "named" 0 (zbw 1)))))
  sNx))
noncomputable def za6:List S2.D->Sto->Out S2.D:=zbE 2 false zbB
noncomputable def zcl:Fs :=
  (zal (sFz [] (zbF (zjB "Album" "named" 0)))
  sNx)
noncomputable def zaT:List S2.D->Sto->Out S2.D:=zbE 1 true zcl
noncomputable def zck:Fs :=
  (zal (sFz [] (zbF (ziL [(zfW "Album" "done" 0),(zfW "Album" "undone" 0)])))
  sNx)
noncomputable def zbg:List S2.D->Sto->Out S2.D:=zbE 1 false zck
noncomputable def zbT:Fs :=
  (zal (sFz [] (sIf (zat ltD (zap 1) (zar zdQ [(zap 0)])) (zal (sFz [] (zbF (zat ixD (zap 0) (zap 1)))) sNx) sNx))
  (zal (sFz [] (sIf (zat eqD (zap 0) (zhe [])) (zal (sFz [] (zbF (zaw (.int 0)))) sNx) sNx))
  (zal (sFz [] (zbF (zat zdJ (zat zjR (zat ixD (zap 0) (zat zod (zap 1) (zar zdQ [(zap 0)]))) (zaw (.int 31))) (zap 1))))
  sNx)))
noncomputable def zbp:List S2.D->Sto->Out S2.D:=zbE 2 false zbT
noncomputable def zdl:Fs :=
  (zal (sFz [0,1] (zc7 3 false (zat zod (zat zjR (zat zdJ (eFn zbp [(zaf 0),(zaf 1)]) (zat zjR (zaw (.int 6151)) (zat zdJ (zap 1) (zaw (.int 1))))) (zaw (.int 40692))) (zaw (.int 2147483399)))))
  (zal (sFz [] (zbF (zat zod (zat zod (zat zdJ (zat zjR (zap 3) (zap 3)) (zat ztt (zap 3) (zaw (.int 31)))) (zaw (.int 2147483629))) (zap 2))))
  sNx))
noncomputable def zas:List S2.D->Sto->Out S2.D:=zbE 4 false zdl
noncomputable def za2:Fs :=
  (zal (sFz [1,3,5,0] (zc7 6 false (zar zdp [(zb3 1 (.one 0) (zdV (zaw (.int 4))) zd5 (eFn zas [(zaf 4),(zat zdJ (zat zdJ (zat zdJ (zap 1) (zat zjR (zaw (.int 4)) (zap 3))) (zaw (.int 2))) (zap 0)),(zaf 2)]) [1,3,5,0])]))) (zal (sFz [0] (sIf (zat eqD (eFn zas [(zaf 0),(zat zdJ (zat zdJ (zap 1) (zaw (.int 60))) (zap 5)),(zaw (.int 3))]) (zaw (.int 0))) (zal (sFz [] (zc7 6 false (ziL [(zat ixD (zap 6) (zaw (.int 0))),(zat ixD (zap 6) (zaw (.int 1))),(zat ixD (zap 6) (zaw (.int 0))),(zat ixD (zap 6) (zaw (.int 1)))]))) sNx) sNx)) (zal (sFz [] (sIf (zat zma (zap 6) (zap 4)) (zal (sFz [6] (zhk 4 (zaf 6))) sNx) sNx)) sNx)))
noncomputable def zcJ:Fs :=
  (zal (sFz [0,1] (zc7 3 false (zat zdJ (zaw (.int 2)) (eFn zas [(zaf 0),(zaf 1),(zaw (.int 2))]))))
  (zal (sFz [] (zc7 4 true (zhe [])))
  (zal (sFz [0,2] (zjb (.one 5) (zdV (zat zdJ (zaw (.int 1)) (eFn zas [(zaf 0),(zat zdJ (zap 1) (zaw (.int 1))),(zaf 2)]))) za2))
  (zal (sFz [] (zbF (zar zdp [(zap 4)])))
  sNx))))
noncomputable def zbU:List S2.D->Sto->Out S2.D:=zbE 7 false zcJ
noncomputable def za3:Fs :=
  (zal (sFz [0] (zc7 10 false (eFn zas [(zaf 0),(zat zdJ (zat zdJ (zap 1) (zat zjR (zaw (.int 7)) (zap 7))) (zap 9)),(zat zjR (zar zdQ [(zap 2)]) (zap 5))]))) (zal (sFz [10] (zhk 8 (eIf (zat ltD (zap 10) (zar zdQ [(zap 2)])) (zaf 10) (zaw .non)))) sNx))
noncomputable def zb5:Fs :=
  (zal (sFz [] (zc7 8 true (zhe []))) (zal (sFz [4] (zjb (.one 9) (zdV (zaf 4)) za3)) (zal (sFz [] (zhk 6 (zar zdp [(zap 8)]))) sNx)))
noncomputable def zcK:Fs :=
  (zal (sFz [] (zc7 6 true (zhe [])))
  (zal (sFz [3] (zjb (.one 7) (zdV (zaf 3)) zb5))
  (zal (sFz [] (zbF (zar zdp [(zap 6)])))
  sNx)))
noncomputable def zbv:List S2.D->Sto->Out S2.D:=zbE 11 false zcK
noncomputable def zbK:Fs :=
  (zal (sFz [3,4] (zhk 2 (ziL [(zaf 3),(zaf 4)]))) sNx)
noncomputable def zco:Fs :=
  (zal (sFz [] (zjb (.one 4) (zdV (zat ixD (zap 1) (zaw (.int 1)))) zbK)) sNx)
noncomputable def zdh:Fs :=
  (zal (sFz [0] (zc7 1 false (eFn zcA [(zaf 0)])))
  (zal (sFz [] (zc7 2 true (zhe [])))
  (zal (sFz [] (zjb (.one 3) (zdV (zat ixD (zap 1) (zaw (.int 0)))) zco))
  (zal (sFz [] (zi8 2))
  sNx))))
noncomputable def zbN:List S2.D->Sto->Out S2.D:=zbE 5 true zdh
noncomputable def zcj:Fs :=
  (zal (sFz [1] (zbF (eFn zah [(zaf 1),(zar zdQ [(zap 0)]),(zar zdQ [(zap 0)])])))
  sNx)
noncomputable def zbf:List S2.D->Sto->Out S2.D:=zbE 2 false zcj
noncomputable def zdD:Fs :=
  (zal (sFz [1] (sIf (eUn zdP (eFn zah [(zaf 1),(zar zdQ [(zap 0)]),(zar zdQ [(zap 0)])])) (zal (sFz [] (zbF (zaw (.bl false)))) sNx) sNx))
  (zal (sFz [0,1] (zbF (zar ziV [(zb3 2 (.tup [0,1]) (zq9 (zaf 0) (zaf 1)) zd5 (eFn zbf [(zaf 0),(zaf 1)]) [])])))
  sNx))
noncomputable def zcC:List S2.D->Sto->Out S2.D:=zbE 2 false zdD
noncomputable def zdi:Fs :=
  (zal (sFz [] (zbF (zat ixD (zat ixD (zap 0) (zat ixD (zap 1) (zaw (.int 0)))) (zat ixD (zap 1) (zaw (.int 1))))))
  sNx)
noncomputable def zax:List S2.D->Sto->Out S2.D:=zbE 2 false zdi
noncomputable def zch:Fs :=
  (zal (sFz [0,0] (zbF (zb3 1 (.one 0) (zaH (eFn zbN [(zaf 0)])) (zat zjo (eFn zax [(zaf 1),(zaf 0)]) (zaw .non)) (zaf 0) [0])))
  sNx)
noncomputable def zbe:List S2.D->Sto->Out S2.D:=zbE 1 true zch
noncomputable def zcH:Fs :=
  (zal (sFz [0,0] (zbF (zb3 1 (.one 0) (zaH (eFn zbe [(zaf 0)])) zd5 (eFn zax [(zaf 1),(zaf 0)]) [0])))
  sNx)
noncomputable def zbb:List S2.D->Sto->Out S2.D:=zbE 1 true zcH
noncomputable def zb2:Fs :=
  (zal (sFz [1,1,0] (zbF (zar ziV [(zb3 1 (.one 0) (zaH (eFn zbe [(zaf 1)])) zd5 (zat eqD (eFn zax [(zaf 2),(zaf 0)]) (eFn zax [(zaf 1),(zaf 0)])) [1,0])])))
  sNx)
noncomputable def zbt:List S2.D->Sto->Out S2.D:=zbE 2 false zb2
noncomputable def zfS:Fs :=
  (zal (sFz [1] (zc7 2 true (eFn zbb [(zaf 1)])))
  (zal (sFz [2] (zbF (zb3 1 (.one 0) (zdV (zar zdQ [(zap 0)])) (zat zma (zap 0) (zap 1)) (zaf 0) [2])))
  sNx))
noncomputable def zds:List S2.D->Sto->Out S2.D:=zbE 3 true zfS
noncomputable def zeF:Fs :=
  (zal (sFz [] (zbF (eSl (zap 0) (some (zar zq7 [(zap 1),(zaw (.int 0))])) (some (zar zq7 [(zat zdJ (zap 1) (zap 2)),(zaw (.int 0))])))))
  sNx)
noncomputable def zb7:List S2.D->Sto->Out S2.D:=zbE 3 false zeF
noncomputable def zlD:Fs :=
  (zal (sFz [0,1,3,4,2] (zbF (zar zdp [(zb3 1 (.one 0) (zaH (eFn zb7 [(zaf 0),(zaf 1),(zaf 3)])) zd5 (eFn zb7 [(zaf 0),(zaf 2),(zaf 1)]) [4,2])])))
  sNx)
noncomputable def zie:List S2.D->Sto->Out S2.D:=zbE 5 false zlD
noncomputable def zeI:Fs :=
  (zal (sFz [0,0] (zbF (zb3 1 (.one 0) (zaH (eUn zhh (zaf 0))) zd5 (ziL [(zaf 0),(eMt zdH 1 (zap 0))]) [0])))
  sNx)
noncomputable def zcD:List S2.D->Sto->Out S2.D:=zbE 1 true zeI
noncomputable def zhB:Fs :=
  (zal (sFz [0] (zbF (eFn zcD [(eFn zbb [(zaf 0)])])))
  sNx)
noncomputable def zer:List S2.D->Sto->Out S2.D:=zbE 1 true zhB
noncomputable def zb4:Fs :=
  (zal (sFz [0,3] (sIf (eFn zaP [(zaf 0),(zaf 3)]) (zal (sFz [] (zhj 2 (zat ixD (zap 0) (zap 3)))) sNx) sNx)) sNx)
noncomputable def zcI:Fs :=
  (zal (sFz [] (zc7 2 true (zhe [])))
  (zal (sFz [1] (zjb (.one 3) (zaH (eFn zbb [(zaf 1)])) zb4))
  (zal (sFz [2] (zbF (eFn zcD [(zaf 2)])))
  sNx)))
noncomputable def zbu:List S2.D->Sto->Out S2.D:=zbE 4 true zcI
noncomputable def zcq:Fs :=
  (zal (sFz [] (sIf (zat eqD (zat ixD (zap 0) (zap 2)) (zat ixD (zap 0) (zap 3))) (zal (sFz [2,3] (zhk 1 (ziL [(zaf 2),(zaf 3)]))) sNx) sNx)) sNx)
noncomputable def zcp:Fs :=
  (zal (sFz [] (zjb (.one 3) (zjC (zat zdJ (zap 2) (zaw (.int 1))) (zar zdQ [(zap 0)])) zcq)) sNx)
noncomputable def zdj:Fs :=
  (zal (sFz [] (zc7 1 true (zhe [])))
  (zal (sFz [] (zjb (.one 2) (zdV (zar zdQ [(zap 0)])) zcp))
  (zal (sFz [] (zi8 1))
  sNx)))
noncomputable def zbO:List S2.D->Sto->Out S2.D:=zbE 4 true zdj
noncomputable def zci:Fs :=
  (zal (sFz [1] (zc7 3 false (eFn zcA [(zaf 1)])))
  (zal (sFz [0] (zc7 4 false (eFn zie [(zaf 0),(zat ixD (zap 2) (zaw (.int 0))),(zat ixD (zap 2) (zaw (.int 1))),(zat ixD (zap 3) (zaw (.int 0))),(zat ixD (zap 3) (zaw (.int 1)))])))
  (zal (sFz [1,4,4,1] (zbF (zf7 (eFn zcC [(zaf 1),(zaf 4)]) (eFn zbt [(zaf 4),(zaf 1)]))))
  sNx)))
noncomputable def zbo:List S2.D->Sto->Out S2.D:=zbE 5 false zci
noncomputable def zeE:Fs :=
  (zal (sFz [0,0,1] (zbF (zb3 1 (.one 0) (zaH (eFn zbN [(zaf 0)])) (eFn zbo [(zaf 1),(zaf 2),(zaf 0)]) (zaf 0) [0,1])))
  sNx)
noncomputable def zcz:List S2.D->Sto->Out S2.D:=zbE 2 true zeE
noncomputable def zbS:Fs :=
  (zal (sFz [0,1,0] (zrW 3 4 false (zat zdJ (zaw (.int 1)) (eFn zas [(zaf 0),(zaf 1),(zaw (.int 4))])) false (zat zdJ (zaw (.int 1)) (eFn zas [(zaf 0),(zat zdJ (zap 1) (zaw (.int 1))),(zaw (.int 4))]))))
  (zal (sFz [0,2,3,4,0] (zbF (eFn zbv [(zaf 0),(zat zdJ (zap 1) (zaw (.int 2))),(zaf 2),(zaf 3),(zaf 4),(zat ixD (zhe [(zaw (.int 1)),(zaw (.int 2)),(zaw (.int 3))]) (eFn zas [(zaf 0),(zat zdJ (zap 1) (zaw (.int 50))),(zaw (.int 3))]))])))
  sNx))
noncomputable def zaQ:List S2.D->Sto->Out S2.D:=zbE 5 false zbS
noncomputable def Fo.seq(b:Fs):Fo->Fo | .nx ρ' S'=>b ρ' S' | o=>o
def zvi(a b:Fs)(ρ:Env):Out D->Fo | .ok d S'=>(match isB d with | some true=>a ρ S' | some false=>b ρ S' | none=>.bad) | .exc x S'=>.ex x ρ S' | .bad=>.bad
noncomputable def zw5(i:Nat)(o:Bool)(ρ:Env):Out D->Fo | .ok d S'=>.nx (ρ.set i (some (o,d))) S' | .exc c S'=>.ex c ρ S' | .bad=>.bad
noncomputable def zw1(ρ:Env):Out D->Fo | .ok _ S'=>.nx ρ S' | .exc c S'=>.ex c ρ S' | .bad=>.bad
noncomputable def zwV(ρ:Env):Out D->Fo | .ok d S'=>.rt d S' | .exc c S'=>.ex c ρ S' | .bad=>.bad
noncomputable def zs9(S:Sto):Option (Option (Bool×D))->Fo | some (some (true,d))=>.rt d S | _=>.bad
def zqj(i:Nat)(ρ:Env)(l:List D):Out D->Fo
 | .ok d S'=>if zaE l.length then .nx (ρ.set i (some (true,.lst (l++[d])))) S' else .bad
 | .exc c S'=>.ex c ρ S' | .bad=>.bad
noncomputable def zw6(i:Nat)(f:Fe)(ρ:Env)(S:Sto):Option (Option (Bool×D))->Fo | some (some (true,.lst l))=>zqj i ρ l (f ρ S) | _=>.bad
noncomputable def zqh(i j:Nat)(o1 o2:Bool)(d1:D)(ρ:Env):Out D->Fo | .ok d2 S2=>.nx ((ρ.set i (some (o1,d1))).set j (some (o2,d2))) S2 | .exc c S'=>.ex c ρ S' | .bad=>.bad
noncomputable def zwW(i j:Nat)(o1 o2:Bool)(g:Fe)(ρ:Env):Out D->Fo | .ok d1 S1=>zqh i j o1 o2 d1 ρ (g ρ S1) | .exc c S'=>.ex c ρ S' | .bad=>.bad
noncomputable def zwZ(t:Tg)(a:Fs)(ρ:Env):Out (List D)->Fo | .ok ds S'=>zfi t a ds ρ S' | .exc c S'=>.ex c ρ S' | .bad=>.bad
noncomputable def zwT(S:Sto):Option (Option (Bool×D))->Out D | some (some (false,d))=>.ok d S | _=>.bad
noncomputable def zw3(S:Sto):Option (Option (Bool×D))->Out D | some (some (_,d))=>.ok d S | _=>.bad
def kUn(u:D->Option D):Out D->Out D | .ok a S=>Out.of (u a) S | .exc c S=>.exc c S | .bad=>.bad
def zm5(u:D->D->Option D)(a:D):Out D->Out D | .ok b S=>Out.of (u a b) S | .exc c S=>.exc c S | .bad=>.bad
noncomputable def zw4(u:D->D->Option D)(g:Fe)(ρ:Env):Out D->Out D | .ok a S=>zm5 u a (g ρ S) | .exc c S=>.exc c S | .bad=>.bad
def kIf(f g:Fe)(ρ:Env):Out D->Out D | .ok d S1=>(match isB d with | some true=>f ρ S1 | some false=>g ρ S1 | none=>.bad) | .exc c S=>.exc c S | .bad=>.bad
def zvk(g:Fe)(ρ:Env):Out D->Out D | .ok d S1=>(match isB d with | some true=>g ρ S1 | some false=>.ok (.bl false) S1 | none=>.bad) | .exc c S=>.exc c S | .bad=>.bad
def kOr(g:Fe)(ρ:Env):Out D->Out D | .ok d S1=>(match isB d with | some true=>.ok (.bl true) S1 | some false=>g ρ S1 | none=>.bad) | .exc c S=>.exc c S | .bad=>.bad
noncomputable def ziF(d:D):Out (List D)->Out (List D) | .ok ds S=>.ok (d::ds) S | .exc c S=>.exc c S | .bad=>.bad
def ztb(fs:List Fe)(ρ:Env):Out D->Out (List D) | .ok d S=>ziF d (zai fs ρ S) | .exc c S=>.exc c S | .bad=>.bad
def zwU:Out (List D)->Out D | .ok ds S=>if zaE ds.length then .ok (.tup ds) S else .bad | .exc c S=>.exc c S | .bad=>.bad
def zwX:Out (List D)->Out D | .ok ds S=>if zaE ds.length then .ok (.lst ds) S else .bad | .exc c S=>.exc c S | .bad=>.bad
def ztc(u:List D->Option D):Out (List D)->Out D | .ok ds S=>Out.of (u ds) S | .exc c S=>.exc c S | .bad=>.bad
noncomputable def kFn(r:List D->Sto->Out D):Out (List D)->Out D | .ok ds S=>r ds S | .exc c S=>.exc c S | .bad=>.bad
def zey(v:D->D->Option D)(b:D):Out D->Out D | .ok c S=>Out.of (v b c) S | .exc c S=>.exc c S | .bad=>.bad
def zex(v:D->D->Option D)(h:Fe)(ρ:Env)(b:D)(S:Sto):Option D->Out D | some d=>(match isB d with | some true=>zey v b (h ρ S) | some false=>.ok (.bl false) S | none=>.bad) | none=>.bad
noncomputable def zfL(u v:D->D->Option D)(h:Fe)(ρ:Env)(a:D):Out D->Out D | .ok b S=>zex v h ρ b S (u a b) | .exc c S=>.exc c S | .bad=>.bad
noncomputable def zof(u v:D->D->Option D)(g h:Fe)(ρ:Env):Out D->Out D | .ok a S=>zfL u v h ρ a (g ρ S) | .exc c S=>.exc c S | .bad=>.bad
noncomputable def zwY:Out D->Out (Option Int) | .ok (.int i) S=>.ok (some i) S | .ok _ _=>.bad | .exc c S=>.exc c S | .bad=>.bad
def zt0(d:D)(l:Option Int):Out (Option Int)->Out D | .ok u S=>Out.of (slD d l u) S | .exc c S=>.exc c S | .bad=>.bad
def zt1(d:D)(u:Option Fe)(ρ:Env):Out (Option Int)->Out D | .ok l S=>zt0 d l (zcL u ρ S) | .exc c S=>.exc c S | .bad=>.bad
def kSl(l u:Option Fe)(ρ:Env):Out D->Out D | .ok d S=>zt1 d u ρ (zcL l ρ S) | .exc c S=>.exc c S | .bad=>.bad
def zlk:Out D->Out (List D) | .ok (.str x) S=>.ok (znU x) S | .ok (.lst l) S=>.ok l S | .ok (.tup l) S=>.ok l S | .ok (.dic ds) S=>if zau ds then .ok ((zd9 ds).map D.str) S else .bad | .ok _ _=>.bad | .exc c S=>.exc c S | .bad=>.bad
def zwS:Out (List D)->Out (List D) | .ok ds S1=>(match ds with | [.tup l,.tup k]=>.ok (zf5 l k) S1 | _=>.bad) | .exc c S=>.exc c S | .bad=>.bad
def zs8:Out (List D)->Out (List D) | .ok ds S1=>(match ds with | [.int j]=>if -1000000<=j/\j<=1000000 then .ok (zao 0 j) S1 else .bad | _=>.bad) | .exc c S=>.exc c S | .bad=>.bad
def zs7:Out (List D)->Out (List D) | .ok ds S1=>(match ds with | [.int i,.int j]=>if (-1000000<=i/\i<=1000000)/\-1000000<=j/\j<=1000000 then .ok (zao i j) S1 else .bad | _=>.bad) | .exc c S=>.exc c S | .bad=>.bad
def zll:Out (List D)->Out D | .ok ys S2=>if zaE ys.length then .ok (.lst ys) S2 else .bad | _=>.bad
def zqi(tg:Tg)(c elt:Fe)(ρ0:Env):Out (List D)->Out D | .ok ds S1=>zll (zbr tg c elt ρ0 ds S1) | .exc c S=>.exc c S | .bad=>.bad
noncomputable def zw2:Option (Option (Bool×D))->Option (Bool×D) | some (some (false,d))=>some (false,d) | _=>none
noncomputable def zvj(ρ:Env)(i:Nat):Option (Option (Bool×D))->Env | some (some (true,d))=>ρ.set i (some (false,d)) | _=>ρ
noncomputable def zvh(own:Bool):Fo->Out D | .rt d S'=>.ok d S' | .nx _ S'=>if own then .bad else .ok .non S' | .ex c _ S'=>.exc c S' | _=>.bad
def zt2(u:List D->D->Option D)(l:List D):Out D->Out D | .ok d S=>Out.of (u l d) S | .exc c S=>.exc c S | .bad=>.bad
noncomputable def kMt(u:List D->D->Option D)(f:Fe)(ρ:Env)(S:Sto):Option (Option (Bool×D))->Out D | some (some (_,.lst l))=>zt2 u l (f ρ S) | _=>.bad
section
variable{ρ:Env}{S:Sto}{f g h k c:Fe}{a b:Fs}
@[simp] def zxz:eMt u i f ρ S=kMt u f ρ S ρ[i]?:=by
 show (match ρ[i]? with | some (some (_,.lst l))=>(f ρ S).bind fun d S1=>Out.of (u l d) S1 | _=>.bad)=_
 cases ρ[i]? with
 | none=>rfl
 | some o=>cases o with
  | none=>rfl
  | some p =>
   obtain ⟨b,d⟩:=p
   cases d with
   | lst l=>show ((f ρ S).bind fun d S1=>Out.of (u l d) S1)=zt2 u l (f ρ S);cases f ρ S<;>rfl
   | _=>rfl
@[simp] def zyM:kMt u f ρ S (some (some (o,.lst l)))=zt2 u l (f ρ S):=(rfl)
@[simp] def zx3:zt2 u l (.ok d S)=Out.of (u l d) S:=(rfl)
@[simp] def zvS:zal a b ρ S=(a ρ S).seq b:=by
 show (match a ρ S with | .nx ρ' S'=>b ρ' S' | o=>o)=_
 cases a ρ S<;>rfl
@[simp] def zwx:(Fo.nx ρ S).seq b=b ρ S:=(rfl)
@[simp] def zww:(Fo.rt d S).seq b=.rt d S:=(rfl)
@[simp] def zxl:sFz is a ρ S=a (frz is ρ) S:=(rfl)
@[simp] def zv7:frz [] ρ=ρ:=(rfl)
@[simp] def zv6:frz (i::is) ρ=frz is (frz1 ρ i):=(rfl)
@[simp] def zxu(i:Nat):frz1 ρ i=zvj ρ i ρ[i]?:=(rfl)
@[simp] def zwJ:zvj ρ i (some (some (true,d)))=ρ.set i (some (false,d)):=(rfl)
@[simp] def zwI:zvj ρ i (some (some (false,d)))=ρ:=(rfl)
@[simp] def zxj:sNx ρ S=.nx ρ S:=(rfl)
@[simp] def zvX:zc7 i o f ρ S=zw5 i o ρ (f ρ S):=(rfl)
@[simp] def zwO:zw5 i o ρ (.ok d S)=.nx (ρ.set i (some (o,d))) S:=(rfl)
@[simp] def zvW:zmq f ρ S=zw1 ρ (f ρ S):=(rfl)
@[simp] def zwK:zw1 ρ (.ok d S)=.nx ρ S:=(rfl)
@[simp] def zvT:zbF f ρ S=zwV ρ (f ρ S):=(rfl)
@[simp] def zwD:zwV ρ (.ok d S)=.rt d S:=(rfl)
@[simp] def zue:zi8 i ρ S=zs9 S ρ[i]?:=(rfl)
@[simp] def zwC:zs9 S (some (some (true,d)))=.rt d S:=(rfl)
@[simp] def zxk:sIf c a b ρ S=zvi a b ρ (c ρ S):=(rfl)
@[simp] def zwH:zvi a b ρ (.ok (.bl true) S)=a ρ S:=(rfl)
@[simp] def zwG:zvi a b ρ (.ok (.bl false) S)=b ρ S:=(rfl)
@[simp] def zvY:zhk i f ρ S=zw6 i f ρ S ρ[i]?:=(rfl)
@[simp] def zyl:zw6 i f ρ S (some (some (true,.lst l)))=zqj i ρ l (f ρ S):=(rfl)
@[simp] def zwP:zqj i ρ l (.ok d S)=if zaE l.length then .nx (ρ.set i (some (true,.lst (l++[d])))) S else .bad:=(rfl)
def ztq{l k:List D}(h:ρ[i]?=some (some (true,.lst l)))(hf:f ρ S=.ok (.tup k) S1)(hl:l.length+k.length<=100000):zhj i f ρ S=.nx (ρ.set i (some (true,.lst (l++k)))) S1:=by
 unfold zhj;rw [h];dsimp only;rw [hf];dsimp only;rw [if_pos (show zaE (l.length+k.length)=true from yaQ hl)]
@[simp] def zvU:zrW i j o1 f o2 g ρ S=zwW i j o1 o2 g ρ (f ρ S):=(rfl)
@[simp] def zx0:zwW i j o1 o2 g ρ (.ok d S)=zqh i j o1 o2 d ρ (g ρ S):=(rfl)
@[simp] def zwE:zqh i j o1 o2 d ρ (.ok e S)=.nx ((ρ.set i (some (o1,d))).set j (some (o2,e))) S:=(rfl)
@[simp] def zvV:zjb t it a ρ S=zwZ t a ρ (it ρ S):=(rfl)
@[simp] def zyb:zwZ t a ρ (.ok ds S)=zfi t a ds ρ S:=(rfl)
@[simp] def zv8:zaf i ρ S=zwT S ρ[i]?:=(rfl)
@[simp] def zxV:zwT S (some (some (false,d)))=.ok d S:=(rfl)
@[simp] def zwd:zap i ρ S=zw3 S ρ[i]?:=(rfl)
@[simp] def zyk:zw3 S (some (some (o,d)))=.ok d S:=(rfl)
@[simp] def zwc:zaw d ρ S=.ok d S:=(rfl)
@[simp] def zxw:eUn u f ρ S=kUn u (f ρ S):=by
 unfold eUn;cases f ρ S<;>rfl
@[simp] def zxW:kUn u (.ok d S)=Out.of (u d) S:=(rfl)
@[simp] def zwe:zat u f g ρ S=zw4 u g ρ (f ρ S):=by
 unfold zat
 cases f ρ S with
 | ok a S1=>show ((g ρ S1).bind fun b S2=>Out.of (u a b) S2)=zm5 u a (g ρ S1);cases g ρ S1<;>rfl
 | exc c S=>rfl
 | bad=>rfl
@[simp] def zwN:zw4 u g ρ (.ok d S)=zm5 u d (g ρ S):=(rfl)
@[simp] def zwM:zm5 u d (.ok e S)=Out.of (u d e) S:=(rfl)
@[simp] def zxB:eIf c f g ρ S=kIf f g ρ (c ρ S):=by
 unfold eIf;cases c ρ S<;>rfl
@[simp] def zya:kIf f g ρ (.ok (.bl true) S)=f ρ S:=(rfl)
@[simp] def zx9:kIf f g ρ (.ok (.bl false) S)=g ρ S:=(rfl)
@[simp] def zwf:zf7 f g ρ S=zvk g ρ (f ρ S):=by
 unfold zf7;cases f ρ S<;>rfl
@[simp] def zwR:zvk g ρ (.ok (.bl true) S)=g ρ S:=(rfl)
@[simp] def zwQ:zvk g ρ (.ok (.bl false) S)=.ok (.bl false) S:=(rfl)
@[simp] def zxy:eOr f g ρ S=kOr g ρ (f ρ S):=by
 unfold eOr;cases f ρ S<;>rfl
@[simp] def zx2:kOr g ρ (.ok (.bl true) S)=.ok (.bl true) S:=(rfl)
@[simp] def zx1:kOr g ρ (.ok (.bl false) S)=g ρ S:=(rfl)
@[simp] def zug:zai [] ρ S=.ok [] S:=(rfl)
@[simp] def zuh:zai (f::fs) ρ S=ztb fs ρ (f ρ S):=by
 show ((f ρ S).bind fun d S1=>(zai fs ρ S1).bind fun ds S2=>.ok (d::ds) S2)=_
 cases f ρ S with
 | ok a S1=>show ((zai fs ρ S1).bind fun ds S2=>.ok (a::ds) S2)=ziF a (zai fs ρ S1);cases zai fs ρ S1<;>rfl
 | exc c S=>rfl
 | bad=>rfl
@[simp] def zve:ztb fs ρ (.ok d S)=ziF d (zai fs ρ S):=(rfl)
@[simp] def zvd:ziF d (.ok ds S)=.ok (d::ds) S:=(rfl)
@[simp] def zv9:ziL fs ρ S=zwU (zai fs ρ S):=by
 unfold ziL;cases zai fs ρ S<;>rfl
@[simp] def zxX:zwU (.ok ds S)=if zaE ds.length then .ok (.tup ds) S else .bad:=(rfl)
@[simp] def zwa:zhe fs ρ S=zwX (zai fs ρ S):=by
 unfold zhe;cases zai fs ρ S<;>rfl
@[simp] def zx5:zwX (.ok ds S)=if zaE ds.length then .ok (.lst ds) S else .bad:=(rfl)
@[simp] def zuj:zar u fs ρ S=ztc u (zai fs ρ S):=by
 unfold zar;cases zai fs ρ S<;>rfl
@[simp] def zvg:ztc u (.ok ds S)=Out.of (u ds) S:=(rfl)
@[simp] def zxC:eFn r fs ρ S=kFn r (zai fs ρ S):=by
 unfold eFn;cases zai fs ρ S<;>rfl
@[simp] def zyc:kFn r (.ok ds S)=r ds S:=(rfl)
@[simp] def ztT:zcM u v f g h ρ S=zof u v g h ρ (f ρ S):=by
 show ((f ρ S).bind fun a S1=>(g ρ S1).bind fun b S2=>match (u a b).bind isB with
  | some true=>(h ρ S2).bind fun c S3=>Out.of (v b c) S3
  | some false=>.ok (.bl false) S2
  | none=>.bad)=_
 cases f ρ S with
 | ok a S1 =>
  show ((g ρ S1).bind fun b S2=>match (u a b).bind isB with
   | some true=>(h ρ S2).bind fun c S3=>Out.of (v b c) S3
   | some false=>.ok (.bl false) S2
   | none=>.bad)=zfL u v h ρ a (g ρ S1)
  cases g ρ S1 with
  | ok b S2 =>
   show (match (u a b).bind isB with
    | some true=>(h ρ S2).bind fun c S3=>Out.of (v b c) S3
    | some false=>.ok (.bl false) S2
    | none=>.bad)=zex v h ρ b S2 (u a b)
   cases hu:u a b with
   | none=>rfl
   | some d =>
    show (match isB d with
     | some true=>(h ρ S2).bind fun c S3=>Out.of (v b c) S3
     | some false=>.ok (.bl false) S2
     | none=>.bad)=(match isB d with | some true=>zey v b (h ρ S2) | some false=>.ok (.bl false) S2 | none=>.bad)
    cases hb:isB d with
    | none=>rfl
    | some x=>cases x with
     | true=>show ((h ρ S2).bind fun c S3=>Out.of (v b c) S3)=zey v b (h ρ S2);cases h ρ S2<;>rfl
     | false=>rfl
  | exc c S=>rfl
  | bad=>rfl
 | exc c S=>rfl
 | bad=>rfl
@[simp] def zyi:zof u v g h ρ (.ok d S)=zfL u v h ρ d (g ρ S):=(rfl)
@[simp] def zyh:zfL u v h ρ d (.ok e S)=zex v h ρ e S (u d e):=(rfl)
@[simp] def zyg:zex v h ρ e S (some (.bl true))=zey v e (h ρ S):=(rfl)
@[simp] def zyf:zex v h ρ e S (some (.bl false))=.ok (.bl false) S:=(rfl)
@[simp] def zye:zey v e (.ok d S)=Out.of (v e d) S:=(rfl)
@[simp] def ztS:zcL (some f) ρ S=zwY (f ρ S):=by
 show ((f ρ S).bind fun d S1=>match d with | .int i=>.ok (some i) S1 | _=>.bad)=_
 cases f ρ S with
 | ok d S'=>cases d<;>rfl
 | exc c S'=>rfl
 | bad=>rfl
@[simp] def zx8:zwY (.ok (.int i) S)=.ok (some i) S:=(rfl)
@[simp] def zxx:eSl f l u ρ S=kSl l u ρ (f ρ S):=by
 unfold eSl
 cases f ρ S with
 | ok d S1 =>
  show ((zcL l ρ S1).bind fun l S2=>(zcL u ρ S2).bind fun u S3=>Out.of (slD d l u) S3)=zt1 d u ρ (zcL l ρ S1)
  cases zcL l ρ S1 with
  | ok l S2=>show ((zcL u ρ S2).bind fun u S3=>Out.of (slD d l u) S3)=zt0 d l (zcL u ρ S2);cases zcL u ρ S2<;>rfl
  | exc c S=>rfl
  | bad=>rfl
 | exc c S=>rfl
 | bad=>rfl
@[simp] def zyL:kSl l u ρ (.ok d S)=zt1 d u ρ (zcL l ρ S):=(rfl)
@[simp] def zxZ:zt1 d u ρ (.ok l S)=zt0 d l (zcL u ρ S):=(rfl)
@[simp] def zxY:zt0 d l (.ok u S)=Out.of (slD d l u) S:=(rfl)
@[simp] def zuf:zaH f ρ S=zlk (f ρ S):=by
 show ((f ρ S).bind fun d S1=>match d with | .str x=>.ok (znU x) S1 | .lst l=>.ok l S1 | .tup l=>.ok l S1 | .dic ds=>if zau ds then .ok ((zd9 ds).map D.str) S1 else .bad | _=>.bad)=_
 cases f ρ S with
 | ok d S'=>cases d<;>rfl
 | exc c S'=>rfl
 | bad=>rfl
@[simp] def zx7:zlk (.ok (.lst l) S)=.ok l S:=(rfl)
@[simp] def zx6:zlk (.ok (.tup l) S)=.ok l S:=(rfl)
@[simp] def zxh:zq9 f g ρ S=zwS (zai [f,g] ρ S):=by
 unfold zq9;cases zai [f,g] ρ S<;>rfl
@[simp] def zwv{l k:List D}:zwS (.ok [.tup l,.tup k] S)=.ok (zf5 l k) S:=(rfl)
@[simp] def zv0:zdV f ρ S=zs8 (zai [f] ρ S):=by
 unfold zdV;cases zai [f] ρ S<;>rfl
@[simp] def zwB:zs8 (.ok [.int j] S)=if -1000000<=j/\j<=1000000 then .ok (zao 0 j) S else .bad:=(rfl)
@[simp] def zvZ:zjC f g ρ S=zs7 (zai [f,g] ρ S):=by
 unfold zjC;cases zai [f,g] ρ S<;>rfl
@[simp] def zwA:zs7 (.ok [.int i,.int j] S)=if (-1000000<=i/\i<=1000000)/\-1000000<=j/\j<=1000000 then .ok (zao i j) S else .bad:=(rfl)
@[simp] def zwg:zb3 n t it c f caps ρ S=zqi t c f (zbD n caps ρ) (it ρ S):=by
 unfold zb3
 cases it ρ S with
 | ok ds S' =>
  simp only [Out.bind,zqi]
  cases zbr t c f (zbD n caps ρ) ds S'<;>rfl
 | exc c S'=>rfl
 | bad=>rfl
@[simp] def zwL:zqi t c f ρ0 (.ok ds S)=zll (zbr t c f ρ0 ds S):=(rfl)
@[simp] def zvf:zll (.ok ys S)=if zaE ys.length then .ok (.lst ys) S else .bad:=(rfl)
@[simp] def zrd:zbD n caps ρ=List.replicate n none++caps.map (zow ρ):=(rfl)
@[simp] def zwh:zow ρ i=zw2 ρ[i]?:=(rfl)
@[simp] def zyj:zw2 (some (some (false,d)))=some (false,d):=(rfl)
def zan:zbE n own fs ds S=zvh own (fs (ds.map (fun d=>some (false,d))++List.replicate (n-ds.length) none) S):=(rfl)
@[simp] def zwz:zvh own (.rt d S)=.ok d S:=(rfl)
@[simp] def zwy:zvh false (.nx ρ S)=.ok .non S:=(rfl)
@[simp] def zxt{b:Bool}:isB (.bl b)=some b:=(rfl)
@[simp] def zxm{b:Bool}:zdP (.bl b)=some (.bl (!b)):=(rfl)
@[simp] def zwi:zdJ (.int i) (.int j)=some (.int (i+j)):=(rfl)
@[simp] def zxn:zjR (.int i) (.int j)=if zbX i||zbX j then some (.int (i*j)) else none:=(rfl)
@[simp] def zxo:zod (.int i) (.int j)=if 0<j then some (.int (i % j)) else none:=(rfl)
@[simp] def zxD:ztt (.int i) (.int j)=if 0<j/\j<1073741824 then some (.int (i / j)) else none:=(rfl)
@[simp] def zyI:ltD (.int i) (.int j)=some (.bl (decide (i<j))):=(rfl)
@[simp] def zyJ:leD (.int i) (.int j)=some (.bl (decide (i<=j))):=(rfl)
@[simp] def zyK:gtD (.int i) (.int j)=some (.bl (decide (j<i))):=(rfl)
@[simp] def zxs:ixD (.lst l) (.int i)=atI l i:=(rfl)
@[simp] def zxq:ixD (.tup l) (.int i)=atI l i:=(rfl)
@[simp] def zxr:ixD (.scr l) (.int i)=(atI l i).map D.int:=(rfl)
@[simp] def zv4:zdQ [.tup l]=some (.int l.length):=(rfl)
@[simp] def zv5:zdQ [.scr l]=some (.int l.length):=(rfl)
@[simp] def zvR:zdp [.lst l]=some (.tup l):=(rfl)
@[simp] def zv1:zjo d .non=some (.bl (!zc3 d)):=(rfl)
@[simp] def zv3:zc3 .non=true:=(rfl)
@[simp] def zv2:zc3 (.int i)=false:=(rfl)
@[simp] def zxi:slD (.tup l) x y=some (.tup (znu l x y)):=(rfl)
@[simp] def zxp:zq7 [.int i,.int j]=some (.int (if j > i then j else i)):=(rfl)
@[simp] def zud:zaE n=decide (n<=100000):=(rfl)
def zc0{α:Type}(xs:List α)(j:Nat):atI xs (j:Int)=xs[j]?:=by
 unfold atI ixN
 by_cases h:j<xs.length
 ·simp [h]
 ·simp [h]
@[simp] def zt9{α:Type}(xs:List α):atI xs 0=xs[0]?:=zc0 xs 0
@[simp] def zvI{α:Type}(xs:List α):atI xs 1=xs[1]?:=zc0 xs 1
@[simp] def zvH{α:Type}(xs:List α):atI xs 2=xs[2]?:=zc0 xs 2
def zei{α:Type}{xs:List α}(h:0<=i):atI xs i=xs[i.toNat]?:=by
 obtain ⟨n,rfl⟩:=ycs h;exact zc0 xs n
end
theorem zdA(Iv:Nat->Env->Prop)(step:∀k d ρ,ds[k]?=some d->Iv k ρ->∃ρ1 ρ2,tg.put ρ d=some ρ1/\body ρ1 S=.nx ρ2 S/\Iv (k+1) ρ2)(h0:Iv 0 ρ):∃ρ',zfi tg body ds ρ S=.nx ρ' S/\Iv ds.length ρ':=by
 have go:∀(n:Nat) (es:List D) (k:Nat) (ρ:Env),es.length=n->ds.drop k=es->k+n=ds.length->Iv k ρ->∃ρ',zfi tg body es ρ S=.nx ρ' S/\Iv ds.length ρ':=by
  intro n
  induction n with
  | zero =>
   intro es k ρ hl he hk hi;obtain rfl:es=[]:=ybT hl;exact ⟨ρ,rfl,by rw [show ds.length=k by omega];exact hi⟩
  | succ n ih =>
   intro es k ρ hl he hk hi
   cases es with
   | nil=>cases hl
   | cons d es =>
    have hd:ds[k]?=some d:=by
     have:=congrArg (fun l=>l[0]?) he;rw [ybb] at this;simpa using this
    obtain ⟨ρ1,ρ2,e1,e2,hi2⟩:=step k d ρ hd hi;obtain ⟨ρ',e3,e4⟩:=ih es (k+1) ρ2 (by simpa using hl) (by rw [<-List.drop_drop,he];rfl) (by omega) hi2;refine ⟨ρ',?_,e4⟩;unfold zfi;rw [e1];dsimp only;rw [e2];exact e3
 exact go ds.length ds 0 ρ rfl (by simp) (by omega) h0
theorem zcN:∀{ds:List D},(∀d∈ds,∃ρ1,tg.put ρ0 d=some ρ1/\c ρ1 S=.ok (.bl (p d)) S/\(p d=true->elt ρ1 S=.ok (g d) S))->zbr tg c elt ρ0 ds S=.ok ((ds.filter p).map g) S
 | [],_=>rfl
 | d::ds,h=>by
  obtain ⟨ρ1,e1,e2,e3⟩:=h d yav;have ih:=zcN (ds:=ds) fun x hx=>h x (yan _ hx)
  unfold zbr;rw [e1];dsimp only;rw [e2]
  cases hp:p d with
  | true=>simp [e3 hp,ih,hp]
  | false=>simp [ih,hp]
def zaR(h:∀d∈ds,∃ρ1,tg.put ρ0 d=some ρ1/\elt ρ1 S=.ok (g d) S):zbr tg zd5 elt ρ0 ds S=.ok (ds.map g) S:=by
 have:=zcN (c:=zd5) (p:=fun _=>true) (tg:=tg) (elt:=elt) (ρ0:=ρ0) (S:=S) (g:=g) (ds:=ds) fun d hd=>by
  obtain ⟨ρ1,e1,e2⟩:=h d hd;exact ⟨ρ1,e1,rfl,fun _=>e2⟩
 rw [this,List.filter_eq_self.mpr (fun _ _=>rfl)]
mutual
noncomputable def D.pl:D->Bool
 | .non=>true
 | .int _=>true
 | .str _=>true
 | .tup l=>D.pls l
 | .lst l=>D.pls l
 | _=>false
noncomputable def D.pls:List D->Bool
 | []=>true
 | d::l=>d.pl&&D.pls l
end
theorem D.pls_iff:∀{l:List D},D.pls l=true↔∀d∈l,d.pl=true
 | []=>by simp [D.pls]
 | d::l=>by simp [D.pls,D.pls_iff (l:=l)]
mutual
theorem zlF:∀(d e:D),d.pl=true->e.pl=true->(d.py.eqv e.py=true↔d=e)
 | .non,e,_,h=>by cases e<;>simp [D.py,PyData.eqv,D.pl] at h ⊢
 | .int i,e,_,h=>by cases e<;>simp [D.py,PyData.eqv,D.pl] at h ⊢
 | .str x,e,_,h=>by cases e<;>simp [D.py,PyData.eqv,D.pl] at h ⊢
 | .tup l,e,hd,h=>by
  cases e with
  | tup k =>
   simp only [D.py,PyData.eqv,D.pl] at hd h ⊢;rw [zhD l k hd h];simp
  | _=>simp [D.py,PyData.eqv,D.pl] at h ⊢
 | .lst l,e,hd,h=>by
  cases e with
  | lst k =>
   simp only [D.py,PyData.eqv,D.pl] at hd h ⊢;rw [zhD l k hd h];simp
  | _=>simp [D.py,PyData.eqv,D.pl] at h ⊢
 | .bl _,_,hd,_=>by simp [D.pl] at hd
 | .dic _,_,hd,_=>by simp [D.pl] at hd
 | .ref _,_,hd,_=>by simp [D.pl] at hd
 | .exc _,_,hd,_=>by simp [D.pl] at hd
 | .scr _,_,hd,_=>by simp [D.pl] at hd
theorem zhD:∀(l k:List D),D.pls l=true->D.pls k=true->(PyData.eqvAll (D.pys l) (D.pys k)=true↔l=k)
 | [],[],_,_=>by simp [D.pys,PyData.eqvAll]
 | [],_::_,_,_=>by simp [D.pys,PyData.eqvAll]
 | _::_,[],_,_=>by simp [D.pys,PyData.eqvAll]
 | d::l,e::k,h1,h2=>by
  simp only [D.pls,yab] at h1 h2;simp only [D.pys,PyData.eqvAll,yab,List.cons.injEq];rw [zlF d e h1.1 h2.1,zhD l k h1.2 h2.2]
end
@[simp] def zqy:D.fit n (.int i)=true:=by cases n<;>rfl
@[simp] def zvy:D.fit n .non=true:=by cases n<;>rfl
@[simp] def zvx:D.fit (n+1) (.tup l)=D.fits n l:=(rfl)
@[simp] def zt5:D.fits n []=true:=by cases n<;>rfl
@[simp] def zto:D.fits n (d::l)=(d.fit n&&D.fits n l):=by cases n<;>rfl
@[simp] def zxv:eqD (.int i) (.int j)=some (.bl (decide (i=j))):=by
 unfold eqD zfC;simp [D.py,PyData.eqv]
 cases h:(i == j)<;>simp_all
def zfl:eqD (.scr l) (.lst [])=some (.bl (decide (l=[]))):=by
 cases l with
 | nil=>rfl
 | cons a l=>simp [eqD,D.fit,D.fits,zfC,D.py,D.pys,PyData.eqv,PyData.eqvAll]
noncomputable def zjG(l:List Int)(k:Int):Int:=if k<l.length then l.getD k.toNat 0 else if l=[] then 0 else l.getD (k % l.length).toNat 0*31+k
def zbR(l:List Int)(k:Int)(many:Int):Int :=
 let d:=(zjG l k+6151*(k+1))*40692 % 2147483399
 (d*d+d / 31) % 2147483629 % many
def zbQ(l:List Int)(k:Int)(h:0<many):0<=zbR l k many/\zbR l k many<many:=⟨ycT _ (by omega),ycm _ h⟩
@[simp] def zw9:zbX 31=true:=by decide
@[simp] def zt6:zbX 6151=true:=by decide
@[simp] def ztp:zbX 40692=true:=by decide
theorem zor(h0:-(2 ^ 64)<i)(h:i<2 ^ 64):zbX i=true:=by unfold zbX;simp;omega
theorem zmu(hk:0<=k):zbp [.scr l,.int k] S=.ok (.int (zjG l k)) S:=by
 unfold zjG
 by_cases h:k<l.length
 ·have hx:l[k.toNat]?=some l[k.toNat]:=yac (by omega);rw [if_pos h,yax,hx];simp [zbp,zan,zbT,h,zei hk,hx]
 ·by_cases h0:l=[]
  ·subst h0;simp [zbp,zan,zbT,zfl,show ¬ k<0 by omega]
  ·have hl:0<l.length:=by cases l with | nil=>exact absurd rfl h0 | cons _ _=>simp
   have hm0:0<=k % (l.length:Int):=ycT _ (by omega);have hm1:k % (l.length:Int)<l.length:=ycm _ (by omega);have hx:l[(k % (l.length:Int)).toNat]?=some (l[(k % (l.length:Int)).toNat]'(by omega)):=yac (by omega);rw [if_neg h,if_neg h0,yax,hx];simp [zbp,zan,zbT,h,h0,zfl,zei hm0,hx,hl]
theorem zbG(hk:0<=k)(hm:0<many):zas [.scr l,.int k,.int many] S=.ok (.int (zbR l k many)) S:=by
 unfold zbR;have h0:0<=(zjG l k+6151*(k+1))*40692 % 2147483399:=ycT _ (by omega);have h1:(zjG l k+6151*(k+1))*40692 % 2147483399<2147483399:=ycm _ (by omega);have hf:zbX ((zjG l k+6151*(k+1))*40692 % 2147483399)=true:=zor (by omega) (by omega);simp [zas,zan,zdl,zmu hk,hf,hm]
noncomputable def zaj(t:List Int):D:=.tup (t.map D.int)
def zna{t u:List Int}:t.map D.int=u.map D.int↔t=u:=by
 constructor
 ·intro h
  induction t generalizing u with
  | nil=>cases u with | nil=>rfl | cons _ _=>cases h
  | cons a t ih=>cases u with
   | nil=>cases h
   | cons b u =>
    simp only [yaz,List.cons.injEq,D.int.injEq] at h;rw [h.1,ih h.2]
 ·rintro rfl;rfl
def zmh:zaj t=zaj u↔t=u:=by unfold zaj;rw [D.tup.injEq];exact zna
def zmD{t:List Int}:D.pls (t.map D.int)=true:=by rw [D.pls_iff];intro d hd;obtain ⟨i,_,rfl⟩:=yau.mp hd;rfl
def zkQ:(zaj t).pl=true:=zmD
def zlC{t:List Int}:D.fits n (t.map D.int)=true:=by rw [D.fits_iff];intro d hd;obtain ⟨i,_,rfl⟩:=yau.mp hd;exact zqy
def ziK:(zaj t).fit (n+1)=true:=zlC
theorem zoe:∀{l:List D},d.pl=true->D.pls l=true->(zjS d l=true↔d∈l)
 | [],_,_=>by simp [zjS]
 | e::l,h,hl=>by
  simp only [D.pls,yab] at hl;have ih:=zoe (d:=d) (l:=l) h hl.2;have e1:=zlF e d hl.1 h;unfold zjS;simp only [ydc,ycU,yaw];unfold zjS at ih;rw [ih];unfold zfC;rw [e1]
  constructor<;>(intro z;rcases z with z | z<;>simp [z])
def zgA{ts:Z2}:zma (zaj t) (.lst (ts.map zaj))=some (.bl (!decide (t∈ts))):=by
 have f1:(zaj t).fit 8=true:=ziK
 have f2:D.fits 8 (ts.map zaj)=true:=by rw [D.fits_iff];intro d hd;obtain ⟨i,_,rfl⟩:=yau.mp hd;exact ziK
 have p2:D.pls (ts.map zaj)=true:=by rw [D.pls_iff];intro d hd;obtain ⟨i,_,rfl⟩:=yau.mp hd;exact zkQ
 have m:=zoe (d:=zaj t) zkQ p2
 have:(zaj t∈ts.map zaj)↔t∈ts:=by
  rw [yau];constructor
  ·rintro ⟨u,hu,e⟩;rw [<-zmh.mp e];exact hu
  ·intro h;exact ⟨t,h,rfl⟩
 rw [this] at m;unfold zma;simp only [zkp,f1,f2,Bool.and_self,ybU,Option.some.injEq,D.bl.injEq];congr 1
 by_cases h:t∈ts
 ·rw [m.mpr h];simp [h]
 ·cases hm:zjS (zaj t) (ts.map zaj)
  ·simp [h]
  ·exact absurd (m.mp hm) h
structure Tiles(most:Int)(ts:Z2):Prop where
 ne:1<=ts.length
 le:(ts.length:Int)<=most
 four:∀t∈ts,t.length=4
 col:∀t∈ts,∀c∈t,0<=c/\c<3
 nd:ts.Nodup
def zcy{k:Nat}(h:(zao 0 hi)[k]?=some d):d=.int k/\(k:Int)<hi:=by
 unfold zao at h;rw [yaq] at h
 cases hr:(List.range (hi-0).toNat)[k]? with
 | none=>rw [hr] at h;cases h
 | some j =>
  rw [hr] at h;obtain ⟨h1,h2⟩:=yap.mp hr;simp at h1 h2;subst h2;simp at h;exact ⟨h.symm,by omega⟩
@[simp] def zkI:(zao 0 hi).length=hi.toNat:=by unfold zao;simp
def zlG(h:d.pl=true)(f:d.fit 9=true):eqD d d=some (.bl true):=by
 unfold eqD zfC;rw [f,(zlF d d h h).mpr rfl];rfl
def zr4:zao 0 4=[.int 0,.int 1,.int 2,.int 3]:=by rfl
@[simp] def zyA:zbX 4=true:=by decide
@[simp] def zyz:zbX 7=true:=by decide
theorem zoK(ha:0<=at')(hk:0<=k)(hc:0<col)(hc3:col<=3)(hn:ts.length<=1000) :
  ∃t y',t.length=4/\(∀c∈t,0<=c/\c<3)/\za2 [some (false,.scr l),some (false,.int at'),some (false,.int most),some (false,.int col),some (true,.lst (ts.map zaj)),some (false,.int k),y] S
   = .nx [some (false,.scr l),some (false,.int at'),some (false,.int most),some (false,.int col),some (true,.lst ((if t∈ts then ts else ts++[t]).map zaj)),some (false,.int k),y'] S:=by
 have hcomp:∀ρ0:Env,ρ0=[none,some (false,.int at'),some (false,.int col),some (false,.int k),some (false,.scr l)]->zbr (.one 0) zd5 (eFn zas [(zaf 4),(zat zdJ (zat zdJ (zat zdJ (zap 1) (zat zjR (zaw (.int 4)) (zap 3))) (zaw (.int 2))) (zap 0)),(zaf 2)]) ρ0 (zao 0 4) S
   = .ok ([zbR l (at'+4*k+2+0) col,zbR l (at'+4*k+2+1) col,zbR l (at'+4*k+2+2) col,zbR l (at'+4*k+2+3) col].map D.int) S:=by
  rintro _ rfl;rw [zr4,zaR (g:=fun d=>match d with | .int i=>.int (zbR l (at'+4*k+2+i) col) | _=>.non)]
  ·rfl
  ·intro d hd;simp only [yaw,ybJ,yde] at hd
   rcases hd with rfl | rfl | rfl | rfl<;>exact ⟨_,rfl,by simp;rw [zbG (by omega) hc]⟩
 have b0:=zbQ l (at'+4*k+2+0) hc;have b1:=zbQ l (at'+4*k+2+1) hc;have b2:=zbQ l (at'+4*k+2+2) hc;have b3:=zbQ l (at'+4*k+2+3) hc;generalize zbR l (at'+4*k+2+0) col=p0 at *;generalize zbR l (at'+4*k+2+1) col=p1 at *;generalize zbR l (at'+4*k+2+2) col=p2 at *;generalize zbR l (at'+4*k+2+3) col=p3 at *
 have fin:∀t:List Int,(zal (sFz [] (sIf (zat zma (zap 6) (zap 4)) (zal (sFz [6] (zhk 4 (zaf 6))) sNx) sNx)) sNx) [some (false,.scr l),some (false,.int at'),some (false,.int most),some (false,.int col),some (true,.lst (ts.map zaj)),some (false,.int k),some (false,zaj t)] S
   = .nx [some (false,.scr l),some (false,.int at'),some (false,.int most),some (false,.int col),some (true,.lst ((if t∈ts then ts else ts++[t]).map zaj)),some (false,.int k),some (false,zaj t)] S:=by
  intro t
  by_cases h:t∈ts
  ·simp [zgA,h]
  ·simp [zgA,h,show ts.length<=100000 by omega]
 by_cases h3:zbR l (at'+60+k) 3=0
 ·refine ⟨[p0,p1,p0,p1],some (false,zaj [p0,p1,p0,p1]),rfl,by simp;omega,?_⟩;rw [<-fin];simp [za2,hcomp,zbG (show 0<=at'+60+k by omega) (show (0:Int)<3 by omega),h3];rfl
 ·refine ⟨[p0,p1,p2,p3],some (false,zaj [p0,p1,p2,p3]),rfl,by simp;omega,?_⟩;rw [<-fin];simp [za2,hcomp,zbG (show 0<=at'+60+k by omega) (show (0:Int)<3 by omega),h3];rfl
theorem zky(ha:0<=at')(hm:0<most)(hm2:most<=100):∃ts,Tiles most ts/\zbU [.scr l,.int at',.int most] S=.ok (.tup (ts.map zaj)) S:=by
 have b:=zbQ l at' (many:=2) (by omega);have n:=zbQ l (at'+1) hm;have p1:=zbG (l:=l) (S:=S) ha (show (0:Int)<2 by omega);have p2:=zbG (l:=l) (S:=S) (show 0<=at'+1 by omega) hm;generalize zbR l at' 2=c at *;generalize zbR l (at'+1) most=m at *
 obtain ⟨ρ',e,ts,x,y,rfl,h1,h2,h3,h4,h5⟩:=zdA (tg:=.one 5) (body:=za2) (ds:=zao 0 (1+m)) (S:=S) (fun k ρ=>∃ts x y,ρ=[some (false,.scr l),some (false,.int at'),some (false,.int most),some (false,.int (2+c)),some (true,.lst (ts.map zaj)),x,y]/\ts.length<=k/\(0<k->1<=ts.length)/\(∀t∈ts,t.length=4)/\(∀t∈ts,∀c∈t,0<=c/\c<3)/\ts.Nodup) (by
   rintro k d ρ hd ⟨ts,x,y,rfl,h1,h2,h3,h4,h5⟩;obtain ⟨rfl,hk⟩:=zcy hd;obtain ⟨t,y',a1,a2,a3⟩:=zoK (l:=l) (at':=at') (most:=most) (col:=2+c) (k:=k) (S:=S) (ts:=ts) (y:=y) ha (by omega) (by omega) (by omega) (by omega);refine ⟨_,_,rfl,a3,_,_,_,rfl,?_,?_,?_,?_,?_⟩
   ·split<;>(try simp)<;>omega
   ·intro _;split
    ·rename_i h;exact List.length_pos_of_mem h
    ·simp
   ·intro u hu;split at hu
    ·exact h3 u hu
    ·rw [ya1,yaH] at hu
     rcases hu with hu | rfl
     ·exact h3 u hu
     ·exact a1
   ·intro u hu;split at hu
    ·exact h4 u hu
    ·rw [ya1,yaH] at hu
     rcases hu with hu | rfl
     ·exact h4 u hu
     ·exact a2
   ·split
    ·exact h5
    ·rename_i h;rw [List.nodup_append];refine ⟨h5,by simp,?_⟩
     intro a ha b hb;rw [yaH] at hb;subst hb;rintro rfl;exact h ha)
  (ρ:=[some (false,.scr l),some (false,.int at'),some (false,.int most),some (false,.int (2+c)),some (true,.lst []),none,none]) ⟨[],none,none,rfl,by simp,by simp,by simp,by simp,by simp⟩
 rw [zkI] at h1 h2;refine ⟨ts,⟨h2 (by omega),by omega,h3,h4,h5⟩,?_⟩;simp [zbU,zan,zcJ,p1,p2,show -1000000<=1+m/\1+m<=1000000 by omega,e]
noncomputable def oD:Option Int->D | none=>.non | some i=>.int i
noncomputable def zfz(c:Nat)(g:Nat->Option Int):List D:=(List.range c).map fun j=>oD (g j)
def zib(c:Nat)(g:Nat->Option Int):D:=.tup (zfz c g)
noncomputable def zc5(r c:Nat)(g:Z1):List D:=(List.range r).map fun i=>zib c (g i)
def flr(r c:Nat)(g:Z1):D:=.tup (zc5 r c g)
@[simp] def zia:(zfz c g).length=c:=by simp [zfz]
@[simp] def ziI:(zc5 r c g).length=r:=by simp [zc5]
def zfy(h:j<c):(zfz c g)[j]?=some (oD (g j)):=by simp [zfz,h]
def zdB(h:i<r):(zc5 r c g)[i]?=some (zib c (g i)):=by simp [zc5,h]
@[simp] def zvv(h:i<(zc5 r c g).length):(zc5 r c g)[i]=zib c (g i):=by simp [zc5]
def zkG:zfz (k+1) g=zfz k g++[oD (g k)]:=by simp [zfz,ybQ]
def zlB:zc5 (k+1) c g=zc5 k c g++[zib c (g k)]:=by simp [zc5,ybQ]
def zl9(l:List Int)(at' n m:Int)(i j:Nat):Option Int:=if zbR l (at'+7*i+j) (n*m)<n then some (zbR l (at'+7*i+j) (n*m)) else none
theorem zsR(h:0<n*m):∀x,zl9 l at' n m i j=some x->0<=x/\x<n:=by
 intro x e;unfold zl9 at e;have:=zbQ l (at'+7*i+j) h;split at e
 ·cases e;omega
 ·cases e
theorem znh{l:List Int}{at' m:Int}{ts:List D}{r c:Nat}{i:Nat}{S:Sto}{A B Mm:Option (Bool×D)}{y:Option (Bool×D)}{z:Option (Bool×D)}(ha:0<=at')(hp:0<(ts.length:Int)*m)(hm:zbX m=true)(hc:c<=1000) :
  ∃y' z',zfi (.one 9) za3 (zao 0 c) [some (false,.scr l),some (false,.int at'),some (false,.tup ts),A,B,some (false,.int m),Mm,some (false,.int i),some (true,.lst []),y,z] S
   = .nx [some (false,.scr l),some (false,.int at'),some (false,.tup ts),A,B,some (false,.int m),Mm,some (false,.int i),some (true,.lst (zfz c (zl9 l at' ts.length m i))),y',z'] S:=by
 obtain ⟨ρ',e,y',z',rfl⟩:=zdA (tg:=.one 9) (body:=za3) (ds:=zao 0 c) (S:=S) (fun k ρ=>∃y z,ρ=[some (false,.scr l),some (false,.int at'),some (false,.tup ts),A,B,some (false,.int m),Mm,some (false,.int i),some (true,.lst (zfz k (zl9 l at' ts.length m i))),y,z]) (by
  rintro k d ρ hd ⟨y,z,rfl⟩;obtain ⟨rfl,hk⟩:=zcy hd;have p:=zbG (l:=l) (S:=S) (show 0<=at'+7*(i:Int)+(k:Int) by omega) hp;have pn:=zbQ l (at'+7*(i:Int)+(k:Int)) hp;refine ⟨_,_,rfl,?_,some (false,.int k),some (false,.int (zbR l (at'+7*i+k) (ts.length*m))),rfl⟩
  ·rw [zkG]
   by_cases h:zbR l (at'+7*(i:Int)+(k:Int)) (ts.length*m)<ts.length
   ·simp [za3,p,hm,h,zl9,oD,show k<=100000 by omega]
   ·simp [za3,p,hm,h,zl9,oD,show k<=100000 by omega])
  (ρ:=[some (false,.scr l),some (false,.int at'),some (false,.tup ts),A,B,some (false,.int m),Mm,some (false,.int i),some (true,.lst []),y,z]) ⟨y,z,rfl⟩
 exact ⟨y',z',by simpa using e⟩
theorem zkF(ha:0<=at')(hp:0<(ts.length:Int)*m)(hm:zbX m=true)(hr:0<=r)(hr2:r<=1000)(hc:0<=c)(hc2:c<=1000) :
  zbv [.scr l,.int at',.tup ts,.int r,.int c,.int m] S=.ok (flr r.toNat c.toNat (zl9 l at' ts.length m)) S:=by
 obtain ⟨r,rfl⟩:=ycs hr;obtain ⟨c,rfl⟩:=ycs hc
 obtain ⟨ρ',e,x1,x2,x3,x4,rfl⟩:=zdA (tg:=.one 7) (body:=zb5) (ds:=zao 0 r) (S:=S) (fun k ρ=>∃x1 x2 x3 x4,ρ=[some (false,.scr l),some (false,.int at'),some (false,.tup ts),some (false,.int r),some (false,.int c),some (false,.int m),some (true,.lst (zc5 k c (zl9 l at' ts.length m))),x1,x2,x3,x4]) (by
  rintro k d ρ hd ⟨x1,x2,x3,x4,rfl⟩;obtain ⟨rfl,hk⟩:=zcy hd;obtain ⟨y',z',e⟩:=znh (l:=l) (at':=at') (m:=m) (ts:=ts) (r:=r) (c:=c) (i:=k) (S:=S) (A:=some (false,.int r)) (B:=some (false,.int c)) (Mm:=some (true,.lst (zc5 k c (zl9 l at' ts.length m)))) (y:=x3) (z:=x4) ha hp hm (by omega);refine ⟨_,_,rfl,?_,some (false,.int k),some (true,.lst (zfz c (zl9 l at' ts.length m k))),y',z',rfl⟩
  ·rw [zlB]
   simp [zb5,e,zib,show -1000000<=(c:Int)/\(c:Int)<=1000000 by omega,show k<=100000 by omega])
  (ρ:=[some (false,.scr l),some (false,.int at'),some (false,.tup ts),some (false,.int r),some (false,.int c),some (false,.int m),some (true,.lst []),none,none,none,none]) ⟨none,none,none,none,rfl⟩
 simp at e;simp [zbv,zan,zcK,e,flr,show -1000000<=(r:Int)/\(r:Int)<=1000000 by omega]
def zw0(cn f:Str):Out D->Out D | .ok d S=>(match zop cn f d S with | some r=>.ok r S | none=>.bad) | .exc c S=>.exc c S | .bad=>.bad
noncomputable def ziE(G:List D->Sto->Out D)(d:D):Out (List D)->Out D | .ok ds S=>G (d::ds) S | .exc c S=>.exc c S | .bad=>.bad
def zta(c m:Str)(G:List D->Sto->Out D)(fs:List Fe)(ρ:Env):Out D->Out D | .ok d S=>if zby c m d S then ziE G d (zai fs ρ S) else .bad | .exc c S=>.exc c S | .bad=>.bad
noncomputable def zt3(n:Nat):Out D->Out D | .ok .non S=>.ok (.ref n) S | .ok _ _=>.bad | .exc c S=>.exc c S | .bad=>.bad
noncomputable def kMk(c:Str)(dds:List D)(G:List D->Sto->Out D):Out (List D)->Out D | .ok ds S=>zt3 S.length (G (.ref S.length::(ds++dds)) (S++[⟨c,[]⟩])) | .exc c S=>.exc c S | .bad=>.bad
section
variable{ρ:Env}{S:Sto}{f:Fe}{n i:Nat}
@[simp] def zwb:zra c x f ρ S=zw0 c x (f ρ S):=by unfold zra;cases f ρ S<;>rfl
@[simp] def zyd:zw0 c x (.ok d S)=(match zop c x d S with | some r=>.ok r S | none=>.bad):=(rfl)
@[simp] def zui:zdG c m G f fs ρ S=zta c m G fs ρ (f ρ S):=by
 unfold zdG
 cases f ρ S with
 | ok d S1 =>
  show (if zby c m d S1 then (zai fs ρ S1).bind fun ds S2=>G (d::ds) S2 else .bad)=(if zby c m d S1 then ziE G d (zai fs ρ S1) else .bad)
  cases zai fs ρ S1<;>rfl
 | exc c S=>rfl
 | bad=>rfl
@[simp] def zwF:zta c m G fs ρ (.ok d S)=if zby c m d S then ziE G d (zai fs ρ S) else .bad:=(rfl)
@[simp] def zvc:ziE G d (.ok ds S)=G (d::ds) S:=(rfl)
@[simp] def zxA:eMk c dds G fs ρ S=kMk c dds G (zai fs ρ S):=by
 unfold eMk
 cases zai fs ρ S with
 | ok ds S1 =>
  show ((G (.ref S1.length::(ds++dds)) (S1++[⟨c,[]⟩])).bind fun r S2=>match r with | .non=>.ok (.ref S1.length) S2 | _=>.bad)=zt3 S1.length (G (.ref S1.length::(ds++dds)) (S1++[⟨c,[]⟩]))
  cases G (.ref S1.length::(ds++dds)) (S1++[⟨c,[]⟩]) with
  | ok r S2=>cases r<;>rfl
  | exc c S=>rfl
  | bad=>rfl
 | exc c S=>rfl
 | bad=>rfl
@[simp] def zyN:kMk c dds G (.ok ds S)=zt3 S.length (G (.ref S.length::(ds++dds)) (S++[⟨c,[]⟩])):=(rfl)
@[simp] def zx4:zt3 n (.ok .non S)=.ok (.ref n) S:=(rfl)
noncomputable def alb(ts:D)(ds:List (D×D))(dn un:List D):Ob:=⟨"Album",[("tiles",false,ts),("named",true,.tup [.dic ds]),("done",true,.tup [.lst dn]),("undone",true,.tup [.lst un])]⟩
variable{ts:D}{ds ds':List (D×D)}{dn un dn' un':List D}
def zeS:zd3 (alb ts ds dn un)=true:=by
 show decide (["tiles","named","done","undone"]:List Str).Nodup=true;decide
def znI(h:S[n]?=some (alb ts ds dn un)):zop "Album" "tiles" (.ref n) S=some ts:=by unfold zop;dsimp only;rw [h];rfl
def zcr(hi:ρ[i]?=some (some (false,.ref n)))(h:S[n]?=some (alb ts ds dn un))(ho:zau ds=true):dicI "Album" "named" ρ S i=some (n,alb ts ds dn un,ds):=by
 unfold dicI zin;rw [hi];dsimp only [zq6];rw [h];show (if zau ds then some (n,alb ts ds dn un,ds) else none)=_;rw [if_pos ho]
def zl0(hi:ρ[i]?=some (some (false,.ref n)))(h:S[n]?=some (alb ts ds dn un)):zin "Album" "done" ρ S i=some (n,alb ts ds dn un,.lst dn):=by
 unfold zin;rw [hi];dsimp only [zq6];rw [h];rfl
def zlZ(hi:ρ[i]?=some (some (false,.ref n)))(h:S[n]?=some (alb ts ds dn un)):zin "Album" "undone" ρ S i=some (n,alb ts ds dn un,.lst un):=by
 unfold zin;rw [hi];dsimp only [zq6];rw [h];rfl
def zdX{m:Str}(h:S[n]?=some (alb ts ds dn un))(hm:(m == ("tiles":Str))=false/\(m == ("named":Str))=false/\(m == ("done":Str))=false/\(m == ("undone":Str))=false):zby "Album" m (.ref n) S=true:=by
 unfold zby;dsimp only;rw [h];show (true&&(List.lookup m _).isNone)=true;simp [alb,List.lookup,hm]
def zkn{ob ob':Ob}(h:S[n]?=some ob):(S.set n ob')[n]?=some ob':=by
 rw [yaG (yap.mp h).1]
def zyp{k:Str}(hi:ρ[i]?=some (some (false,.ref n)))(h:S[n]?=some (alb ts ds dn un))(ho:zau ds=true){j:Nat}(hj:ρ[j]?=some (some (false,.str k))):eQ (zmz "Album" "named" i (zbw j)) ρ S=.ok (.bl (zaB k ds).isSome) S:=by
 unfold eQ zmz;rw [zcr hi h ho,show zbw j ρ S=some (.str k) by unfold zbw;rw [hj]]
def zu7{k:Str}(hi:ρ[i]?=some (some (false,.ref n)))(h:S[n]?=some (alb ts ds dn un))(ho:zau ds=true){j:Nat}(hj:ρ[j]?=some (some (false,.str k))):eQ (zfB "Album" "named" i (zbw j)) ρ S=.ok (.bl (!(zaB k ds).isSome)) S:=by
 unfold eQ zfB;rw [zcr hi h ho,show zbw j ρ S=some (.str k) by unfold zbw;rw [hj]]
def zym{k:Str}{d:D}(hi:ρ[i]?=some (some (false,.ref n)))(h:S[n]?=some (alb ts ds dn un))(ho:zau ds=true){j:Nat}(hj:ρ[j]?=some (some (false,.str k)))(hd:zaB k ds=some d):eQ (zpy "Album" "named" i (zbw j)) ρ S=.ok d S:=by
 unfold eQ zpy;rw [zcr hi h ho,show zbw j ρ S=some (.str k) by unfold zbw;rw [hj]];dsimp only;rw [hd]
noncomputable def nmd(k:Str)(d:D)(ds:List (D×D)):List (D×D):=match d with | .non=>dropS k ds | d=>putS k d ds
def zmn(h:S[n]?=some ob):S.set n ob=S:=by
 apply ybp;intro m
 by_cases e:n=m
 ·subst e;rw [zkn h,h]
 ·rw [yaU e]
theorem zgS{k:Str}:∀{ds:List (D×D)},zau ds=true->zaB k ds=none->dropS k ds=ds
 | [],_,_=>rfl
 | (.str x,d)::r,ho,h=>by
  unfold zau at ho;rw [yab] at ho;unfold zaB at h;split at h
  ·cases h
  ·rename_i hx;unfold dropS;rw [if_neg hx,zgS ho.2 h]
def zms{k:Str}{d:D}(h:S[n]?=some (alb ts ds dn un))(ho:zau ds=true)(hl:ds.length<=100000):zaz [.ref n,.str k,d] S=.ok .non (S.set n (alb ts (nmd k d ds) dn un)):=by
 by_cases hn:zc3 d=true
 ·have e:d=.non:=zez hn;subst e
  have e1:∀ρ:Env,ρ[0]?=some (some (false,.ref n))->ρ[1]?=some (some (false,.str k))->zja "Album" "named" 0 (zbw 1) ρ S=.nx ρ (S.set n (alb ts (dropS k ds) dn un)):=by
   intro ρ h0 h1;unfold zja;rw [show zbw 1 ρ S=some (.str k) by unfold zbw;rw [h1],zcr h0 h ho];dsimp only;rw [if_pos zeS]
   cases hl:zaB k ds with
   | some d=>rfl
   | none =>
    dsimp only [Option.isSome];have:dropS k ds=ds:=zgS ho hl;rw [this,if_neg (by decide)];congr 1;exact (zmn h).symm
  have e3:zmb .non .non=some (.bl true):=rfl;simp [zaz,zan,zaN,e3,e1,nmd]
 ·have e1:∀ρ:Env,ρ[0]?=some (some (false,.ref n))->ρ[1]?=some (some (false,.str k))->ρ[2]?=some (some (false,d))->zi9 "Album" "named" 0 (zbw 1) (zbw 2) ρ S=.nx ρ (S.set n (alb ts (putS k d ds) dn un)):=by
   intro ρ h0 h1 h2;unfold zi9;rw [show zbw 1 ρ S=some (.str k) by unfold zbw;rw [h1],show zbw 2 ρ S=some d by unfold zbw;rw [h2],zcr h0 h ho];dsimp only;rw [if_pos (by rw [zeS,show zaE ds.length=true from yaQ hl];rfl)];rfl
  have e2:nmd k d ds=putS k d ds:=by
   unfold nmd
   cases d<;>first | rfl | exact absurd rfl hn
  have hn':zc3 d=false:=by simpa using hn
  rw [e2]
  have e3:zmb d .non=some (.bl false):=by unfold zmb;rw [hn'];rfl
  simp [zaz,zan,zaN,e3,e1]
end
section
variable{ρ:Env}{S:Sto}{n i:Nat}{ts:D}{ds:List (D×D)}{dn un:List D}
def qv{j:Nat}{d:D}(h:ρ[j]?=some (some (false,d))):zbw j ρ S=some d:=by unfold zbw;rw [h]
def zrZ{w k:Str}{d:D}(h:S[n]?=some (alb ts ds dn un))(ho:zau ds=true)(hl:ds.length<=100000)(hd:dn.length<=100000) :
  zcU [.ref n,.str w,.str k,d] S=.ok .non (S.set n (alb ts (nmd k d ds) (dn++[.tup [.str w,.str k,(zaB k ds).getD .non,d]]) [])):=by
 have e1:∀ρ:Env,ρ[0]?=some (some (false,.ref n))->ρ[1]?=some (some (false,.str w))->ρ[2]?=some (some (false,.str k))->ρ[3]?=some (some (false,d)) →
   zjd "Album" "done" 0 [(zbw 1),(zbw 2),(zgr "Album" "named" 0 (zbw 2)),(zbw 3)] ρ S=.nx ρ (S.set n (alb ts ds (dn++[.tup [.str w,.str k,(zaB k ds).getD .non,d]]) un)):=by
  intro ρ h0 h1 h2 h3
  have q:zhC [(zbw 1),(zbw 2),(zgr "Album" "named" 0 (zbw 2)),(zbw 3)] ρ S=some [.str w,.str k,(zaB k ds).getD .non,d]:=by
   have g:zgr "Album" "named" 0 (zbw 2) ρ S=some ((zaB k ds).getD .non):=by unfold zgr;rw [qv h2,zcr h0 h ho]
   simp only [zhC,qv h1,qv h2,qv h3,g,Option.bind,Option.map]
  unfold zjd;rw [zl0 h0 h,q];dsimp only;rw [if_pos (by rw [zeS,show zaE dn.length=true from yaQ hd];rfl)];rfl
 generalize hx:dn++[.tup [.str w,.str k,(zaB k ds).getD .non,d]]=dn' at e1 ⊢;have h1:(S.set n (alb ts ds dn' un))[n]?=some (alb ts ds dn' un):=zkn h
 have e2:∀ρ:Env,ρ[0]?=some (some (false,.ref n))->zeT "Album" "undone" 0 ρ (S.set n (alb ts ds dn' un))=.nx ρ (S.set n (alb ts ds dn' [])):=by
  intro ρ h0;unfold zeT;rw [h0];dsimp only;rw [h1];show (if _ then Fo.nx ρ ((S.set n (alb ts ds dn' un)).set n (alb ts ds dn' [])) else _)=_;rw [if_pos (by rfl),List.set_set]
 have h2:(S.set n (alb ts ds dn' []))[n]?=some (alb ts ds dn' []):=zkn h;have e3:=zms (k:=k) (d:=d) h2 ho hl;have m:zby "Album" "name_floor" (.ref n) (S.set n (alb ts ds dn' []))=true:=zdX h2 (by decide);simp [zcU,zan,zdU,e1,e2,e3,m]
noncomputable def zub(k:Str):Prop:=k = "a" \/ k = "b" \/ k = "c" \/ k = "sheet"
def ze8{k:Str}(h:zub k):zdu [.str k] S=.ok (.bl true) S:=by
 rcases h with rfl | rfl | rfl | rfl<;>kernel_rfl
def zjg{k:Str}(h:zub k):za5 [.str k] S=.ok .non S:=by
 simp [za5,zan,zbA,ze8 h,zdP]
def zhp{k:Str}{d:D}(hk:zub k)(h:S[n]?=some (alb ts ds dn un))(ho:zau ds=true)(hd:zaB k ds=some d):za6 [.ref n,.str k] S=.ok d S:=by
 have e1:∀ρ:Env,ρ[0]?=some (some (false,.ref n))->ρ[1]?=some (some (false,.str k))->eQ (zfB "Album" "named" 0 (zbw 1)) ρ S=.ok (.bl false) S:=fun ρ h0 h1=>by rw [zu7 h0 h ho h1,hd];rfl
 have e2:∀ρ:Env,ρ[0]?=some (some (false,.ref n))->ρ[1]?=some (some (false,.str k))->eQ (zpy "Album" "named" 0 (zbw 1)) ρ S=.ok d S:=fun ρ h0 h1=>zym h0 h ho h1 hd
 simp [za6,zan,zbB,ze8 hk,zdP,e1,e2]
def zps{k:Str}{d:D}(hk:zub k)(hn:zc3 d=false)(h:S[n]?=some (alb ts ds dn un))(ho:zau ds=true)(hl:ds.length<=100000)(hd:dn.length<=100000)(hf:zbc [ts,d] S=.ok (.bl true) S) :
  zbP [.ref n,.str k,d] S=.ok (.bl (zaB k ds).isSome) (S.set n (alb ts (putS k d ds) (dn++[.tup [.str "put",.str k,(zaB k ds).getD .non,d]]) [])):=by
 have e1:∀ρ:Env,ρ[0]?=some (some (false,.ref n))->ρ[1]?=some (some (false,.str k))->eQ (zmz "Album" "named" 0 (zbw 1)) ρ S=.ok (.bl (zaB k ds).isSome) S:=fun ρ h0 h1=>zyp h0 h ho h1
 have e3:=zrZ (w:="put") (k:=k) (d:=d) h ho hl hd
 have en:nmd k d ds=putS k d ds:=by
  unfold nmd
  cases d<;>first | rfl | cases hn
 rw [en] at e3;have m:zby "Album" "do" (.ref n) S=true:=zdX h (by decide);simp [zbP,zan,zdm,zjg hk,znI h,hf,zdP,e1,e3,m]
end
noncomputable def FlD(rs:List (List D)):D:=.tup (rs.map D.tup)
noncomputable def zl8(n:Nat)(d:D):Prop:=d=.non\/∃x:Int,d=.int x/\0<=x/\x<n
structure FlOk(n c:Nat)(rs:List (List D)):Prop where
 ne:1<=rs.length
 c1:1<=c
 row:∀r∈rs,r.length=c/\∀d∈r,zl8 n d
section
variable{S:Sto}{n c c':Nat}{rs rs':List (List D)}{tl:List D}
def zdq{x:Int}:zaS [.int x] S=.ok (.bl true) S:=by
 simp [zaS,zan,zcb,zcu,zdP]
def za7{l:List D}{a b:Int}:zah [.tup l,.int a,.int b] S=.ok (.bl (decide (a<=l.length/\(l.length:Int)<=b))) S:=by
 by_cases h:a<=(l.length:Int)
 ·simp [zah,zan,zaU,zcu,h]
 ·simp [zah,zan,zaU,zcu,h]
def zjh{d:D}(h:zl8 tl.length d):zb8 [.tup tl,d] S=.ok (.bl true) S:=by
 rcases h with rfl | ⟨x,rfl,h1,h2⟩
 ·have e:zmb .non .non=some (.bl true):=rfl;simp [zb8,zan,zdC,e]
 ·have e:zmb (.int x) .non=some (.bl false):=rfl;simp [zb8,zan,zdC,e,zaP,zbz,zdq,h1,h2]
theorem zg5{α:Type}(f:α->Bool):∀l:List α,zea (l.map fun x=>.bl (f x))=some (l.map f)
 | []=>rfl
 | a::l=>by rw [yaz];unfold zea;rw [zg5 f l];rfl
theorem all_map{α:Type}{f:α->Bool}{l:List α}:ziV [.lst (l.map fun x=>.bl (f x))]=some (.bl (l.all f)):=by
 show (zea _).map _=_;rw [zg5];show some (D.bl ((l.map f).all id))=_;rw [List.all_map];rfl
theorem zkE{row:List D}(h1:1<=row.length)(hz:row.length<=1000)(h:∀d∈row,zl8 tl.length d):zcT [.tup tl,.tup row] S=.ok (.bl (decide (row.length<=6))) S:=by
 have ec:zbr (.one 0) zd5 (eFn zb8 [(zaf 1),(zaf 0)]) [none,some (false,.tup tl)] row S=.ok (row.map fun _=>.bl true) S:=by
  refine zaR fun d hd=>⟨_,rfl,?_⟩
  simp [zjh (h d hd)]
 have ea:=all_map (f:=fun _:D=>true) (l:=row)
 by_cases h6:row.length<=6
 ·have e6:((1:Int)<=row.length/\(row.length:Int)<=6):=⟨by omega,by omega⟩;simp [zcT,zan,zeh,za7,e6,ec,ea,zow,show row.length<=100000 by omega,h6]
 ·have e6:¬ ((1:Int)<=row.length/\(row.length:Int)<=6):=fun z=>h6 (by omega)
  simp [zcT,zan,zeh,za7,e6,h6]
theorem zho(h:FlOk tl.length c rs)(hr:rs.length<=1000)(hc:c<=1000):zbc [.tup tl,FlD rs] S=.ok (.bl (decide (rs.length<=6/\c<=6))) S:=by
 unfold FlD
 by_cases h6:rs.length<=6
 ·have e6:((1:Int)<=(rs.map D.tup).length/\((rs.map D.tup).length:Int)<=6):=by rw [yae];have:=h.ne;exact ⟨by omega,by omega⟩
  have ec:zbr (.one 0) zd5 (eFn zcT [(zaf 1),(zaf 0)]) [none,some (false,.tup tl)] (rs.map D.tup) S=.ok ((rs.map D.tup).map fun _=>.bl (decide (c<=6))) S:=by
   refine zaR fun d hd=>?_
   obtain ⟨r,hr',rfl⟩:=yau.mp hd;obtain ⟨hl,hok⟩:=h.row r hr';refine ⟨_,rfl,?_⟩;have e:=zkE (S:=S) (tl:=tl) (row:=r) (by rw [hl];exact h.c1) (by rw [hl];exact hc) hok;rw [hl] at e;simp [e]
  have ea:=all_map (f:=fun _:D=>decide (c<=6)) (l:=rs.map D.tup)
  obtain ⟨r0,zbH,hrs⟩:∃r0 zbH,rs=r0::zbH:=by
   cases hx:rs with
   | nil=>have:=h.ne;rw [hx] at this;cases this
   | cons a b=>exact ⟨a,b,rfl⟩
  have ef:((rs.map D.tup).all fun _=>decide (c<=6))=decide (c<=6):=by
   rw [hrs]
   by_cases hc6:c<=6
   ·simp [hc6]
   ·simp [hc6]
  rw [ef] at ea
  by_cases hc6:c<=6
  ·have ed:zbr (.one 0) zd5 (zat eqD (zar zdQ [(zap 0)]) (zar zdQ [(zat ixD (zap 1) (zaw (.int 0)))])) [none,some (false,.tup (rs.map D.tup))] (rs.map D.tup) S=.ok ((rs.map D.tup).map fun _=>.bl true) S:=by
    refine zaR fun d hd=>?_
    obtain ⟨r,hr',rfl⟩:=yau.mp hd;have l1:=(h.row r hr').1;have l2:=(h.row r0 (by rw [hrs];exact yav)).1;refine ⟨_,rfl,?_⟩
    have ea:atI (rs.map D.tup) 0=some (.tup r0):=by
     have:=zc0 (rs.map D.tup) 0;rw [hrs] at this ⊢;exact this
    simp [ea,l1,l2]
   have eb:=all_map (f:=fun _:D=>true) (l:=rs.map D.tup);rw [yaQ hc6] at ec ea;generalize rs.map D.tup=R at *;simp [zbc,zan,zcc,za7,e6,ec,ea,ed,eb,zow,zdP,h6,hc6,show R.length<=100000 by omega]
  ·rw [ybc hc6] at ec ea;generalize rs.map D.tup=R at *;simp [zbc,zan,zcc,za7,e6,ec,ea,zow,zdP,hc6,show R.length<=100000 by omega]
 ·have e6:¬ ((1:Int)<=(rs.map D.tup).length/\((rs.map D.tup).length:Int)<=6):=by rw [yae];intro z;omega
  generalize rs.map D.tup=R at *;simp [zbc,zan,zcc,za7,e6,zdP,h6]
end
section
variable{S:Sto}{n c c':Nat}{rs rs':List (List D)}{tl:List D}
theorem zff:∀t:List Int,zca (t.map D.int)=some t
 | []=>rfl
 | a::t=>by rw [yaz];unfold zca;rw [zff t];rfl
theorem zfc:∀ts:List (List Int),keysOf (ts.map zaj)=some ts
 | []=>rfl
 | t::ts=>by rw [yaz];unfold keysOf;rw [show zqf (zaj t)=some t from zff t,zfc ts];rfl
theorem zji{t:List Int}(h4:t.length=4)(hc:∀c∈t,0<=c/\c<3):zcB [zaj t] S=.ok (.bl true) S:=by
 have ec:zbr (.one 0) zd5 (eFn zce [(zaf 0)]) [none] (t.map D.int) S=.ok ((t.map D.int).map fun _=>.bl true) S:=by
  refine zaR fun d hd=>?_
  obtain ⟨x,hx,rfl⟩:=yau.mp hd;refine ⟨_,rfl,?_⟩;have:=hc x hx;simp [zce,zan,zdk,zdq,show 0<=x by omega,show x<=8 by omega]
 have ea:=all_map (f:=fun _:D=>true) (l:=t.map D.int)
 have hl:(t.map D.int).length=4:=by rw [yae];exact h4
 unfold zaj;generalize t.map D.int=T at *;have e4:((4:Int)<=T.length/\(T.length:Int)<=4):=⟨by omega,by omega⟩;simp [zcB,zan,zeH,za7,e4,ec,ea,show T.length<=100000 by omega]
theorem zkD{most:Int}{ts:Z2}(h:Tiles most ts)(hm:most<=5):zdt [.tup (ts.map zaj)] S=.ok (.bl true) S:=by
 have ec:zbr (.one 0) zd5 (eFn zcB [(zaf 0)]) [none] (ts.map zaj) S=.ok ((ts.map zaj).map fun _=>.bl true) S:=by
  refine zaR fun d hd=>?_
  obtain ⟨x,hx,rfl⟩:=yau.mp hd;refine ⟨_,rfl,?_⟩;simp [zji (h.four x hx) (h.col x hx)]
 have ea:=all_map (f:=fun _:D=>true) (l:=ts.map zaj);have hl:(ts.map zaj).length=ts.length:=yae _;have h1:=h.ne;have h2:=h.le
 have es:zdf (.tup (ts.map zaj))=some (.int ts.length):=by
  show (keysOf (ts.map zaj)).bind _=_;rw [zfc];exact if_pos ⟨by omega,h.nd⟩
 rw [ybl.mpr (fun _ _=>rfl)] at ea;generalize ts.map zaj=T at *;have e16:((1:Int)<=T.length/\(T.length:Int)<=16):=⟨by omega,by omega⟩;simp [zdt,zan,zfT,za7,ec,ea,es,zdP,hl,show ts.length<=100000 by omega,show (1:Int)<=ts.length by omega,show (ts.length:Int)<=16 by omega]
end
def zoo{n r c:Nat}{g:Z1}(h1:1<=r)(h2:1<=c)(hg:∀i j x,g i j=some x->0<=x/\x<n):FlOk n c ((List.range r).map fun i=>zfz c (g i)) where
 ne:=by rw [yae,ya8];exact h1
 c1:=h2
 row:=fun row hr=>by
  obtain ⟨i,_,rfl⟩:=yau.mp hr;refine ⟨zia,fun d hd=>?_⟩;unfold zfz at hd;obtain ⟨j,_,rfl⟩:=yau.mp hd
  cases hx:g i j with
  | none=>exact .inl rfl
  | some x=>exact .inr ⟨x,rfl,hg i j x hx⟩
section
variable{S:Sto}{es:List (D×D)}{k k1 k2:Str}{n c c':Nat}{rs rs':List (List D)}
variable{m:Nat}{ts:D}{ds:List (D×D)}{dn un:List D}
def zkB(h:S[m]?=some (alb ts ds dn un))(ho:zau ds=true)(hl:ds.length<64):zaT [.ref m] S=.ok (.lst ((zel (zd9 ds)).map D.str)) S:=by
 have e1:∀ρ:Env,ρ[0]?=some (some (false,.ref m))->zjB "Album" "named" 0 ρ S=.ok (.lst ((zel (zd9 ds)).map D.str)) S:=fun ρ h0=>by
  unfold zjB;rw [zcr h0 h ho];dsimp only;rw [if_pos hl]
 simp [zaT,zan,zcl,e1]
end
def zfu{S:Sto}{x:Ob}:(S++[x])[S.length]?=some x:=by simp
def zee{S:Sto}{x y:Ob}:(S++[x]).set S.length y=S++[y]:=by simp
def zmt{S:Sto}{T:D}(hs:∀S,zdt [T] S=.ok (.bl true) S):zaJ [.ref S.length,T] (S++[⟨"Album",[]⟩])=.ok .non (S++[alb T [] [] []]):=by
 have e1:zkv "Album" "tiles" (zaf 0) (zaf 1) [some (false,.ref S.length),some (false,T)] (S++[⟨"Album",[]⟩])=.nx [some (false,.ref S.length),some (false,T)] (S++[⟨"Album",[("tiles",false,T)]⟩]):=by
  show (match (S++[(⟨"Album",[]⟩:Ob)])[S.length]? with | some ob=>_ | none=>_)=_;rw [zfu];show (if _ then Fo.nx _ ((S++[(⟨"Album",[]⟩:Ob)]).set S.length _) else _)=_;rw [if_pos (by rfl),zee];rfl
 have e2:zkw "Album" "named" 0 [some (false,.ref S.length),some (false,T)] (S++[⟨"Album",[("tiles",false,T)]⟩])=.nx [some (false,.ref S.length),some (false,T)] (S++[⟨"Album",[("tiles",false,T),("named",true,.tup [.dic []])]⟩]):=by
  show (match (S++[(⟨"Album",[("tiles",false,T)]⟩:Ob)])[S.length]? with | some ob=>_ | none=>_)=_;rw [zfu];show (if _ then Fo.nx _ ((S++[_]).set S.length _) else _)=_;rw [if_pos (by rfl),zee];rfl
 have e3:zeT "Album" "done" 0 [some (false,.ref S.length),some (false,T)] (S++[⟨"Album",[("tiles",false,T),("named",true,.tup [.dic []])]⟩])=.nx [some (false,.ref S.length),some (false,T)] (S++[⟨"Album",[("tiles",false,T),("named",true,.tup [.dic []]),("done",true,.tup [.lst []])]⟩]):=by
  show (match (S++[(⟨"Album",[("tiles",false,T),("named",true,.tup [.dic []])]⟩:Ob)])[S.length]? with | some ob=>_ | none=>_)=_;rw [zfu];show (if _ then Fo.nx _ ((S++[_]).set S.length _) else _)=_;rw [if_pos (by rfl),zee];rfl
 have e4:zeT "Album" "undone" 0 [some (false,.ref S.length),some (false,T)] (S++[⟨"Album",[("tiles",false,T),("named",true,.tup [.dic []]),("done",true,.tup [.lst []])]⟩])=.nx [some (false,.ref S.length),some (false,T)] (S++[alb T [] [] []]):=by
  show (match (S++[(⟨"Album",[("tiles",false,T),("named",true,.tup [.dic []]),("done",true,.tup [.lst []])]⟩:Ob)])[S.length]? with | some ob=>_ | none=>_)=_;rw [zfu];show (if _ then Fo.nx _ ((S++[_]).set S.length _) else _)=_;rw [if_pos (by rfl),zee];rfl
 simp [zaJ,zan,zbC,hs,zdP,e1,e2,e3,e4]
section
variable{S:Sto}{m:Nat}{T:D}{ds es:List (D×D)}{dn un:List D}{n:Nat}
def zkA(h:S[m]?=some (alb T ds dn un)):zbg [.ref m] S=.ok (.tup [.int dn.length,.int un.length]) S:=by
 have e1:∀ρ:Env,ρ[0]?=some (some (false,.ref m))->zfW "Album" "done" 0 ρ S=.ok (.int dn.length) S:=fun ρ h0=>by unfold zfW;rw [zl0 h0 h]
 have e2:∀ρ:Env,ρ[0]?=some (some (false,.ref m))->zfW "Album" "undone" 0 ρ S=.ok (.int un.length) S:=fun ρ h0=>by unfold zfW;rw [zlZ h0 h]
 simp [zbg,zan,zck,e1,e2]
end
noncomputable abbrev plD(i j:Nat):D:=.tup [.int i,.int j]
noncomputable def zcE(r c:Nat):List D:=(List.range r).flatMap fun i=>(List.range c).map fun j=>plD i j
def zgt:zcE (k+1) c=zcE k c++(List.range c).map fun j=>plD k j:=by simp [zcE,ybQ]
def zdc(h:d∈zcE r c):∃i j,i<r/\j<c/\d=plD i j:=by
 simp only [zcE,ycc,ybg,yau] at h;obtain ⟨i,hi,j,hj,e⟩:=h;exact ⟨i,j,hi,hj,e.symm⟩
def zsj(hi:i<r)(hj:j<c):plD i j∈zcE r c:=by
 simp only [zcE,ycc,ybg,yau];exact ⟨i,hi,j,hj,rfl⟩
def zdd:(zcE r c).length=r*c:=by
 induction r with
 | zero=>simp [zcE]
 | succ k ih=>rw [zgt,yar,ih];simp [Nat.succ_mul]
def zep{r c:Nat}{g:Z1}{S:Sto}(h:1<=r):zcA [flr r c g] S=.ok (.tup [.int r,.int c]) S:=by
 have e:=zdB (c:=c) (g:=g) (i:=0) (r:=r) (by omega);simp [zcA,zan,zeG,flr,e,zib,show 0<r by omega]
theorem ze7(h:1<=r)(hr:r<=100)(hc:c<=100):zbN [flr r c g] S=.ok (.lst (zcE r c)) S:=by
 have inner:∀(k:Nat) (y:Option (Bool×D)),k<r->∃y',zfi (.one 4) zbK (zao 0 c) [some (false,flr r c g),some (false,.tup [.int r,.int c]),some (true,.lst (zcE k c)),some (false,.int k),y] S
   = .nx [some (false,flr r c g),some (false,.tup [.int r,.int c]),some (true,.lst (zcE (k+1) c)),some (false,.int k),y'] S:=by
  intro k y hk
  obtain ⟨ρ',e,y',rfl⟩:=zdA (tg:=.one 4) (body:=zbK) (ds:=zao 0 c) (S:=S) (fun j ρ=>∃y,ρ=[some (false,flr r c g),some (false,.tup [.int r,.int c]),some (true,.lst (zcE k c++(List.range j).map fun j=>plD k j)),some (false,.int k),y]) (by
   rintro j d ρ hd ⟨y,rfl⟩;obtain ⟨rfl,hj⟩:=zcy hd
   have hl:k*c+j<=100000:=by
    have:k*c<=100*100:=ybz (by omega) (by omega);omega
   refine ⟨_,_,rfl,?_,some (false,.int j),rfl⟩
   simp [zbK,ybQ,zdd,hl])
   (ρ:=[some (false,flr r c g),some (false,.tup [.int r,.int c]),some (true,.lst (zcE k c)),some (false,.int k),y]) ⟨y,by simp⟩
  refine ⟨y',?_⟩;rw [e,zgt];simp
 obtain ⟨ρ',e,x,y,rfl⟩:=zdA (tg:=.one 3) (body:=zco) (ds:=zao 0 r) (S:=S) (fun k ρ=>∃x y,ρ=[some (false,flr r c g),some (false,.tup [.int r,.int c]),some (true,.lst (zcE k c)),x,y]) (by
  rintro k d ρ hd ⟨x,y,rfl⟩;obtain ⟨rfl,hk⟩:=zcy hd;obtain ⟨y',e⟩:=inner k y (by omega);refine ⟨_,_,rfl,?_,some (false,.int k),y',rfl⟩
  simp [zco,e,show -1000000<=(c:Int)/\(c:Int)<=1000000 by omega])
  (ρ:=[some (false,flr r c g),some (false,.tup [.int r,.int c]),some (true,.lst []),none,none]) ⟨none,none,rfl⟩
 simp at e;simp [zbN,zan,zdh,zep h,e,show -1000000<=(r:Int)/\(r:Int)<=1000000 by omega]
def zdN(hi:i<r)(hj:j<c):zax [flr r c g,plD i j] S=.ok (oD (g i j)) S:=by
 simp [zax,zan,zdi,flr,plD,zc0,zdB hi,zfy hj,zib]
def zd1:zah [.tup l,.int a,.int b] S=.ok (.bl (decide (a<=l.length/\(l.length:Int)<=b))) S:=by
 by_cases h1:a<=(l.length:Int)
 ·by_cases h2:(l.length:Int)<=b<;>simp [zah,zan,zaU,zcu,h1,h2]
 ·simp [zah,zan,zaU,zcu,h1]
theorem zgo:zbf [.tup l,.tup k] S=.ok (.bl (decide (l.length=k.length))) S:=by
 simp [zbf,zan,zcj,zd1];rw [<-Bool.decide_and,decide_eq_decide];omega
def zqS{α:Type}{xs:List α}{p:α->Bool}:zea (xs.map fun x=>D.bl (p x))=some (xs.map p):=by
 induction xs with
 | nil=>rfl
 | cons x xs ih=>simp [zea,ih]
def ziU{α:Type}{xs:List α}{p:α->Bool}:ziV [.lst (xs.map fun x=>D.bl (p x))]=some (.bl (xs.all p)):=by
 show Option.map _ (zea _)=_;rw [zqS];simp [List.all_map]
@[simp] def zyB:eqD (oD a) (oD b)=some (.bl (decide (a=b))):=by
 cases a<;>cases b<;>simp [oD]
 ·rfl
 ·rfl
 ·rfl
@[simp] def zwt:zc3 (oD a)=decide (a=none):=by cases a<;>simp [oD]
theorem zeo{l:List D}{a k:Nat}{S:Sto}:zb7 [.tup l,.int a,.int k] S=.ok (.tup ((l.drop a).take k)) S:=by
 have h1:¬ ((0:Int) > a):=by omega
 have h2:¬ ((0:Int) > (a:Int)+(k:Int)):=by omega
 have e:znu l (some (a:Int)) (some ((a:Int)+(k:Int)))=(l.drop a).take k:=by
  unfold znu;rw [show (a:Int)+(k:Int)=((a+k:Nat):Int) by omega,HT.zku,HT.zku]
  by_cases h:a<=l.length
  ·rw [yb2 h]
   by_cases h':a+k<=l.length
   ·rw [yb2 h',show a+k-a=k by omega]
   ·rw [Nat.min_eq_right (by omega),ybF (by simp),ybF (by simp;omega)]
  ·rw [List.drop_eq_nil_of_le (by omega),List.drop_eq_nil_of_le (by omega)];simp
 simp [zb7,zan,zeF,h1,h2,e]
theorem zpt:((zfz c g).drop a).take k=zfz (min k (c-a)) fun j=>g (a+j):=by
 apply ybp;intro i;rw [ybX]
 by_cases h:i<k
 ·rw [if_pos h,ybb]
  by_cases h':a+i<c
  ·rw [zfy h',zfy (by omega)]
  ·rw [yaL (by simp;omega),yaL (by simp;omega)]
 ·rw [if_neg h,yaL (by simp;omega)]
def zqu:((zc5 r c g).drop a).take k=zc5 (min k (r-a)) c fun i=>g (a+i):=by
 apply ybp;intro i;rw [ybX]
 by_cases h:i<k
 ·rw [if_pos h,ybb]
  by_cases h':a+i<r
  ·rw [zdB h',zdB (by omega)]
  ·rw [yaL (by simp;omega),yaL (by simp;omega)]
 ·rw [if_neg h,yaL (by simp;omega)]
theorem zh6{r c a b k m:Nat}{g:Z1}{S:Sto}(hr:r<=1000):zie [flr r c g,.int a,.int b,.int k,.int m] S=.ok (flr (min k (r-a)) (min m (c-b)) fun i j=>g (a+i) (b+j)) S:=by
 have e:zbr (.one 0) zd5 (eFn zb7 [(zaf 0),(zaf 2),(zaf 1)]) [none,some (false,.int m),some (false,.int b)] (zc5 (min k (r-a)) c fun i=>g (a+i)) S=.ok (zc5 (min k (r-a)) (min m (c-b)) fun i j=>g (a+i) (b+j)) S:=by
  rw [zaR (g:=fun d=>match d with | .tup l=>.tup ((l.drop b).take m) | _=>.non)]
  ·simp [zc5,zib,zpt]
  ·intro d hd;simp only [zc5,yau,ybg] at hd;obtain ⟨i,hi,rfl⟩:=hd;exact ⟨_,rfl,by simp [zib,zeo]⟩
 have hl:min k (r-a)<=100000:=by omega
 simp [zie,zan,zlD,flr,zeo,zqu,e,hl]
theorem zen{l:List D}{n:Nat}{S:Sto}:zah [.tup l,.int n,.int n] S=.ok (.bl (decide (l.length=n))) S:=by
 rw [zd1];congr 3;apply propext;omega
theorem zh7(h1:1<=r)(hr:r<=1000):zcC [flr r c g,flr r' c' h] S=.ok (.bl (decide (r'=r/\c'=c))) S:=by
 by_cases e:r'=r
 ·subst e
  have hz:zf5 (zc5 r' c g) (zc5 r' c' h)=(List.range r').map fun i=>.tup [zib c (g i),zib c' (h i)]:=by
   apply ybp;intro i
   by_cases hi:i<r'
   ·have:i<(zf5 (zc5 r' c g) (zc5 r' c' h)).length:=by rw [zeb];simp;omega
    obtain ⟨x,y,e1,e2,e3⟩:=zfs (yac this);rw [zdB hi] at e1 e2;cases e1;cases e2;rw [yac this,e3];simp [hi]
   ·rw [yaL (by rw [zeb];simp;omega),yaL (by simp;omega)]
  have ec:zbr (.tup [0,1]) zd5 (eFn zbf [(zaf 0),(zaf 1)]) [none,none] (zf5 (zc5 r' c g) (zc5 r' c' h)) S=.ok ((List.range r').map fun _=>.bl (decide (c=c'))) S:=by
   rw [hz,zaR (g:=fun _=>.bl (decide (c=c')))]
   ·simp
   ·intro d hd;simp only [yau,ybg] at hd;obtain ⟨i,hi,rfl⟩:=hd;exact ⟨_,rfl,by simp [zib,zgo]⟩
  have ea:ziV [.lst ((List.range r').map fun _=>.bl (decide (c=c')))]=some (.bl (decide (c'=c))):=by
   rw [ziU (p:=fun _=>decide (c=c'))]
   by_cases hc:c=c'
   ·subst hc;simp
   ·have:((List.range r').all fun _=>false)=false:=by
     cases r' with
     | zero=>omega
     | succ n=>simp [ybQ]
    simp only [hc,show ¬ c'=c from fun z=>hc z.symm,decide_false,this]
  simp only [List.map_const',ya8] at ec ea;simp [zcC,zan,zdD,flr,zen,ec,ea,show r'<=100000 by omega]
 ·simp [zcC,zan,zdD,flr,zen,e]
noncomputable def zc2(g:Z1):D->Bool | .tup [.int i,.int j]=>(g i.toNat j.toNat).isSome | _=>false
def zh8(h:1<=r)(hr:r<=100)(hc:c<=100):zbe [flr r c g] S=.ok (.lst ((zcE r c).filter (zc2 g))) S:=by
 have hl:((zcE r c).filter (zc2 g)).length<=100000:=by
  refine yam (yaN _ _) ?_;rw [zdd];have:r*c<=100*100:=ybz hr hc;omega
 have e:zbr (.one 0) (zat zjo (eFn zax [(zaf 1),(zaf 0)]) (zaw .non)) (zaf 0) [none,some (false,flr r c g)] (zcE r c) S=.ok ((zcE r c).filter (zc2 g)) S:=by
  rw [zcN (g:=id) (p:=zc2 g)]
  ·simp
  ·intro d hd;obtain ⟨i,j,hi,hj,rfl⟩:=zdc hd;refine ⟨_,rfl,?_,fun _=>by simp⟩;simp [zdN hi hj,zc2]
   cases g i j<;>rfl
 simp [zbe,zan,zch,ze7 h hr hc,e,hl]
noncomputable def znj(r c:Nat)(g h:Z1):Bool:=decide (∀i,i<r->∀j,j<c->h i j=none\/g i j=h i j)
def zgn(h1:1<=r)(hr:r<=100)(hc:c<=100):zbt [flr r c g,flr r c h] S=.ok (.bl (znj r c g h)) S:=by
 have hl:((zcE r c).filter (zc2 h)).length<=100000:=by
  refine yam (yaN _ _) ?_;rw [zdd];have:r*c<=100*100:=ybz hr hc;omega
 have e:zbr (.one 0) zd5 (zat eqD (eFn zax [(zaf 2),(zaf 0)]) (eFn zax [(zaf 1),(zaf 0)])) [none,some (false,flr r c h),some (false,flr r c g)] ((zcE r c).filter (zc2 h)) S=.ok (((zcE r c).filter (zc2 h)).map fun d=>.bl ((fun d=>match d with | .tup [.int i,.int j]=>decide (g i.toNat j.toNat=h i.toNat j.toNat) | _=>true) d)) S:=by
  rw [zaR];intro d hd;obtain ⟨i,j,hi,hj,rfl⟩:=zdc ((ya0.mp hd).1);exact ⟨_,rfl,by simp [zdN hi hj]⟩
 have ea:(((zcE r c).filter (zc2 h)).all fun d=>match d with | .tup [.int i,.int j]=>decide (g i.toNat j.toNat=h i.toNat j.toNat) | _=>true)=znj r c g h:=by
  rw [Bool.eq_iff_iff];unfold znj;rw [ybl,decide_eq_true_iff];constructor
  ·intro H i hi j hj
   cases hh:h i j with
   | none=>exact .inl rfl
   | some x =>
    have:=H (plD i j) (ya0.mpr ⟨zsj hi hj,by simp [zc2,hh]⟩);simp [hh] at this;exact .inr this
  ·intro H d hd;obtain ⟨i,j,hi,hj,rfl⟩:=zdc ((ya0.mp hd).1);have hp:=(ya0.mp hd).2;simp [zc2] at hp
   rcases H i hi j hj with z | z
   ·rw [z] at hp;cases hp
   ·simp [z]
 simp [zbt,zan,zb2,zh8 h1 hr hc,e,hl,ziU,ea]
noncomputable def ztR(r c pr pc:Nat)(g h:Z1)(i j:Nat):Bool:=decide (i+pr<=r/\j+pc<=c)&&znj pr pc (fun a b=>g (i+a) (j+b)) h
theorem zje(hr:r<=100)(hc:c<=100)(p1:1<=pr)(p2:pr<=100)(q1:1<=pc)(q2:pc<=100)(hi:i<r)(hj:j<c):zbo [flr r c g,flr pr pc h,plD i j] S=.ok (.bl (ztR r c pr pc g h i j)) S:=by
 by_cases hw:i+pr<=r/\j+pc<=c
 ·have e1:min pr (r-i)=pr:=by omega
  have e2:min pc (c-j)=pc:=by omega
  simp [zbo,zan,zci,zep p1,zh6 (show r<=1000 by omega),e1,e2,zh7 p1 (show pr<=1000 by omega),zgn p1 p2 q2,ztR,hw]
 ·have e:¬ (min pr (r-i)=pr/\min pc (c-j)=pc):=by omega
  simp [zbo,zan,zci,zep p1,zh6 (show r<=1000 by omega),zh7 p1 (show pr<=1000 by omega),e,ztR,hw]
noncomputable def zoD(r c pr pc:Nat)(g h:Z1):D->Bool | .tup [.int i,.int j]=>ztR r c pr pc g h i.toNat j.toNat | _=>false
def zhl(h1:1<=r)(hr:r<=100)(hc:c<=100)(p1:1<=pr)(p2:pr<=100)(q1:1<=pc)(q2:pc<=100):zcz [flr r c g,flr pr pc h] S=.ok (.lst ((zcE r c).filter (zoD r c pr pc g h))) S:=by
 have hl:((zcE r c).filter (zoD r c pr pc g h)).length<=100000:=by
  refine yam (yaN _ _) ?_;rw [zdd];have:r*c<=100*100:=ybz hr hc;omega
 have e:zbr (.one 0) (eFn zbo [(zaf 1),(zaf 2),(zaf 0)]) (zaf 0) [none,some (false,flr r c g),some (false,flr pr pc h)] (zcE r c) S=.ok ((zcE r c).filter (zoD r c pr pc g h)) S:=by
  rw [zcN (g:=id) (p:=zoD r c pr pc g h)]
  ·simp
  ·intro d hd;obtain ⟨i,j,hi,hj,rfl⟩:=zdc hd;exact ⟨_,rfl,by simp [zje hr hc p1 p2 q1 q2 hi hj,zoD],fun _=>by simp⟩
 simp [zcz,zan,zeE,ze7 h1 hr hc,e,hl]
theorem zfP{tg:Tg}{α:Type}(mk:List D->α->Env)(g:D->List D)(N:Nat):∀{ds:List D},(∀d∈ds,∀(L:List D) (x:α),L.length+(g d).length<=N->∃ρ1 x',tg.put (mk L x) d=some ρ1/\body ρ1 S=.nx (mk (L++g d) x') S) →
  ∀(L0:List D) (x0:α),L0.length+(ds.flatMap g).length<=N->∃x',zfi tg body ds (mk L0 x0) S=.nx (mk (L0++ds.flatMap g) x') S
 | [],_,L0,x0,_=>⟨x0,by simp [zfi]⟩
 | d::ds,step,L0,x0,hN=>by
  rw [yb5,yar] at hN;obtain ⟨ρ1,x',e1,e2⟩:=step d yav L0 x0 (by omega);obtain ⟨x2,e3⟩:=zfP mk g N (ds:=ds) (fun d hd=>step d (yan _ hd)) (L0++g d) x' (by rw [yar];omega);refine ⟨x2,?_⟩;unfold zfi;rw [e1];dsimp only;rw [e2];dsimp only;rw [e3,yb5,yb3]
def zjj{lo hi:Int}{k:Nat}{d:D}(h:(zao lo hi)[k]?=some d):d=.int (lo+k)/\lo+(k:Int)<hi:=by
 unfold zao at h;rw [yaq] at h
 cases hr:(List.range (hi-lo).toNat)[k]? with
 | none=>rw [hr] at h;cases h
 | some j =>
  rw [hr] at h;obtain ⟨h1,h2⟩:=yap.mp hr;simp at h1 h2;subst h2;simp at h;exact ⟨h.symm,by omega⟩
def zb6{lo hi:Int}{d:D}(h:d∈zao lo hi):∃i:Int,d=.int i/\lo<=i/\i<hi:=by
 obtain ⟨k,hk⟩:=ycM h;obtain ⟨rfl,h2⟩:=zjj hk;exact ⟨_,rfl,by omega,h2⟩
def ze9{lo hi:Int}:(zao lo hi).length=(hi-lo).toNat:=by unfold zao;simp
def ztr{d e:D}(h1:d.fit 9=true)(h2:e.fit 9=true):eqD d e=some (.bl (zfC d e)):=by unfold eqD;rw [h1,h2];rfl
noncomputable def zm2(rows:List D)(i:Nat):D->Bool | .int k=>zfC (rows.getD i .non) (rows.getD k.toNat .non) | _=>false
def zjt(rows:List D):D->List D | .int i=>((zao (i+1) rows.length).filter (zm2 rows i.toNat)).map fun d=>.tup [.int i,d] | _=>[]
def zeW(rows:List D):List D:=(zao 0 rows.length).flatMap (zjt rows)
def zla{rows:List D}{d:D}(h:d∈zao 0 rows.length):(zjt rows d).length<=rows.length:=by
 obtain ⟨i,rfl,h0,h1⟩:=zb6 h;unfold zjt;rw [yae];refine yam (yaN _ _) ?_;rw [ze9];omega
theorem ziJ{α:Type}{g:α->List D}:∀{ds:List α},(∀d∈ds,(g d).length<=m)->(ds.flatMap g).length<=ds.length*m
 | [],_=>by simp
 | d::ds,h=>by
  have h1:=h d yav;have h2:=ziJ (ds:=ds) fun d hd=>h d (yan _ hd)
  rw [yb5,yar,yaj,Nat.succ_mul];omega
def zfa{rows:List D}(h:rows.length<=100):(zeW rows).length<=10000:=by
 have:=ziJ (g:=zjt rows) (ds:=zao 0 rows.length) fun d hd=>zla hd
 rw [ze9] at this;have h2:((rows.length:Int)-0).toNat*rows.length<=100*100:=ybz (by omega) h;unfold zeW;omega
theorem zh9{rows:List D}{i:Int}(h0:0<=i)(h1:i<rows.length):atI rows i=some (rows.getD i.toNat .non):=by
 rw [zei h0,yac (by omega)];simp [List.getD,show i.toNat<rows.length by omega]
def zef{rows:List D}(hf:∀d∈rows,d.fit 9=true){i:Nat}:(rows.getD i .non).fit 9=true:=by
 by_cases h:i<rows.length
 ·rw [yax,yac h];exact hf _ (ybx h)
 ·rw [yax,yaL (by omega)];rfl
theorem zdg{α β:Type}{p:α->Bool}{f:α->β}:∀{ds:List α},(ds.flatMap fun d=>if p d then [f d] else [])=(ds.filter p).map f
 | []=>rfl
 | d::ds=>by
  rw [yb5,zdg (ds:=ds)]
  cases h:p d<;>simp [h]
def zfw{rows:List D}{S:Sto}(hf:∀d∈rows,d.fit 9=true)(hn:rows.length<=100):zbO [.tup rows] S=.ok (.lst (zeW rows)) S:=by
 obtain ⟨x',e⟩:=zfP (tg:=.one 2) (body:=zcp) (S:=S) (fun L (x:Option (Bool×D)×Option (Bool×D))=>[some (false,.tup rows),some (true,.lst L),x.1,x.2]) (zjt rows) 50000 (ds:=zao 0 rows.length) (by
  intro d hd L x hL;obtain ⟨i,rfl,h0,h1⟩:=zb6 hd
  obtain ⟨x',e⟩:=zfP (tg:=.one 3) (body:=zcq) (S:=S) (fun L (x:Option (Bool×D))=>[some (false,.tup rows),some (true,.lst L),some (false,.int i),x]) (fun d=>if zm2 rows i.toNat d then [.tup [.int i,d]] else []) 50000 (ds:=zao (i+1) rows.length) (by
   intro d hd L x hL;obtain ⟨k,rfl,k0,k1⟩:=zb6 hd;refine ⟨_,some (false,.int k),rfl,?_⟩;have q:eqD (rows.getD i.toNat .non) (rows.getD k.toNat .non)=some (.bl (zm2 rows i.toNat (.int k))):=ztr (zef hf) (zef hf)
   have hL':L.length<=100000:=by omega
   have g1:=zh9 (rows:=rows) h0 h1;have g2:=zh9 (rows:=rows) (show 0<=k by omega) k1;generalize rows.getD i.toNat .non=d1 at *;generalize rows.getD k.toNat .non=d2 at *
   cases hp:zm2 rows i.toNat (.int k)<;>rw [hp] at q<;>simp [zcq,g1,g2,q,hL',hp]) L x.2 (by rw [zdg];exact hL)
  rw [zdg] at e;refine ⟨_,(some (false,.int i),x'),rfl,?_⟩
  have hb:(-1000000<=i+1/\i+1<=1000000)/\-1000000<=(rows.length:Int)/\(rows.length:Int)<=1000000:=by omega
  simp [zcp,hb,e,zjt]) [] (none,none) (by have:=zfa hn;unfold zeW at this;simp only [List.length_nil];omega)
 have hb:-1000000<=(rows.length:Int)/\(rows.length:Int)<=1000000:=by omega
 simp at e;simp [zbO,zan,zdj,hb,e,zeW]
def zpH{r c:Nat}{p:D->Bool}:D.pls ((zcE r c).filter p)=true:=by
 rw [D.pls_iff];intro d hd;obtain ⟨i,j,_,_,rfl⟩:=zdc (ya0.mp hd).1;rfl
def zni{r c n:Nat}{p:D->Bool}:D.fits (n+1) ((zcE r c).filter p)=true:=by
 rw [D.fits_iff];intro d hd;obtain ⟨i,j,_,_,rfl⟩:=zdc (ya0.mp hd).1;simp
noncomputable def za8(r c:Nat)(g:Z1):List Int:=(List.range r).flatMap fun i=>(List.range c).filterMap fun j=>g i j
noncomputable def atP(g:Z1):D->D | .tup [.int i,.int j]=>oD (g i.toNat j.toNat) | _=>.non
theorem zfH:∀js:List Nat,(((js.map fun j=>plD i j).filter (zc2 g)).map (atP g))=(js.filterMap fun j=>g i j).map D.int
 | []=>rfl
 | j::js=>by
  rw [yaz,ybI,ybR]
  have e:zc2 g (plD i j)=(g i j).isSome:=by show (g (i:Int).toNat (j:Int).toNat).isSome=_;rfl
  rw [e]
  cases h:g i j with
  | none=>simp only [Option.isSome,ybv,ycN];exact zfH js
  | some x =>
   simp only [Option.isSome,ybU];rw [yaz,yaz,zfH js,show atP g (plD i j)=oD (g i j) from rfl,h];rfl
def ziu:((zcE r c).filter (zc2 g)).map (atP g)=(za8 r c g).map D.int:=by
 unfold zcE za8;rw [List.filter_flatMap,List.map_flatMap,List.map_flatMap];congr 1;funext i;exact zfH _
def zfI(hr:r<=100)(hc:c<=100):(za8 r c g).length<=10000:=by
 have e:=congrArg List.length (ziu (r:=r) (c:=c) (g:=g));rw [yae,yae] at e;rw [<-e];refine yam (yaN _ _) ?_;rw [zdd];exact ybz hr hc
def zit:x∈za8 r c g↔∃i j,i<r/\j<c/\g i j=some x:=by
 unfold za8;simp only [ycc,ybg,ybt];exact ⟨fun ⟨i,hi,j,hj,e⟩=>⟨i,j,hi,hj,e⟩,fun ⟨i,j,hi,hj,e⟩=>⟨i,hi,j,hj,e⟩⟩
def zc8(h:1<=r)(hr:r<=100)(hc:c<=100):zbb [flr r c g] S=.ok (.lst ((za8 r c g).map D.int)) S:=by
 have e:zbr (.one 0) zd5 (eFn zax [(zaf 1),(zaf 0)]) [none,some (false,flr r c g)] ((zcE r c).filter (zc2 g)) S=.ok ((za8 r c g).map D.int) S:=by
  rw [zaR (g:=atP g),ziu];intro d hd;obtain ⟨i,j,hi,hj,rfl⟩:=zdc ((ya0.mp hd).1);exact ⟨_,rfl,by simp [zdN hi hj,atP]⟩
 have hl:=zfI (g:=g) hr hc
 have hl2:((zcE r c).filter (zc2 g)).length<=100000:=by
  refine yam (yaN _ _) ?_;rw [zdd];have:r*c<=100*100:=ybz hr hc;omega
 simp [zbb,zan,zcH,zh8 h hr hc,e,hl2,show (za8 r c g).length<=100000 by omega]
theorem zlr:∀ns:List Int,zca (ns.map D.int)=some ns
 | []=>rfl
 | n::ns=>by
  show (zca (ns.map D.int)).map _=_;rw [zlr ns];rfl
def zhs:zfC (.int a) (.int b)=decide (a=b):=by
 by_cases h:a=b<;>simp [zfC,D.py,PyData.eqv,h]
noncomputable def zvB(ns:List Int)(k:Int):Nat:=ns.countP fun x=>decide (x=k)
def zjD:zdH (ns.map D.int) (.int k)=some (.int (zvB ns k:Nat)):=by
 unfold zdH;rw [show (D.int k).fit 8=true from rfl,show D.fits 8 (ns.map D.int)=true by rw [D.fits_iff];intro d hd;obtain ⟨y,_,rfl⟩:=yau.mp hd;rfl];show some (D.int _)=_;rw [List.countP_map];have e:(fun d=>zfC d (.int k))∘D.int=fun x=>decide (x=k):=funext fun t=>zhs
 rw [e];rfl
def zf6(ns:List Int):List D:=(SI.zae ns).map fun k=>.tup [.int k,.int (zvB ns k:Nat)]
def zkf(h:∀x∈ns,0<=x/\x<8):zhh (.lst (ns.map D.int))=some (.lst ((SI.zae ns).map D.int)):=by
 show (zca (ns.map D.int)).bind _=_;rw [zlr];show (if _ then _ else _)=_;rw [if_pos (ybl.mpr fun x hx=>yaQ (h x hx))]
def zeq(h:∀x∈ns,0<=x/\x<8):zcD [.lst (ns.map D.int)] S=.ok (.lst (zf6 ns)) S:=by
 have e:zbr (.one 0) zd5 (ziL [(zaf 0),(eMt zdH 1 (zap 0))]) [none,some (false,.lst (ns.map D.int))] ((SI.zae ns).map D.int) S=.ok (zf6 ns) S:=by
  rw [zaR (g:=fun d=>match d with | .int k=>.tup [.int k,.int (zvB ns k:Nat)] | _=>.non)]
  ·unfold zf6;rw [List.map_map];rfl
  ·intro d hd;obtain ⟨k,hk,rfl⟩:=yau.mp hd;exact ⟨_,rfl,by simp [zjD]⟩
 have hl:(SI.zae ns).length<=100000:=yam SI.zaC (by decide)
 have hl2:(zf6 ns).length<=100000:=by unfold zf6;rw [yae];exact hl
 simp [zcD,zan,zeI,zkf h,e,hl,hl2]
def zkz{r c:Nat}{g:Z1}{S:Sto}(h:1<=r)(hr:r<=100)(hc:c<=100)(hg:∀i j x,g i j=some x->0<=x/\x<8):zer [flr r c g] S=.ok (.lst (zf6 (za8 r c g))) S:=by
 have hl:(zf6 (za8 r c g)).length<=100000:=by unfold zf6;rw [yae];exact yam SI.zaC (by decide)
 simp [zer,zan,zhB,zc8 h hr hc,zeq (ns:=za8 r c g) (fun x hx=>by obtain ⟨i,j,_,_,e⟩:=zit.mp hx;exact hg i j x e),hl]
def zmU{ns:List Int}{k:Int}:zma (.int k) (.lst (ns.map D.int))=some (.bl (!decide (k∈ns))):=by
 have e:zjS (.int k) (ns.map D.int)=decide (k∈ns):=by
  unfold zjS;rw [List.any_map]
  by_cases h:k∈ns
  ·rw [yaQ h,List.any_eq_true];exact ⟨k,h,by show zfC _ _=true;rw [zhs];simp⟩
  ·rw [ybc h,yc4];intro x hx z;have z:zfC (.int x) (.int k)=true:=z;rw [zhs] at z;exact h (yao z ▸ hx)
 show (if _ then _ else _)=_;rw [show (D.int k).fit 8=true from rfl,show D.fits 8 (ns.map D.int)=true by rw [D.fits_iff];intro d hd;obtain ⟨y,_,rfl⟩:=yau.mp hd;rfl,e];rfl
noncomputable def zq3(n:Nat)(ns:List Int):List Int:=((List.range n).map fun i:Nat=>(i:Int)).filter fun k=>!decide (k∈ns)
def zjf{ts:List D}{r c:Nat}{g:Z1}{S:Sto}(h:1<=r)(hr:r<=100)(hc:c<=100)(hn:ts.length<=100):zds [.tup ts,flr r c g] S=.ok (.lst ((zq3 ts.length (za8 r c g)).map D.int)) S:=by
 have e:zbr (.one 0) (zat zma (zap 0) (zap 1)) (zaf 0) [none,some (false,.lst ((za8 r c g).map D.int))] (zao 0 (ts.length:Int)) S=.ok ((zq3 ts.length (za8 r c g)).map D.int) S:=by
  have e0:zao 0 (ts.length:Int)=((List.range ts.length).map fun i:Nat=>(i:Int)).map D.int:=by simp [zao]
  rw [e0];rw [zcN (g:=id) (p:=fun d=>match d with | .int k=>!decide (k∈za8 r c g) | _=>false)]
  ·unfold zq3;rw [List.map_id,List.filter_map];rfl
  ·intro d hd;obtain ⟨k,_,rfl⟩:=yau.mp hd;exact ⟨_,rfl,by simp [zmU],fun _=>by simp⟩
 have hl:(zq3 ts.length (za8 r c g)).length<=100000:=by
  refine yam (yaN _ _) ?_;rw [yae,ya8];omega
 have hl2:(za8 r c g).length<=100000:=by have:=zfI (g:=g) hr hc;omega
 simp [zds,zan,zfS,zc8 h hr hc,e,hl,hl2,show -1000000<=(ts.length:Int)/\(ts.length:Int)<=1000000 by omega]
def zrY:(zib c f).pl=true:=by
 show D.pls (zfz c f)=true;rw [D.pls_iff];intro d hd;obtain ⟨j,_,rfl⟩:=yau.mp hd
 cases f j<;>rfl
def zkx:(zib c f).fit (n+1)=true:=by
 show D.fits n (zfz c f)=true;rw [D.fits_iff];intro d hd;obtain ⟨j,_,rfl⟩:=yau.mp hd
 cases f j<;>simp [oD]
def ztn:(flr r c g).pl=true:=by
 show D.pls (zc5 r c g)=true;rw [D.pls_iff];intro d hd;obtain ⟨j,_,rfl⟩:=yau.mp hd;exact zrY
def zqw:(flr r c g).fit (n+2)=true:=by
 show D.fits (n+1) (zc5 r c g)=true;rw [D.fits_iff];intro d hd;obtain ⟨j,_,rfl⟩:=yau.mp hd;exact zkx
def zhn:zaS [.int i] S=.ok (.bl true) S:=by simp [zaS,zan,zcb,zcu]
def zhm:zaS [.non] S=.ok (.bl false) S:=by simp [zaS,zan,zcb,zcu]
def zeU(h:∀x,o=some x->0<=x/\x<ts.length):zaP [.tup ts,oD o] S=.ok (.bl o.isSome) S:=by
 cases o with
 | none=>simp [zaP,zan,zbz,oD,zhm]
 | some x=>obtain ⟨h0,h1⟩:=h x rfl;simp [zaP,zan,zbz,oD,zhn,h0,h1]
theorem zgL{tg:Tg}{body:Fs}{S:Sto}{α:Type}(emb:α->D){I:List α->Env->Prop}(L:List α)(step:∀q a r ρ,q++a::r=L->I q ρ->∃ρ1 ρ2,tg.put ρ (emb a)=some ρ1/\body ρ1 S=.nx ρ2 S/\I (q++[a]) ρ2):∀(xs pre:List α) (ρ:Env),pre++xs=L->I pre ρ->∃ρ',zfi tg body (xs.map emb) ρ S=.nx ρ' S/\I L ρ'
 | [],pre,ρ,hL,h=>⟨ρ,by simp [zfi],by rw [<-hL,yaS];exact h⟩
 | a::xs,pre,ρ,hL,h=>by
  obtain ⟨ρ1,ρ2,e1,e2,h2⟩:=step pre a xs ρ hL h;obtain ⟨ρ',e3,h3⟩:=zgL emb L step xs (pre++[a]) ρ2 (by rw [yb3];exact hL) h2;refine ⟨ρ',?_,h3⟩;rw [yaz];unfold zfi;rw [e1];dsimp only;rw [e2];exact e3
def zng{tg:Tg}{body:Fs}{S:Sto}{α:Type}(emb:α->D){I:List α->Env->Prop}(L:List α){ρ:Env}(h0:I [] ρ)(step:∀q a r ρ,q++a::r=L->I q ρ->∃ρ1 ρ2,tg.put ρ (emb a)=some ρ1/\body ρ1 S=.nx ρ2 S/\I (q++[a]) ρ2):∃ρ',zfi tg body (L.map emb) ρ S=.nx ρ' S/\I L ρ':=zgL emb L step L [] ρ rfl h0
noncomputable def zdn(ts:Z2)(ns:List Int):List Int:=ns.flatMap fun n=>ts.getD n.toNat []
noncomputable def InT(ts:Z2)(g:Z1):Prop:=∀i j x,g i j=some x->0<=x/\x<ts.length
structure TCol(ts:Z2):Prop where
 four:∀t∈ts,t.length=4
 col:∀t∈ts,∀x∈t,0<=x/\x<5
def TCol.mem{ts:Z2}(h:TCol ts){n:Int}(h0:0<=n)(h1:n<ts.length):ts.getD n.toNat []∈ts:=by
 rw [yax,yac (show n.toNat<ts.length by omega)];exact ybx _
def TCol.at{ts:Z2}(h:TCol ts){n:Int}(h0:0<=n)(h1:n<ts.length):atI (ts.map zaj) n=some (.tup ((ts.getD n.toNat []).map D.int)):=by
 rw [zei h0,yaq,yax,yac (show n.toNat<ts.length by omega)];rfl
theorem zfZ(h:TCol ts):∀{ns:List Int},(∀n∈ns,0<=n/\n<ts.length)->(zdn ts ns).length=4*ns.length
 | [],_=>rfl
 | n::ns,hn=>by
  have h4:=h.four _ (h.mem (hn n (.head _)).1 (hn n (.head _)).2);have ih:=zfZ h (ns:=ns) fun m hm=>hn m (.tail _ hm)
  unfold zdn at ih ⊢;rw [yb5,yar,ih,h4,yaj];omega
def zqJ{ts:Z2}(h:TCol ts){ns:List Int}(hn:∀n∈ns,0<=n/\n<ts.length):∀x∈zdn ts ns,0<=x/\x<5:=by
 intro x hx;obtain ⟨n,hm,hx⟩:=ycc.mp hx;exact h.col _ (h.mem (hn n hm).1 (hn n hm).2) x hx
theorem zhq(h:TCol ts)(hg:InT ts g)(h1:1<=r)(hr:r<=100)(hc:c<=100):zbu [.tup (ts.map zaj),flr r c g] S=.ok (.lst (zf6 (zdn ts (za8 r c g)))) S:=by
 have hn:∀n∈za8 r c g,0<=n/\n<ts.length:=fun n hn=>by obtain ⟨i,j,_,_,e⟩:=zit.mp hn;exact hg i j n e
 have hlen:=zfI (g:=g) hr hc
 obtain ⟨ρ',e,x',rfl⟩:=zng (tg:=.one 3) (body:=zb4) (S:=S) D.int (I:=fun q ρ=>∃x,ρ=[some (false,.tup (ts.map zaj)),some (false,flr r c g),some (true,.lst ((zdn ts q).map D.int)),x]) (za8 r c g) (ρ:=[some (false,.tup (ts.map zaj)),some (false,flr r c g),some (true,.lst []),none]) ⟨none,rfl⟩
  (by
   rintro q n zbH ρ hq ⟨x,rfl⟩;refine ⟨_,_,rfl,?_,some (false,.int n),rfl⟩;have hnn:=hn n (hq ▸ yaF _ (.head _));have hqn:∀m∈q,0<=m/\m<ts.length:=fun m hm=>hn m (hq ▸ ycK _ hm)
   have hl:=zfZ h hqn
   have hlq:q.length<=10000:=by have:=congrArg List.length hq;rw [yar] at this;omega
   have h4:=h.four _ (h.mem hnn.1 hnn.2);have e1:=zeU (ts:=ts.map zaj) (o:=some n) (S:=S) (fun x hx=>by cases hx;rw [yae];exact hnn);have e2:=h.at hnn.1 hnn.2
   have ec:zdn ts (q++[n])=zdn ts q++ts.getD n.toNat []:=by unfold zdn;rw [List.flatMap_append];simp
   rw [ec,ycq];simp only [oD,Option.isSome] at e1;generalize ts.getD n.toNat []=t at *;generalize ts.map zaj=td at *;generalize flr r c g=F0 at *;generalize zdn ts q=C at *
   have ex:∀ρ:Env,ρ[2]?=some (some (true,.lst (C.map D.int)))->ρ[0]?=some (some (false,.tup td))->ρ[3]?=some (some (false,.int n))->zhj 2 (zat ixD (zap 0) (zap 3)) ρ S=.nx (ρ.set 2 (some (true,.lst (C.map D.int++t.map D.int)))) S:=by
    intro ρ h2 h0 h3;exact ztq h2 (by simp [h0,h3,e2]) (by rw [yae,yae];omega)
   simp [zb4,e1,ex])
 have hc5:=zqJ h hn;have e5:=zeq (ns:=zdn ts (za8 r c g)) (S:=S) (fun x hx=>by have:=hc5 x hx;omega);have e0:=zc8 (g:=g) (S:=S) h1 hr hc
 have hll:((za8 r c g).map D.int).length<=100000:=by rw [yae];omega
 have hcl:((zdn ts (za8 r c g)).map D.int).length<=100000:=by rw [yae,zfZ h hn];omega
 have htl:(zf6 (zdn ts (za8 r c g))).length<=100000:=by unfold zf6;rw [yae];exact yam SI.zaC (by decide)
 generalize zf6 (zdn ts (za8 r c g))=TL at *;generalize (zdn ts (za8 r c g)).map D.int=C at *;generalize (za8 r c g).map D.int=NL at *;generalize flr r c g=F0 at *;generalize ts.map zaj=td at *;simp [zbu,zan,zcI,e0,e,e5,hll,hcl,htl]
theorem zmr(ha:0<=at')(ht:Tiles most ts)(hm:most<=100) :
  ∃(r c:Nat) (g:Z1),1<=r/\r<=4/\1<=c/\c<=4/\(∀i j x,g i j=some x->0<=x/\x<ts.length)/\zaQ [.scr l,.int at',.tup (ts.map zaj)] S=.ok (flr r c g) S:=by
 have b1:=zbQ l at' (many:=4) (by omega);have b2:=zbQ l (at'+1) (many:=4) (by omega);have b3:=zbQ l (at'+50) (many:=3) (by omega);have p1:=zbG (l:=l) (S:=S) ha (show (0:Int)<4 by omega);have p2:=zbG (l:=l) (S:=S) (show 0<=at'+1 by omega) (show (0:Int)<4 by omega);have p3:=zbG (l:=l) (S:=S) (show 0<=at'+50 by omega) (show (0:Int)<3 by omega);generalize zbR l at' 4=q1 at *;generalize zbR l (at'+1) 4=q2 at *;generalize zbR l (at'+50) 3=q3 at *;have n1:=ht.ne
 have key:∀m:Int,(m=1\/m=2\/m=3)->(∀d,zbv [.scr l,.int (at'+2),.tup (ts.map zaj),.int (1+q1),.int (1+q2),.int m] S=.ok d S->zaQ [.scr l,.int at',.tup (ts.map zaj)] S=.ok d S)->∃(r c:Nat) (g:Z1),1<=r/\r<=4/\1<=c/\c<=4/\(∀i j x,g i j=some x->0<=x/\x<ts.length)/\zaQ [.scr l,.int at',.tup (ts.map zaj)] S=.ok (flr r c g) S:=by
  intro m hm e;have hp:0<((ts.map zaj).length:Int)*m:=Int.mul_pos (by simp;omega) (by omega);have e':=e _ (zkF (by omega) hp (zor (by omega) (by omega)) (by omega) (by omega) (by omega) (by omega));refine ⟨_,_,_,?_,?_,?_,?_,?_,e'⟩
  all_goals try omega
  intro i j x h;have:=zsR hp x h;simpa using this
 have h3:q3=0\/q3=1\/q3=2:=by omega
 rcases h3 with rfl | rfl | rfl
 ·exact key 1 (by omega) (fun d h=>by simp [zaQ,zan,zbS,p1,p2,p3,h])
 ·exact key 2 (by omega) (fun d h=>by simp [zaQ,zan,zbS,p1,p2,p3,h])
 ·exact key 3 (by omega) (fun d h=>by simp [zaQ,zan,zbS,p1,p2,p3,h])
end S2
namespace S2.L96
open PySem
open L2 hiding D
noncomputable def zhY:Fs:=zal (sFz [] (zbF (zf7 (zat eqD (zap 1) (zat zhv (zhe [(zaw (.bl true))]) (zaw (.int 6)))) (zf7 (zat eqD (zdG "Album" "floor_of" za6 (zaf 2) [(zaw (.str "a"))]) (zap 3)) (zat eqD (zdG "Album" "sizes" zbg (zaf 2) []) (ziL [(zaw (.int 1)),(zaw (.int 0))])))))) sNx
noncomputable def zhZ:Fs:=zal (sFz [2] (zhk 1 (zeL [2] (zdG "Album" "names" zaT (zaf 0) [])))) zhY
noncomputable def zj2:Fs:=zal (sFz [3,4] (zhk 1 (zeL [3,4] (eFn zds [(zaf 1),(zaf 0)])))) zhZ
noncomputable def zj3:Fs:=zal (sFz [3] (zhk 1 (zeL [3] (eFn zcz [(zaf 0),(zaf 0)])))) zj2
noncomputable def zj4:Fs:=zal (sFz [3] (zhk 1 (zeL [3] (eFn zbO [(zaf 0)])))) zj3
noncomputable def zj5:Fs:=zal (sFz [3,4] (zhk 1 (zeL [3,4] (eFn zbu [(zaf 1),(zaf 0)])))) zj4
noncomputable def zj6:Fs:=zal (sFz [3] (zc7 1 true (zhe [(zeL [3] (eFn zer [(zaf 0)]))]))) zj5
noncomputable def zj7:Fs:=zal (sFz [3] (zmq (zdG "Album" "put" zbP (zaf 2) [(zaw (.str "a")),(zaf 3)]))) zj6
noncomputable def zj8:Fs:=zal (sFz [4] (zc7 2 false (eMk "Album" [] zaJ [(zaf 4)]))) zj7
noncomputable def zj9:Fs:=zal (sFz [0,4] (zc7 3 false (eFn zaQ [(zaf 0),(zaw (.int 300)),(zaf 4)]))) zj8
noncomputable def zka:Fs:=zal (sFz [0] (zc7 4 false (eFn zbU [(zaf 0),(zaw (.int 200)),(zaw (.int 5))]))) zj9
noncomputable def zqA:Fs :=
  zka
noncomputable def zr5:List S2.D->Sto->Out S2.D:=zbE 5 false zqA
def ze4{caps:List Nat}{fb:Fe}{ρ:Env}{S:Sto}{ds l:List D}(hc:zdW ρ caps=some ds)(hf:fb (ds.map fun d=>some (false,d)) S=.ok (.lst l) S)(hl:l.length<=100000)(hp:D.pls l=true)(ht:D.fits 8 l=true):zeL caps fb ρ S=.ok (.bl true) S:=by
 have he:eqD (.lst l) (.lst l)=some (.bl true):=zlG (d:=.lst l) hp ht;unfold zeL;rw [hc];dsimp only;rw [hf];dsimp only;rw [if_pos (show zaE l.length=true from yaQ hl),hf];dsimp only;rw [he];rfl
def zqv{r c:Nat}{g:Z1}:flr r c g=FlD ((List.range r).map fun i=>zfz c (g i)):=by
 unfold flr FlD zc5;rw [List.map_map];rfl
def zoo{r c n:Nat}{g:Z1}(hr:1<=r)(hc:1<=c)(hg:∀i j x,g i j=some x->0<=x/\x<n):FlOk n c ((List.range r).map fun i=>zfz c (g i)) where
 ne:=by rw [yae,ya8];exact hr
 c1:=hc
 row:=fun q hq=>by
  obtain ⟨i,_,rfl⟩:=yau.mp hq;refine ⟨zia,fun d hd=>?_⟩;obtain ⟨j,_,rfl⟩:=yau.mp hd
  cases h:g i j with
  | none=>exact .inl rfl
  | some x=>exact .inr ⟨x,rfl,hg i j x h⟩
def znP:D.pls (zf6 ns)=true:=by
 rw [D.pls_iff];intro d hd;obtain ⟨k,_,rfl⟩:=yau.mp hd;rfl
def zj1:D.fits 8 (zf6 ns)=true:=by
 rw [D.fits_iff];intro d hd;obtain ⟨k,_,rfl⟩:=yau.mp hd;rfl
def zj0{ns:List Int}:(zf6 ns).length<=100000:=by unfold zf6;rw [yae];exact yam SI.zaC (by decide)
def zqp{ns:List Int}:D.pls (ns.map D.int)=true:=by
 rw [D.pls_iff];intro d hd;obtain ⟨k,_,rfl⟩:=yau.mp hd;rfl
def znb{ns:List Int}:D.fits 8 (ns.map D.int)=true:=by
 rw [D.fits_iff];intro d hd;obtain ⟨k,_,rfl⟩:=yau.mp hd;rfl
def ziB{rows:List D}{d:D}(h:d∈zeW rows):∃i j:Int,d=.tup [.int i,.int j]:=by
 obtain ⟨e,he,hd⟩:=ycc.mp h;obtain ⟨i,rfl,_⟩:=zb6 he;obtain ⟨f,hf,rfl⟩:=yau.mp hd;obtain ⟨j,rfl,_⟩:=zb6 (ya0.mp hf).1;exact ⟨i,j,rfl⟩
def zp6{rows:List D}:D.pls (zeW rows)=true:=by
 rw [D.pls_iff];intro d hd;obtain ⟨i,j,rfl⟩:=ziB hd;rfl
def zm1{rows:List D}:D.fits 8 (zeW rows)=true:=by
 rw [D.fits_iff];intro d hd;obtain ⟨i,j,rfl⟩:=ziB hd;rfl
theorem zm3(l:List Int)(hl:l.length<=63):∃S,zr5 [.scr l] []=.ok (.bl true) S:=by
 obtain ⟨ts,ht,et⟩:=zky (l:=l) (at':=200) (most:=5) (S:=[]) (by decide) (by decide) (by decide);obtain ⟨r,c,g,r1,r4,c1,c4,hg,es⟩:=zmr (l:=l) (at':=300) (S:=[]) (by decide) ht (by decide)
 have n5:ts.length<=5:=by have:=ht.le;omega
 have ei:=zmt (S:=[]) (T:=.tup (ts.map zaj)) fun S=>zkD ht (by decide)
 have ei':zaJ [.ref 0,.tup (ts.map zaj)] [⟨"Album",[]⟩]=.ok .non [alb (.tup (ts.map zaj)) [] [] []]:=ei
 have hfl:zbc [.tup (ts.map zaj),flr r c g] [alb (.tup (ts.map zaj)) [] [] []]=.ok (.bl true) [alb (.tup (ts.map zaj)) [] [] []]:=by
  have q:=zho (tl:=ts.map zaj) (S:=[alb (.tup (ts.map zaj)) [] [] []]) (zoo (n:=(ts.map zaj).length) (r:=r) (c:=c) (g:=g) r1 c1 (fun i j x h=>by rw [yae];exact hg i j x h)) (by rw [yae,ya8];omega) (by omega);rw [<-zqv] at q;rw [q,yae,ya8];have:decide (r<=6/\c<=6)=true:=yaQ ⟨by omega,by omega⟩;simp;omega
 have hput:zbP [.ref 0,.str "a",flr r c g] [alb (.tup (ts.map zaj)) [] [] []]=.ok (.bl false) [alb (.tup (ts.map zaj)) [(.str "a",flr r c g)] [.tup [.str "put",.str "a",.non,flr r c g]] []]:=zps (k:="a") (d:=flr r c g) (n:=0) (ts:=.tup (ts.map zaj)) (ds:=[]) (dn:=[]) (un:=[]) (.inl rfl) rfl rfl rfl (by decide) (by decide) hfl;have k1:=fun S=>zkz (r:=r) (c:=c) (g:=g) (S:=S) r1 (by omega) (by omega) (fun i j x h=>by have:=hg i j x h;omega)
 have k2:=fun S=>zhq (ts:=ts) (r:=r) (c:=c) (g:=g) (S:=S) ⟨ht.four,fun t h x hx=>by have:=ht.col t h x hx;omega⟩ hg r1 (by omega) (by omega)
 have k3:=fun S=>zfw (rows:=zc5 r c g) (S:=S) (fun d hd=>by obtain ⟨i,_,rfl⟩:=yau.mp hd;exact zkx) (by rw [ziI];omega)
 have k4:=fun S=>zhl (r:=r) (c:=c) (pr:=r) (pc:=c) (g:=g) (h:=g) (S:=S) r1 (by omega) (by omega) r1 (by omega) c1 (by omega)
 have k5:=fun S=>zjf (ts:=ts.map zaj) (r:=r) (c:=c) (g:=g) (S:=S) r1 (by omega) (by omega) (by rw [yae];omega)
 have l3:(zeW (zc5 r c g)).length<=100000:=yam (zfa (by rw [ziI];omega)) (by decide)
 have l4:((zcE r c).filter (zoD r c r c g g)).length<=100000:=by
  refine yam (yaN _ _) ?_;rw [zdd];exact yam (ybz r4 c4) (by decide)
 have l5:((zq3 (ts.map zaj).length (za8 r c g)).map D.int).length<=100000:=by
  rw [yae];refine yam (yaN _ _) ?_;rw [yae,ya8,yae];omega
 have eqF:eqD (flr r c g) (flr r c g)=some (.bl true):=zlG ztn zqw;have s1:=fun (ρ:Env) (S:Sto) (h:ρ[3]?=some (some (false,flr r c g)))=>ze4 (l:=zf6 (za8 r c g)) (caps:=[3]) (fb:=eFn zer [zaf 0]) (ρ:=ρ) (S:=S) (ds:=[flr r c g]) (by simp [zdW,h]) (by simp [k1]) zj0 znP zj1
 have s2:=fun (ρ:Env) (S:Sto) (h:ρ[3]?=some (some (false,flr r c g))) (h':ρ[4]?=some (some (false,.tup (ts.map zaj))))=>ze4 (l:=zf6 (zdn ts (za8 r c g))) (caps:=[3,4]) (fb:=eFn zbu [zaf 1,zaf 0]) (ρ:=ρ) (S:=S) (ds:=[flr r c g,.tup (ts.map zaj)]) (by simp [zdW,h,h']) (by simp [k2]) zj0 znP zj1
 have s3:=fun (ρ:Env) (S:Sto) (h:ρ[3]?=some (some (false,flr r c g)))=>ze4 (l:=zeW (zc5 r c g)) (caps:=[3]) (fb:=eFn zbO [zaf 0]) (ρ:=ρ) (S:=S) (ds:=[flr r c g]) (by simp [zdW,h]) (by have:=k3 S;rw [show D.tup (zc5 r c g)=flr r c g from rfl] at this;simp [this]) l3 zp6 zm1
 have s4:=fun (ρ:Env) (S:Sto) (h:ρ[3]?=some (some (false,flr r c g)))=>ze4 (l:=(zcE r c).filter (zoD r c r c g g)) (caps:=[3]) (fb:=eFn zcz [zaf 0,zaf 0]) (ρ:=ρ) (S:=S) (ds:=[flr r c g]) (by simp [zdW,h]) (by simp [k4]) l4 zpH zni
 have s5:=fun (ρ:Env) (S:Sto) (h:ρ[3]?=some (some (false,flr r c g))) (h':ρ[4]?=some (some (false,.tup (ts.map zaj))))=>ze4 (l:=(zq3 (ts.map zaj).length (za8 r c g)).map D.int) (caps:=[3,4]) (fb:=eFn zds [zaf 1,zaf 0]) (ρ:=ρ) (S:=S) (ds:=[flr r c g,.tup (ts.map zaj)]) (by simp [zdW,h,h']) (by simp [k5]) l5 zqp znb
 generalize hS1:([alb (.tup (ts.map zaj)) [(.str "a",flr r c g)] [.tup [.str "put",.str "a",.non,flr r c g]] []]:Sto)=S1 at *
 have hS:S1[0]?=some (alb (.tup (ts.map zaj)) [(.str "a",flr r c g)] [.tup [.str "put",.str "a",.non,flr r c g]] []):=by rw [<-hS1];rfl
 have en:zaT [.ref 0] S1=.ok (.lst [.str "a"]) S1:=zkB hS rfl (by show 1<64;decide);have m1:zby "Album" "names" (.ref 0) S1=true:=zdX hS (by decide);have m2:zby "Album" "floor_of" (.ref 0) S1=true:=zdX hS (by decide);have m3:zby "Album" "sizes" (.ref 0) S1=true:=zdX hS (by decide);have m0:zby "Album" "put" (.ref 0) [alb (.tup (ts.map zaj)) [] [] []]=true:=zdX (ts:=.tup (ts.map zaj)) (ds:=[]) (dn:=[]) (un:=[]) rfl (by decide);have ef:=zhp (k:="a") (d:=flr r c g) (.inl rfl) hS rfl rfl;have ez:zbg [.ref 0] S1=.ok (.tup [.int 1,.int 0]) S1:=zkA hS;have s6:=fun (ρ:Env) (h:ρ[2]?=some (some (false,.ref 0)))=>ze4 (caps:=[2]) (fb:=zdG "Album" "names" zaT (zaf 0) []) (ρ:=ρ) (S:=S1) (ds:=[.ref 0]) (by simp [zdW,h]) (by simp [en,m1]) (l:=[.str "a"]) (by decide) (by decide +kernel) (by decide +kernel)
 have hm:zhv (.lst [.bl true]) (.int 6)=some (.lst [.bl true,.bl true,.bl true,.bl true,.bl true,.bl true]):=by kernel_rfl
 have hq:eqD (.lst [.bl true,.bl true,.bl true,.bl true,.bl true,.bl true]) (.lst [.bl true,.bl true,.bl true,.bl true,.bl true,.bl true])=some (.bl true):=by kernel_rfl
 have hz:eqD (.tup [.int 1,.int 0]) (.tup [.int 1,.int 0])=some (.bl true):=by kernel_rfl
 refine ⟨S1,?_⟩;generalize flr r c g=F at *;generalize D.tup (ts.map zaj)=T at *;simp [zr5,zan,zqA,zka,zj9,zj8,zj7,zj6,zj5,zj4,zj3,zj2,zhZ,zhY,et,es,ei',hput,m0,m2,m3,ef,ez,s1,s2,s3,s4,s5,s6,hm,hq,hz,eqF]
end S2.L96
namespace L2
open PySem PySem.Spec PyProof.Rows
def zvu{CX:CXT}{P:Program}{w:World}{K:PySem.W.Frag}{mg:Z6}{base:Heap}{k:Nat}{f:Addr}{name qual:Str}{params:Arguments}{body:List Stmt}{scope:Scope}{dV kV doc pm cdv ct oc:Value}{an od:Option Addr}
  {osl:Array (Option Value)} {N ps:List Str} {A:Around} {outer:List Env} {s:Shared} {H:Hp} {args:Args} {us:List Value} {vs:List V} {Q:VK} {E:XK} {t:TS} (lk:K.lookup f=some ⟨oc,od,.func (PySem.W.fnOf name qual params body scope dV kV doc pm an cdv ct),osl⟩) (hcd:PySem.W.codeIn K cdv qual=true) (S:FnScope N ps scope)
  (hr:Room (k+1) A) (e0:Env0 P w K mg base A outer s H) (hb:BindsTo s (PySem.W.fnOf name qual params body scope dV kV doc pm an cdv ct) args (ps.zip us)) (r:Vals vs us) (hl:vs.length=ps.length)
  (ht:PSs (zhK CX P w K mg base N qual scope f cdv A outer s H E) body t) (hq:t { nx:=fun _ H'=>Q .non H',rt:=Q } (zc6 N vs) H) :
  codeAny (model P w) A (.call (.ref f) args) (CR CX outer P w H s Q E) s:=by
 have KX:K.In s.heap:=e0.mod.kin.keeps fun b o e=>(e0.bs b o e).1
 have lim:s.heap.NoLimit:=e0.mod.nolimit.keeps fun b o e=>(e0.bs b o e).1
 have hkind:∀y∈ps.zip us,scope.names.lookup y.1=some .local\/(scope.names.lookup y.1=some .cell/\((cellsFrom (s.heap.objs.size+1) scope.names []).lookup y.1).isSome=true):=fun ⟨n,v⟩ hy=>by
  rcases S.par n (ycR hy).1 with q | q
  ·exact .inl q
  ·exact .inr ⟨q,yct _ _ _ (.inl q)⟩
 refine codeAny_call_function hr.depth (KX _ _ lk) rfl S.co S.gen rfl (PySem.W.codeRec_of KX hcd) (hb _ _ _ _ ?_);refine wpAny_newFunctionEnv_cells S.kind hkind fun env he s1 x=>?_
 subst he;refine ⟨lim.keeps x.toInCall.keep,codeAny_func ?_⟩;have I:Inv (zhK CX P w K mg base N qual scope f cdv A outer s H E) [] (zc6 N vs) H s1:=zgH S hr.hd e0 hl r x;refine ybd (ht [] s1 (zc6 N vs) H _ I hq) (fun fl s' hs=>?_) fun e s' hs=>hs
 cases fl with
 | ret u =>
  obtain ⟨v,σ',H',J,rv,q⟩:=hs;exact ⟨v,H',J.os,J.bare,J.base,J.hok,rv,q⟩
 | next =>
  obtain ⟨σ',H',J,q⟩:=hs;exact ⟨.non,H',J.os,J.bare,J.base,J.hok,rfl,q⟩
 | brk =>
  obtain ⟨_,_,_,q⟩:=hs;exact False.elim q
 | cont =>
  obtain ⟨_,_,_,q⟩:=hs;exact False.elim q
section
variable{X:Cx}{CX:CXT}{k:Nat}{N:List Str}{qual x:Str}{params:Arguments}{body:Expr}{sc:Scope}{f c:Addr}{clos:List (Str×Addr)}{E:St->XK}{vs:List V}{pm ctv:Value}{of oc:Obj}{uf uc:HO}{te:St->TE}{p pos:Pos}{i:Nat}
noncomputable def zh1(i:Nat)(f:Addr)(vs:List V)(te:St->TE):TE:=fun σ H Q=>σ[i]?=some (some (.ref f))/\te σ (vs.map some) H Q
def zmL(S:LamSc N sc)(hr:Room (k+1) X.A)(hN:X.N[i]?=some x)(hv:Vis X.env.scope x)(L:LamAt X.s₀.heap X.H₀ f params qual body sc N vs clos c pm ctv)(hf:X.H₀ f=some (.frz of uf))(hc:X.H₀ c=some (.frz oc uc))(h0:HOk X.prog X.w X.H₀ X.s₀.heap)
  (hx:∀x a,clos.lookup x=some a->a ∉ X.fs/\a ∉ X.ex) (hb:bindArgs (PySem.W.kla_fn "<lambda>" qual params body sc clos pm (.ref c) ctv) ⟨[],[]⟩=pure [])
  (hp:∀(pins:Z3) (σ:St) (H:Hp) (s:Shared) (e:Value) (s':Shared),Inv X pins σ H s->CX X.stack H s (E σ) e s'->X.xe e s')
  (he:∀σ s H,Room k (X.A.deeper (PySem.W.envX qual sc s.heap.objs.size f (.ref c) clos))->PE (zgY CX X.prog X.w X.K X.mg X.base N qual sc f (.ref c) clos X.A X.stack s H (E σ)) body (te σ))
  (hd:(x == ("__debug__":Str))=false) (hcd:(x == ("__classdict__":Str))=false):PE X (.Call (.Name x p) [] [] pos) (zh1 i f vs te):=by
 intro pins s σ H Q I h;obtain ⟨h1,h2⟩:=h;refine ybu (thn (zaD (pos:=p) hN hv hd hcd pins s σ H (fun v H'=>v=.ref f/\H'=H) I ⟨_,h1,rfl,rfl⟩) fun u s1 ⟨v,H1,I1,r,e1,e2⟩=>?_);subst e1 e2;cases r;have L1:=I1.lamAt L hf hc h0 hx;refine PySem.W.callWith_F0 ⟨_,_,_,_,L1.fn⟩ ?_;refine yc8 (ybK (zqa (CX:=CX) (E:=E σ) S hr I1.env0 L1 hb (he σ s1 H1) h2) fun r s' hq=>?_)
 cases r with
 | error e=>exact hp pins σ H1 s1 e s' I1 hq
 | ok fl =>
  cases fl with
  | ret u=>exact I1.after hq
  | next=>exact False.elim hq
  | brk=>exact False.elim hq
  | cont=>exact False.elim hq
end
def zuU{P:Program}{w:World}{K:PySem.W.Frag}{mg:Z6}{base:Heap}{N:List Str}{qual:Str}{scope:Scope}{f:Addr}{cd:Value}{clos:List (Str×Addr)}{A:Around}{outer:List Env}{s:Shared}{H:Hp}{E:XK} :
  zoz (CXE P w) (zgY (CXE P w) P w K mg base N qual scope f cd clos A outer s H E) E:=fun pins σ H1 s1 e s' I q =>
 ziC (X:=zgY (CXE P w) P w K mg base N qual scope f cd clos A outer s H E) I rfl rfl rfl q
def zhM{scope:Scope}{env:Env}{cl:List (Str×Addr)}(h:∀y∈scope.names,y.2=.free->∃c,env.cells.lookup y.1=some c)(hc:closureFor scope env=pure cl):∀y c,cl.lookup y=some c->(y,NameKind.free)∈scope.names:=by
 have key:∀(l:List (Str×NameKind)) (cs:List (Str×Addr)),(∀y∈l,y.2=.free->∃c,env.cells.lookup y.1=some c) →
   ∃cl,(forIn l cs fun (x:Str×NameKind) (r:List (Str×Addr))=>(if (x.2 == NameKind.free)=true then (do let c ← cellOf env x.1;pure (ForInStep.yield ((x.1,c)::r))) else pure (ForInStep.yield r):Sem (ForInStep (List (Str×Addr)))))=pure cl ∧
    ∀y c,cl.lookup y=some c->(y,NameKind.free)∈l\/∃c',cs.lookup y=some c':=by
  intro l
  induction l with
  | nil=>intro cs _;exact ⟨cs,rfl,fun y c e=>.inr ⟨c,e⟩⟩
  | cons p l ih =>
   intro cs hl;obtain ⟨n,k⟩:=p
   by_cases hk:(k == NameKind.free)=true
   ·have ek:k=.free:=eq_of_beq hk;obtain ⟨c,ec⟩:=hl (n,k) yav ek;obtain ⟨cl,e1,e2⟩:=ih ((n,c)::cs) (fun y hy=>hl y (yan _ hy));refine ⟨cl,?_,fun y c' e=>?_⟩
    ·rw [yb0];show ((if (k == NameKind.free)=true then _ else _) >>= _)=_;rw [if_pos hk]
     have ecell:cellOf env n=pure c:=by unfold cellOf;rw [ec]
     show (cellOf env n >>= _) >>= _=_;rw [ecell];simpa using e1
    ·rcases e2 y c' e with z | ⟨c2,z⟩
     ·exact .inl (yan _ z)
     ·rw [yaD] at z
      cases hq:y == n with
      | true=>rw [eq_of_beq hq,<-ek];exact .inl yav
      | false=>rw [hq] at z;exact .inr ⟨c2,z⟩
   ·obtain ⟨cl,e1,e2⟩:=ih cs (fun y hy=>hl y (yan _ hy));refine ⟨cl,?_,fun y c' e=>(e2 y c' e).elim (fun z=>.inl (yan _ z)) .inr⟩;rw [yb0];show ((if (k == NameKind.free)=true then _ else _) >>= _)=_;rw [if_neg hk];simpa using e1
 obtain ⟨cl',e1,e2⟩:=key scope.names [] h
 have e3:closureFor scope env=pure cl':=by
  unfold closureFor;show ((forIn scope.names [] _:Sem (List (Str×Addr))) >>= _)=_;simpa using e1
 have e4:cl=cl':=by
  have:=hc.symm.trans e3;injection this
 subst e4
 exact fun y c e=>(e2 y c e).elim (fun z=>z) fun ⟨_,z⟩=>by cases z
end L2
namespace S2
open PySem PySem.Spec PyProof.Rows L2
structure StayFn(cl:Cf)(G:Genv)(K:PySem.W.Frag)(st:Stmt)(f:Addr)(fd:FuncData):Prop where
 fn:Fun K "_law_stays" "_law_stays" st f fd
 sc:FnScope ["_law_deed","_law_told","_law_kept"] ["_law_deed"] (zad st)
 l0:(zad st).names.lookup ("_law_deed":Str)=some .local
 l1:(zad st).names.lookup ("_law_told":Str)=some .local
 l2:(zad st).names.lookup ("_law_kept":Str)=some .local
 body:∃(e1:Expr) (kk k2:Nat) (p1 p2 p3 p4 p5 p6 p7 p8 p9 p10 p11 p12 p13 p14 p15 p16 p17 p18 p19 p20 q1 q2 q3:Pos),zaM st=[.Assign [.Name "_law_told" p1] (.Call (.Name "_law_deed" p2) [] [] p3) p4,.If (.UnaryOp .Not e1 p5) [.Return (some (.Constant (.bool false) kk p6)) p7] [] p8,
  .Assign [.Name "_law_kept" p9] (.Call (.Name "list" q1) [.Name "_law_told" q2] [] q3) p10,.Expr (.Call (.Attribute (.Name "_law_told" p11) "append" p12) [.Constant (.str "?") k2 p13] [] p14) p15,
  .Return (some (.Compare (.Call (.Name "_law_deed" p16) [] [] p17) [.Eq] [.Name "_law_kept" p18] p19)) p20]/\zot G 40 (zad st).names ["_law_deed","_law_told","_law_kept"] e1=some (false,eUn (zcu "list") (zap 1))/\zbs e1=true ∧
  zot G 40 (zad st).names ["_law_deed","_law_told","_law_kept"] (.Call (.Name "list" q1) [.Name "_law_told" q2] [] q3)=some (true,zar zjs [zap 1])/\(p12.endLine == p14.line)=true
 bind:∀us:List Value,us.length=1->bindArgs fd ⟨us,[]⟩=pure ([("_law_deed":Str)].zip us)
def zhU{H:Hp}{a b:Addr}{x y:HO}(n:a≠b):upd (upd H a x) b y=upd (upd H b y) a x:=by
 funext c
 by_cases h1:c=a
 ·subst h1;rw [zac n,zag,zag]
 ·by_cases h2:c=b
  ·subst h2;rw [zag,zac h1,zag]
  ·rw [zac h2,zac h1,zac h1,zac h2]
def zjM{pos pos':Pos}{c v:Value}(l:List Value)(h:TriplesOk l)(hn:codeAmong pos' (l++[rawInt pos.line,rawInt pos.col,c])=some v):codeAmong pos' l=some v\/v=c:=by
 fun_induction TriplesOk l with
 | case1 =>
  simp only [List.nil_append,codeAmong,rawInt] at hn;split at hn
  ·exact .inr (Option.some.inj hn).symm
  ·cases hn
 | case2 a t b u x zbH ih =>
  simp only [List.cons_append,codeAmong] at hn ⊢;split at hn
  ·rename_i hc;rw [if_pos hc];exact .inl hn
  ·rename_i hc;rw [if_neg hc];exact ih h hn
 | case3 l h1 h2=>exact h.elim
def zle{cl:Cf}{B:Base}{w:Wd}{S:Sto}{vs:List V}{ds:List D}(W:World' cl B w S)(sh:Shds cl w vs ds):Rel cl B (vs.map some) w (ds.map fun d=>some (false,d)) S:=by
 refine ⟨W,?_,fun i o d hi=>?_⟩
 ·rw [yae,yae];exact sh.length
 ·rw [yaq] at hi
  cases hdi:ds[i]? with
  | none=>rw [hdi] at hi;cases hi
  | some d' =>
   rw [hdi] at hi;cases hi;obtain ⟨v,e1,e2⟩:=sh.at hdi;exact ⟨v,by rw [yaq,e1];rfl,e2⟩
def zmv{cl:Cf}{B:Base}{w:Wd}{S:Sto}{a b c:Option V}(W:World' cl B w S):Rel cl B [a,b,c] w [none,none,none] S:=by
 refine ⟨W,rfl,fun i o d hi=>?_⟩
 match i,hi with
 | 0,hi=>cases hi
 | 1,hi=>cases hi
 | 2,hi=>cases hi
 | n+3,hi=>cases hi
noncomputable def zuz(cl:Cf):R2:=fun x y H Q=>∃w d e r,w.H=H/\TopV cl w x d/\TopV cl w y e/\eqD d e=some r/\∀v w',Grow w w'->Shd cl w' v r->Q v w'.H
noncomputable def zuy(cl:Cf)(K:PySem.W.Frag)(f:Addr)(vs:List V)(fb:Fe):TS :=
 zrh (znR (zh1 0 f vs fun _=>tN cl (fun _=>fun _ _ _=>False) fb) (zhz 1))
 (zrh (zwm (zup (tTr cl (fun _=>fun _ _ _=>False) (eUn (zcu "list") (zap 1)))) (zun (tC (.bl false))) zoQ)
 (zrh (znR (tN cl (fun _=>fun _ _ _=>False) (zar zjs [zap 1])) (zhz 2))
 (zrh (zrk (tBM K "list" zkK (zrf 1) (zmi (tC (.str "?")) zrj)))
 (zun (tOp (zuz cl) (zh1 0 f vs fun _=>tN cl (fun _=>fun _ _ _=>False) fb) (zrf 2))))))
section
variable{P:Program}{wo:PySem.World}{K:PySem.W.Frag}{mg:Z6}{base:Heap}{cl:Cf}{G:Genv}{j:Nat}
def zoU{st:Stmt}{ft cd Pt:Addr}{fd:FuncData}{q:Str}{params:Arguments}{body:Expr}{sc:Scope}{lp:Pos}{N:List Str}{fb:Fe}
  (T:StayFn cl G K st ft fd) (gok:GOk cl G P wo K mg base j) (hc0:G.cod=none) (hkk:K=cl.K) (hP:P=cl.P) (hW:wo=cl.wo)
  (m1:mg "_law_stays" = some (.ref ft)) (k1:PySem.W.keepIn K (.ref ft)=true)
  (hB:znM mg base) (hC:PySem.W.CodeHd base cd Pt) (htb:cl.tabs Pt=some (q ++ "<lambda>")) (LS:LamSc N sc) (nd:N.Nodup) (hfr:∀y∈sc.names,y.2=.free->y.1∈N) (hdf:∀env,defaultsOf params env=([],[])) (hbn:∀clos pm c ctv,bindArgs (PySem.W.kla_fn "<lambda>" (q ++ "<lambda>") params body sc clos pm (.ref c) ctv) ⟨[],[]⟩=pure [])
  (hE:∀(f c:Addr) (clos:List (Str×Addr)) (A:Around) (outer:List PySem.Env) (s:Shared) (H:Hp) (E':XK),Room j (A.deeper (PySem.W.envX (q ++ "<lambda>") sc s.heap.objs.size f (.ref c) clos))->PE (zgY (CXE P wo) P wo K mg base N (q ++ "<lambda>") sc f (.ref c) clos A outer s H E') body (tN cl (fun _=>E') fb)) :
  ztO cl P wo K mg base (j+2) (some (cd,q)) (.Lambda params body sc lp) N fb:=by
 intro X E caps p pos eP eW eK eM eB hr hcalm hg hcod hcaps;subst eP eW eK eM eB;obtain ⟨hcd,hq⟩:=hcod _ rfl;dsimp only at hcd hq;intro pins s σ H Q I h;obtain ⟨B,w,ρ,S,rfl,R,h⟩:=h;unfold zeL at h
 cases hds:zdW ρ caps with
 | none=>rw [hds] at h;exact h.elim
 | some ds =>
 rw [hds] at h;dsimp only at h;obtain ⟨vs,hvl,hvs,sh⟩:=ziR R hds
 obtain ⟨clos,hclos,hcl1,hcl2⟩:=zfo (scope:=sc) (env:=X.env) fun y hy hf=>by
  obtain ⟨i,hi⟩:=ycI.mp (hfr y hy hf)
  have hlt:i<caps.length:=by rw [hcaps.len];exact (yap.mp hi).1
  exact I.ok.has y.1 (.inl (hcaps.at' i y.1 _ hi (yac hlt)).2.1)
 have hlam:=zsr (X:=X) (params:=params) (body:=body) (sc:=sc) (pos:=lp) hcd hC hB hclos (hdf _);rw [hq] at hlam;have ha:PA X [.Lambda params body sc lp] _:=zaF hlam zbx rfl;refine ybu (zdR I hg m1 ?_ (by decide))
 refine ycl (h₀:=X.base) I.ok.mod.kin k1 (thn (ha pos pins s σ w.H (fun xs H1=>∃f c oc ctv w1,xs=[.ref f]/\w1.H=H1/\Rel cl B σ w1 ρ S/\Fut w w1 ∧
   w1.H f=some (.frz (PySem.W.kla_obj "<lambda>" (q ++ "<lambda>") params body sc clos ((X.mg "__name__").getD .none) c ctv) (.own f))/\w1.H c=some (.frz oc (.own c))/\zi0 (q ++ "<lambda>") oc) I ?rd) fun us s1 ⟨xs,H1,I1,r1,q1⟩=>⟨I1.kIn,?go⟩) rfl rfl
 case rd =>
  obtain ⟨ps,t1,t2,t3⟩:=R.wd.tab Pt _ htb;refine ⟨ps,t1,t3.1,fun hca f c oc ctv hf hc hfc hco=>?_,fun cv hca=>?_⟩
  ·have g1:=zaq (w:=w) hc (.frz oc (.own c))
   have hf':(w.add c (.frz oc (.own c))).H f=none:=by show upd w.H c _ f=none;rw [zac hfc];exact hf
   have g2:=zaq (w:=w.add c (.frz oc (.own c))) hf' (.frz (PySem.W.kla_obj "<lambda>" (q ++ "<lambda>") params body sc clos ((X.mg "__name__").getD .none) c ctv) (.own f));have R2:=(R.grow g1).grow g2
   have pc:c≠Pt:=fun z=>by rw [z,t1] at hc;cases hc
   have pf:f≠Pt:=fun z=>by rw [z,t1] at hf;cases hf
   have a1:=g1.keep Pt _ t1;have a2:=g2.keep Pt _ a1.1;have c1:(w.add c (.frz oc (.own c))).H c=some (.frz oc (.own c)):=zl3;have c2:=g2.keep c _ c1
   obtain ⟨R3,F3⟩:=R2.tabUp (ps':=ps++#[rawInt lp.line,rawInt lp.col,.ref c]) a2.1 (a2.2.trans (a1.2.trans t2)) fun q' hq'=>by
    have eq':q'=q ++ "<lambda>":=by rw [htb] at hq';exact (Option.some.inj hq').symm
    subst eq';have t4:=(t3.up g1.fut).up g2.fut;refine ⟨by rw [Array.toList_append];exact TriplesOk_snoc _ _ _ _ t3.1,fun pos' cv e=>?_⟩;rw [Array.toList_append] at e
    rcases zjM _ t3.1 e with z | z
    ·exact t4.2 pos' cv z
    ·exact ⟨c,oc,z,⟨c2.1,c2.2.trans ziW⟩,hco⟩
   refine ⟨f,c,oc,ctv,_,rfl,?_,R3,g1.fut.trans (g2.fut.trans F3),?_,?_,hco⟩
   ·show upd (upd (upd w.H c _) f _) Pt _=_;rw [zhU pf,zhU pc]
   ·show upd (upd (upd w.H c _) f _) Pt _ f=_;rw [zac pf,zag]
   ·show upd (upd (upd w.H c _) f _) Pt _ c=_;rw [zac pc,zac (fun z=>hfc z.symm),zag]
  ·obtain ⟨c,oc,rfl,hcw,hco⟩:=t3.2 lp cv hca;refine ⟨c,oc,rfl,hcw.1,hco,fun f ctv hf=>?_⟩;have g1:=zaq (w:=w) hf (.frz (PySem.W.kla_obj "<lambda>" (q ++ "<lambda>") params body sc clos ((X.mg "__name__").getD .none) c ctv) (.own f));exact ⟨f,c,oc,ctv,w.add f _,rfl,rfl,R.grow g1,g1.fut,zl3,(g1.keep c _ hcw.1).1,hco⟩
 case go =>
  obtain ⟨f,c,oc,ctv,w1,rfl,rfl,R1,F1,hf1,hc1,⟨us1,tt,hd1,hv1⟩⟩:=q1
  have hmem:=zhM (scope:=sc) (env:=X.env) (cl:=clos) (fun y hy hf=>by
   obtain ⟨i,hi⟩:=ycI.mp (hfr y hy hf)
   have hlt:i<caps.length:=by rw [hcaps.len];exact (yap.mp hi).1
   exact I.ok.has y.1 (.inl (hcaps.at' i y.1 _ hi (yac hlt)).2.1)) hclos
  have L:LamAt s1.heap w1.H f params (q ++ "<lambda>") body sc N vs clos c ((X.mg "__name__").getD .none) ctv:={
   fn:=(I1.hok f _ hf1).1
   code:=⟨c,oc,us1,tt,rfl,(I1.hok c _ hc1).1,hd1,hv1⟩
   inj:=fun x y a h1 h2=>I1.ok.inj x y a (hcl1 x a h1) (hcl1 y a h2)
   has:=fun x hx=>hcl2 x (yaB hx)
   cell:=fun x a e=>⟨I1.freeC x a (hcl1 x a e),I1.cell x a (hcl1 x a e)⟩
   val:=fun i x v h1 h2=>by
    have hlt:i<caps.length:=by rw [hcaps.len];exact (yap.mp h1).1
    obtain ⟨b1,b2,_⟩:=hcaps.at' i x _ h1 (yac hlt);obtain ⟨m,hn,hl⟩:=I1.loc;obtain ⟨u,rv,lk⟩:=hl _ x v b1 (hvs i _ v (yac hlt) h2) (.inr (.inl b2));obtain ⟨a,ea⟩:=hcl2 x (yaB (LS.free x (yba h1)))
    rcases lk with ⟨kl,_⟩ | ⟨_,a',ec,ic⟩
    ·have kl':X.env.scope.names.lookup x=some .local:=kl;rw [b2] at kl';cases kl'
    ·have:=(hcl1 x a ea).symm.trans ec;cases this;exact ⟨u,a,rv,ea,ic⟩
   len:=hvl.trans hcaps.len }
  have hx:∀x a,clos.lookup x=some a->a ∉ frs X.stack/\a ∉ ([]:List Addr):=fun x a e=>⟨fun hb=>by
   rcases yaw.mp (I1.stkSub a hb) with z | z
   ·exact I1.cne x a (hcl1 x a e) z
   ·obtain ⟨i,hi⟩:=ycI.mp (hfr (x,.free) (hmem x a e) rfl)
    have hlt:i<caps.length:=by rw [hcaps.len];exact (yap.mp hi).1
    have hge:=I1.ok.cab x a (hcaps.at' i x _ hi (yac hlt)).2.2 (hcl1 x a e);obtain ⟨_,o,ho,_⟩:=I1.ok.funs.mem z
    exact absurd (yag (yak ho) hge) (yaR _),by simp⟩
  obtain ⟨oc',od,kV,doc,pm',an,cdv,ct,osl,rfl,lk,hc'⟩:=T.fn.ex;obtain ⟨e1,kk,k2,p1,p2,p3,p4,p5,p6,p7,p8,p9,p10,p11,p12,p13,p14,p15,p16,p17,p18,p19,p20,q1,q2,q3,hbody,hd1',htst,hd2,hln⟩:=T.body
  cases r1 with
  | cons r1 r2 =>
  cases r2;cases r1;have hr1:Room (j+1) (X.A.deeper (envOfC "_law_stays" (zad st) s1.heap.objs.size ft cdv)):=hr.deeper _
  have g:Gx cl G j (zhK (CXE X.prog X.w) X.prog X.w X.K X.mg X.base ["_law_deed","_law_told","_law_kept"] "_law_stays" (zad st) ft cdv X.A X.stack s1 w1.H (fun _ _ _=>False)) (zad st).names ["_law_deed","_law_told","_law_kept"] (fun _=>fun _ _ _=>False) :=
   ⟨gok,hr1.mono (ybE _),rfl,fun pins σ H1 s1 e s' I q=>zmP pins σ H1 s1 e s' I q,rfl,hkk,hP,hW,T.sc.nd,fun x kd h=>⟨kd,h,.inl rfl⟩,(fun x h=>h),(fun c h=>by rw [hc0] at h;cases h),(fun x h=>rfl)⟩
  have D1:=zgU 40 _ _ _ _ g _ _ _ hd1';have D2:=zgU 40 _ _ _ _ g _ _ _ hd2
  have DD:∀p p',PE (zhK (CXE X.prog X.w) X.prog X.w X.K X.mg X.base ["_law_deed","_law_told","_law_kept"] "_law_stays" (zad st) ft cdv X.A X.stack s1 w1.H (fun _ _ _=>False)) (.Call (.Name "_law_deed" p) [] [] p') (zh1 0 f vs fun _=>tN cl (fun _=>fun _ _ _=>False) fb):=fun p p' =>
   zmL (CX:=CXE X.prog X.w) (E:=fun _=>fun _ _ _=>False) (k:=j) (te:=fun _=>tN cl (fun _=>fun _ _ _=>False) fb) LS hr1 rfl (.inl T.l0) L hf1 hc1 I1.hok hx (hbn _ _ _ _) (fun pins σ H1 s1 e s' I q=>zmP pins σ H1 s1 e s' I q) (fun σ' s'' H' hr'=>hE f c clos _ _ s'' H' _ hr') (by decide) (by decide)
  refine yc8 (ybK (zvu (CX:=CXE X.prog X.w) (E:=fun _ _ _=>False) (k:=j+1) (Q:=Q) (vs:=[.ref f]) (t:=zuy cl X.K f vs fb) lk hc' T.sc hr I1.env0 (.of_eq (T.bind _ rfl)) (.cons rfl .nil) rfl ?bd ?rd2) fun r s' hq=>?_)
  case bd =>
   rw [hbody];refine zdv (zii (i:=1) T.sc.nd rfl (.inl T.l1) (DD _ _) rfl (.inr T.l1)) ?_;refine zdv (zsh (zn1 (D1.2.2.1 htst)) (zkL (zgs zsu)) zkM) ?_;refine zdv (zii (i:=2) T.sc.nd rfl (.inl T.l2) (D2.1 rfl) rfl (.inr T.l2)) ?_;refine zdv (zdb (zjm (es:=[]) ya7 ybO ybP zdx (zaD (i:=1) rfl (.inl T.l1) (by decide) (by decide)) (zaF zn6 zbx rfl) (hline:=hln))) ?_;exact zkL (zgs (zkY (zsO hkk (by have:=hr1.units;exact this)) (DD _ _) (zaD (i:=2) rfl (.inl T.l2) (by decide) (by decide)) rfl))
  case rd2 =>
   cases hfb:fb (ds.map fun d=>some (false,d)) S with
   | bad=>rw [hfb] at h;exact h.elim
   | exc c S'=>rw [hfb] at h;exact h.elim
   | ok d S1 =>
   rw [hfb] at h
   cases d with
   | lst l =>
    dsimp only at h
    cases hz:zaE l.length with
    | false=>rw [hz,if_neg (by decide)] at h;exact h.elim
    | true =>
     rw [hz,if_pos rfl] at h
     cases hfb2:fb (ds.map fun d=>some (false,d)) S1 with
     | bad=>rw [hfb2] at h;exact h.elim
     | exc c S'=>rw [hfb2] at h;exact h.elim
     | ok d2 S2 =>
     rw [hfb2] at h;dsimp only at h
     cases he:eqD d2 (.lst l) with
     | none=>rw [he] at h;exact h.elim
     | some r =>
     rw [he] at h;have sh1:=(sh.up F1).up (zbq w1);refine ⟨rfl,w1.base,w1.inn,_,S,rfl,zle R1.wd.enter sh1,?_⟩;rw [hfb];intro p o w' R' F' hp ht;have Ra:=(zmv (a:=some (.ref f)) (b:=none) (c:=none) R'.wd).own (i:=1) hp ht;have Fa:=za1 (w:=w') (p:=p) (o:=o) (r:=.slot 1) hp;refine ⟨w1.base,w'.addAs p o (.slot 1),[none,some (true,.lst l),none],S1,rfl,Ra,?_⟩;intro w2 R2 F2;refine ⟨w1.base,w2,[none,some (true,.lst l),none],S1,rfl,R2,?_⟩;intro q' oq w3 R3 F3 hq tq;have Rb:=R3.own (i:=2) hq tq;have Fb:=za1 (w:=w3) (p:=q') (o:=oq) (r:=.slot 2) hq;obtain ⟨a,xs,e1',h1,h2,t⟩:=Rb.list (i:=1) (l:=l) rfl
     have ea:a=p:=by have:=Option.some.inj (Option.some.inj e1');cases this;rfl
     subst ea;have Rc:=Rb.mut (i:=1) (d:=.lst (l++[.str "?"])) (d0:=.non) e1' h1 (.lst (t.append (.cons (.str "?") .nil)));have Fc:=zcG (w:=w3.addAs q' oq (.slot 2)) (p:=a) (o:=.lst (xs++[.str "?"])) (by rw [h1];exact yaC _);refine ⟨_,e1',.inl ⟨rfl,_,SqL.of h2⟩,a,xs,.str "?",rfl,rfl,h2,by rw [t.length];exact zcS hz,?_⟩;have sh2:=((((((sh1.up F').up Fa).up F2).up F3).up Fb).up Fc).up (zbq _);refine ⟨rfl,_,_,_,S1,rfl,zle Rc.wd.enter sh2,?_⟩;rw [hfb2];intro p2 o2 w4 R4 F4 hp2 t2;obtain ⟨Rd,Fd⟩:=Rc.leave R4.wd F4;have Re:=Rd.own (i:=3) (p:=p2) (o:=o2) hp2 (t2.up (zbI R4.wd));have Fe':=za1 (w:=((w3.addAs q' oq (.slot 2)).mut a (.lst (xs++[.str "?"]))).back w4) (p:=p2) (o:=o2) (r:=.slot 3) hp2;obtain ⟨b,ys,e2',g1,g2,tb⟩:=Re.list (i:=2) (l:=l) rfl;refine ⟨_,e2',_,d2,.lst l,r,rfl,.ow zag ((t2.up (zbI R4.wd)).up Fe'),.ow g2 (.lst tb),he,fun v w5 gw rv=>?_⟩;have Rf:=Re.grow gw;obtain ⟨Rg,Fg⟩:=R1.leave Rf.wd (((((((F'.trans Fa).trans F2).trans F3).trans Fb).trans Fc).trans Fd).trans (Fe'.trans gw.fut));exact h v (w1.back w5) Rg (F1.trans Fg) (rv.up (zbI Rf.wd))
   | _=>exact h.elim
  ·cases r with
   | error e=>obtain ⟨_,_,_,_,_,_,_,_,_,_,_,_,_,_,z⟩:=hq;exact z.elim
   | ok fl =>
    cases fl with
    | ret u=>exact I1.after hq
    | next=>exact False.elim hq
    | brk=>exact False.elim hq
    | cont=>exact False.elim hq
end
def zgK(sc:Scope):List Str:=(sc.names.filter fun y=>y.2 == .free).map (·.1)
noncomputable def zsT:Arguments:={ posonlyargs:=[],args:=[],vararg:=none,kwonlyargs:=[],kw_defaults:=[],kwarg:=none,defaults:=[] }
noncomputable def zqm(p:Arguments):Bool:=match p with | ⟨[],[],none,[],[],none,[]⟩=>true | _=>false
def zm9{p:Arguments}(h:zqm p=true):p=zsT:=by
 unfold zqm at h;split at h
 ·rfl
 ·cases h
def zs2(sc:Scope):Bool:=decide (sc.kind=.function)&&!sc.isCoroutine&&!sc.isGenerator&&sc.names.all (fun y=>!(y.2 == .cell))&&(zgK sc).all (fun x=>decide (sc.names.lookup x=some .free))&&decide (zgK sc).Nodup
def zqb(G:Genv):Expr->Option (List Str×Fe)
 | .Lambda params body sc _=>if zqm params&&zs2 sc then (zot G 40 sc.names (zgK sc) body).bind fun p=>if p.1 then some (zgK sc,p.2) else none else none
 | _=>none
noncomputable def Genv.withLam(G:Genv)(cd:Addr)(q:Str):Genv:={ G with lam:=zqb G,cod:=some (cd,q) }
theorem GOk.lamUp{P:Program}{wo:PySem.World}{K:PySem.W.Frag}{mg:Z6}{base:Heap}{cl:Cf}{G:Genv}{j:Nat}{st:Stmt}{ft cd Pt:Addr}{fd:FuncData}{q:Str}
  (gok:GOk cl G P wo K mg base j) (hc0:G.cod=none) (T:StayFn cl G K st ft fd) (hkk:K=cl.K) (hP:P=cl.P) (hW:wo=cl.wo)
  (m1:mg "_law_stays" = some (.ref ft)) (k1:PySem.W.keepIn K (.ref ft)=true)
  (hB:znM mg base) (hC:PySem.W.CodeHd base cd Pt) (htb:cl.tabs Pt=some (q ++ "<lambda>")):GOk cl (G.withLam cd q) P wo K mg base (j+2) where
 con:=gok.con
 fn:=fun y fj h=>by
  obtain ⟨f',fd',ps',h1,h2,h3,h4⟩:=gok.fn y fj h;exact ⟨f',fd',ps',h1,h2,h3,h4.mono (by omega)⟩
 blt:=gok.blt
 exc:=gok.exc
 und:=gok.und
 isx:=gok.isx
 fk:=gok.fk
 mt:=fun m c fi h=>by
  obtain ⟨f',fd',ps',h1,h2,h3,h4⟩:=gok.mt m c fi h;exact ⟨f',fd',ps',h1,h2,h3,h4.mono (by omega)⟩
 mks:=fun c dds fi h=>by
  obtain ⟨f',fd',ps',dvs,ds,i,hi,z⟩:=gok.mks c dds fi h;exact ⟨f',fd',ps',dvs,ds,i,by omega,z⟩
 tl:=fun e N fb h=>by
  have h':zqb G e=some (N,fb):=h;unfold zqb at h';split at h'
  ·rename_i params body sc lp;split at h'
   ·rename_i hok;rw [yab] at hok;obtain ⟨⟨o,f⟩,h1,h2⟩:=zaa h';dsimp only at h2;split at h2
    rotate_left
    ·cases h2
    rename_i ho;cases h2;have ep:=zm9 hok.1;subst ep;have hs:=hok.2;unfold zs2 at hs;simp only [yab,ya9,ybC,ybl] at hs;obtain ⟨⟨⟨⟨⟨s1,s2⟩,s3⟩,s4⟩,s5⟩,s6⟩:=hs
    have nc:∀y∈sc.names,y.2≠.cell:=fun y hy z=>by have:=s4 y hy;rw [z] at this;cases this
    have LS:LamSc (zgK sc) sc:=⟨s1,s2,s3,nc,s5⟩;refine zoU (G:=G) T gok hc0 hkk hP hW m1 k1 hB hC htb LS s6 (fun y hy hf=>?_) (fun _=>rfl) (fun _ _ _ _=>rfl) (fun f' c' clos A outer s H E' hr=>?_)
    ·unfold zgK;exact yau.mpr ⟨y,ya0.mpr ⟨hy,by rw [hf];rfl⟩,rfl⟩
    ·have g:Gx cl G j (zgY (CXE P wo) P wo K mg base (zgK sc) (q ++ "<lambda>") sc f' (.ref c') clos A outer s H E') sc.names (zgK sc) (fun _=>E') :=
      ⟨gok,hr,rfl,fun pins σ H1 s1 e s' I qq=>zuU pins σ H1 s1 e s' I qq,rfl,hkk,hP,hW,s6,fun x kd h=>⟨kd,h,.inl rfl⟩,fun x h=>h,(fun c h=>by rw [hc0] at h;cases h),fun x h=>absurd rfl (nc _ (yaB h))⟩
     exact (zgU 40 _ _ _ _ g body o _ h1).1 ho
   ·cases h'
  ·cases h'
theorem zqR{cl:Cf}{fs:Fs}{own:Bool}{n:Nat}{N:List Str}{vs:List V}{H:Hp}{Q:VK}{X:XK}(hsp:zgg cl n own (zbE N.length own fs) vs H Q X):tS cl (fun _=>X) own fs { nx:=fun _ H'=>Q .non H',rt:=Q } (L2.zc6 N vs) H:=by
 obtain ⟨hl,B,w,ds,S0,rfl,W,sh,q⟩:=hsp;have hdl:ds.length=vs.length:=sh.length.symm;refine ⟨B,w,ds.map (fun d=>some (false,d))++List.replicate (N.length-ds.length) none,S0,rfl,⟨W,?_,fun i o d hi=>?_⟩,?_⟩
 ·unfold L2.zc6;rw [yar,yar,yae,yae,yaJ,yaJ,hdl]
 ·by_cases hlt:i<ds.length
  ·rw [yaE (by rw [yae];exact hlt),yaq] at hi
   cases hdi:ds[i]? with
   | none=>rw [hdi] at hi;cases hi
   | some d' =>
    rw [hdi] at hi;cases hi;obtain ⟨v,e1,e2⟩:=sh.at hdi;refine ⟨v,?_,e2⟩;unfold L2.zc6;rw [yaE (by rw [yae];omega),yaq,e1];rfl
  ·rw [yaA (by rw [yae];omega),yby] at hi
   split at hi<;>cases hi
 ·unfold zbE at q
  cases hf:fs (ds.map (fun d=>some (false,d))++List.replicate (N.length-ds.length) none) S0 with
  | bad=>rwa [hf] at q
  | bk _ _=>rw [hf] at q;exact q.elim
  | ct _ _=>rw [hf] at q;exact q.elim
  | rt d S'=>rwa [hf] at q
  | ex c ρ' S'=>rw [hf] at q;exact fun σ' w' R' F'=>q w' R'.wd F'
  | nx ρ' S' =>
   rw [hf] at q;dsimp only at q
   cases own with
   | true=>exact q.elim
   | false=>exact fun σ' w' R' F'=>q .non w' R'.wd F' .non
def ztj{P:Program}{wo:PySem.World}{K:PySem.W.Frag}{mg:Z6}{base:Heap}{cl:Cf}{G:Genv}{k:Nat}{x qual:Str}{st:Stmt}{f cd:Addr}{N ps:List Str}{own:Bool}{fs:Fs}{oc kV doc pm ct:Value}{od an:Option Addr}{osl:Array (Option Value)}
  (lk:K.lookup f=some ⟨oc,od,.func (PySem.W.fnOf x qual (zbk st) (zaM st) (zad st) .none kV doc pm an (.ref cd) ct),osl⟩) (hcd:PySem.W.codeIn K (.ref cd) qual=true) (S:FnScope N ps (zad st)) (hG:GOk cl (G.withLam cd (qual ++ ".<locals>.")) P wo K mg base k)
  (hk:K=cl.K) (hP:P=cl.P) (hW:wo=cl.wo) (hd:zgV (G.withLam cd (qual ++ ".<locals>.")) own N st=some fs):FnOk P wo K mg base (CXE P wo) (k+1) f (PySem.W.fnOf x qual (zbk st) (zaM st) (zad st) .none kV doc pm an (.ref cd) ct) ps (zgg cl ps.length own (zbE N.length own fs)):=by
 refine ztk lk hcd S (fun vs H Q E h=>h.1) fun A outer s H vs Q E hr hsp=>?_
 refine ⟨tS cl (fun _=>E) own fs,?_,zqR hsp⟩
 have g:Gd cl (G.withLam cd (qual ++ ".<locals>.")) k (zhK (CXE P wo) P wo K mg base N qual (zad st) f (.ref cd) A outer s H E) (zad st).names N (fun _=>E) true :=
  ⟨⟨hG,hr,rfl,fun pins σ H1 s1 e s' I q=>zmP pins σ H1 s1 e s' I q,rfl,hk,hP,hW,S.nd,fun x kd h=>⟨kd,h,.inl rfl⟩,(fun x h=>h),(fun c h=>by cases h;exact ⟨rfl,rfl⟩),(fun x h=>rfl)⟩,fun _=>rfl,S.kind,rfl,fun _=>PassesOwn.leaving,fun _ C pins σ H1 s1 e h' vs I mk q=>zkJ C pins σ H1 s1 e h' vs I mk q,rfl,rfl⟩
 exact ziT (fun st f hst=>zfY 40 true _ _ g st f hst) hd
structure XA(K:PySem.W.Frag)(x:Str)(e:Addr):Prop where
 n:PySem.W.nsIn K mainGlobals x=some (some (.ref e))
 x:PySem.W.excIn K e bmV "ValueError.__new__" = true
def scB(n:Nat)(N:List Str)(sc:Scope):Bool:=(match sc.kind with | .function=>true | _=>false)&&!sc.isCoroutine&&!sc.isGenerator&&decide N.Nodup&&decide ((N.take n).length=n)&&decide (∀x∈N.take n,sc.names.lookup x=some .local\/sc.names.lookup x=some .cell)&&decide (∀y∈sc.names,y.2≠.free)
def zgm{n:Nat}{N:List Str}{sc:Scope}(h:scB n N sc=true):FnScope N (N.take n) sc/\(N.take n).length=n:=by
 unfold scB at h;simp only [yab,ya9,ybC] at h;obtain ⟨⟨⟨⟨⟨⟨h1,h2⟩,h3⟩,h4⟩,h5⟩,h6⟩,h7⟩:=h;exact ⟨⟨by split at h1;(· assumption);(· cases h1),h2,h3,h4,by rw [h5],h6,h7⟩,h5⟩
section
variable{cl:Cf}{T:Tab}{mg:Z6}{base h:Heap}{k:Nat}{F:Fn3}{f:Fs}{x:Str}{st:Stmt}
def ag(g:GOk cl (Gn T F) cl.P cl.wo cl.K mg base k)(X:cl.K.In h)(G:h.Ns mainGlobals mg)(p:GFn cl.K x st)(n:Nat)(N:List Str)(own:Bool)(r:Rn)(f:Fs)(b:BB x x st (N.take n))(s:scB n N (zad st)=true)(e:r=zbE N.length own f)(d:zgV (Gn T F) own N st=some f):GOk cl (Gn T (F.fn x ⟨n,own,r⟩)) cl.P cl.wo cl.K mg base (k+1):=by
 obtain ⟨S,l⟩:=zgm s;obtain ⟨f',a,p⟩:=p.ex;obtain ⟨fd,U,B,kp,_⟩:=p.un b;have z:=zqt U S g rfl rfl rfl d;rw [l,<-e] at z;exact GOk.add g (ybr X G a) kp B z
def am{c q:Str}(g:GOk cl (Gn T F) cl.P cl.wo cl.K mg base k)(cc:Cls cl.K (cl c))(p:MFn cl.K (cl c) x q st)(n:Nat)(N:List Str)(own:Bool)(r:Rn)(f:Fs)(b:BB x q st (N.take n))(s:scB n N (zad st)=true)(e:r=zbE N.length own f)(d:zgV (Gn T (F.at c)) own N st=some f):GOk cl (Gn T (F.mt x c ⟨n,own,r⟩)) cl.P cl.wo cl.K mg base (k+1):=by
 obtain ⟨S,l⟩:=zgm s;obtain ⟨f',a,p⟩:=p.ex;obtain ⟨fd,U,B,kp,i⟩:=p.un b;have z:=zqt U S (g.at c) rfl rfl rfl d;rw [l,<-e] at z;exact GOk.addM (g.up (ybE _)) cc ⟨a,i,kp⟩ B z
def ak{c q:Str}(g:GOk cl (Gn T F) cl.P cl.wo cl.K mg base k)(X:cl.K.In h)(G:h.Ns mainGlobals mg)(ny:PySem.W.nsIn cl.K mainGlobals c=some (some (.ref (cl c))))(mk:PySem.W.makesIn cl.K (cl c)=true)(kpc:PySem.W.keepIn cl.K (.ref (cl c))=true)(p:MFn cl.K (cl c) "__init__" q st)(n:Nat)(N:List Str)(r:Rn)(f:Fs)(b:BB "__init__" q st (N.take n))(s:scB n N (zad st)=true)(e:r=zbE N.length false f)(d:zgV (Gn T (F.at c)) false N st=some f):GOk cl (Gn T (F.cls c [] ⟨n,false,r⟩)) cl.P cl.wo cl.K mg base (k+2):=by
 obtain ⟨S,l⟩:=zgm s;obtain ⟨f',a,p⟩:=p.ex;obtain ⟨fd,U,B,kp,i⟩:=p.un b;have z:=zqt U S (g.at c) rfl rfl rfl d;rw [l,<-e] at z;exact GOk.addK (k':=k+1) (dvs:=[]) (g.up (Nat.le_add_right k 2)) (yah _) (ybr X G ny) ⟨mk,a,i,kpc⟩ B B .nil (fun _=>.nil) z
end
end S2
namespace M96
open PySem L2 S2 S2.L96
noncomputable def top(i:Nat):Stmt:=PySem.Challenge.pw_floorfits_k96_whole_told_lists.main.body.getD i (.Pass ⟨0,0,0,0⟩)
noncomputable def T:Tab:=⟨[("MOST_COLOUR",.int 8),("MOST_TILES",.int 16),("MOST_SIDE",.int 6),("MOST_LETTERS",.int 6)],["isinstance","int","bool","tuple","list","str","len","range","all","max","zip","sorted","set","ValueError"],["FloorError","Unlike","NoName"],[("NoName","FloorError"),("Unlike","FloorError")],[],[("Album","tiles"),("Album","named"),("Album","done"),("Album","undone")],["named"],[]⟩
noncomputable def F0:Fn3:=⟨"",[],[],[]⟩
theorem sT:FnScope ["_law_deed","_law_told","_law_kept"] ["_law_deed"] (zad (top 49)):=(zgm (n:=1) (by kernel_rfl)).1
def eT1:Expr:=match zaM (top 49) with | [_,.If (.UnaryOp _ e _) _ _ _,_,_,_]=>e | _=>.Constant .none 0 ⟨0,0,0,0⟩
def eT2:Expr:=match zaM (top 49) with | [_,_,.Assign _ e _,_,_]=>e | _=>.Constant .none 0 ⟨0,0,0,0⟩
def tF{F:Fn3}{cl:Cf}{K:PySem.W.Frag}{f:Addr}{oc kV dc pm cd ct:Value}{od an:Option Addr}{sl:Array (Option Value)}(l:K.lookup f=some ⟨oc,od,.func (PySem.W.fnOf "_law_stays" "_law_stays" (zbk (top 49)) (zaM (top 49)) (zad (top 49)) .none kV dc pm an cd ct),sl⟩)(c:PySem.W.codeIn K cd "_law_stays" = true)(k:PySem.W.keepIn K (.ref f)=true)(d1:zot (Gn T F) 40 (zad (top 49)).names ["_law_deed","_law_told","_law_kept"] eT1=some (false,eUn (zcu "list") (zap 1)))(d2:zot (Gn T F) 40 (zad (top 49)).names ["_law_deed","_law_told","_law_kept"] eT2=some (true,zar zjs [zap 1])):StayFn cl (Gn T F) K (top 49) f (PySem.W.fnOf "_law_stays" "_law_stays" (zbk (top 49)) (zaM (top 49)) (zad (top 49)) .none kV dc pm an cd ct) :=
 ⟨zom (st:=top 49) l c k,sT,by rfl,by rfl,by rfl,⟨eT1,_,_,_,_,_,_,_,_,_,_,_,_,_,_,_,_,_,_,_,_,_,_,_,_,_,rfl,d1,rfl,d2,rfl⟩,fun us hl=>match us,hl with | [_],_=>rfl⟩
def gm{K:PySem.W.Frag}{x:Str}{st:Stmt}{f:Addr}{oc kV dc pm cd ct:Value}{od an:Option Addr}{sl:Array (Option Value)}(a:PySem.W.nsIn K mainGlobals x=some (some (.ref f)))(l:K.lookup f=some ⟨oc,od,.func (PySem.W.fnOf x x (zbk st) (zaM st) (zad st) .none kV dc pm an cd ct),sl⟩)(c:PySem.W.codeIn K cd x=true)(k:PySem.W.keepIn K (.ref f)=true)(i:PySem.W.isFn K (.ref f)=true):GFn K x st:=⟨f,a,oc,od,kV,dc,pm,an,cd,ct,sl,l,c,k,i⟩
def mm{K:PySem.W.Frag}{x q:Str}{st:Stmt}{f:Addr}{oc kV dc pm cd ct:Value}{od an:Option Addr}{sl:Array (Option Value)}{C:Addr}(a:PySem.W.findIn K (.ref C) x=some (some (.ref f)))(l:K.lookup f=some ⟨oc,od,.func (PySem.W.fnOf x q (zbk st) (zaM st) (zad st) .none kV dc pm an cd ct),sl⟩)(c:PySem.W.codeIn K cd q=true)(k:PySem.W.keepIn K (.ref f)=true)(i:PySem.W.isFn K (.ref f)=true):MFn K C x q st:=⟨f,a,oc,od,kV,dc,pm,an,cd,ct,sl,l,c,k,i⟩
def all_mk{l:PySem.W.OpenLaw}{w:PySem.World}{K:PySem.W.Frag}{h:Heap}{mg:Z6}{fa f41 cdA0 Pt0:Addr}(X:K.In h)(G:h.Ns mainGlobals mg)(hfa:mg "law" = some (.ref fa))
  {od41 an41:Option Addr} {sl41:Array (Option Value)} {oc41 kV41 dc41 pm41 ct41:Value}
  {yAlbum:Addr}
  (nyAlbum:PySem.W.nsIn K mainGlobals "Album" = some (some (.ref yAlbum))) (pgAlbum:PySem.W.plainGet K yAlbum Str.empty=true) (hdAlbum:PySem.W.hasDictIn K yAlbum=true) (poAlbum:PySem.W.plainOver K yAlbum=true) (saAlbum:PySem.W.findIn K (.ref yAlbum) "__setattr__" = some (some (.builtin "object.__setattr__"))) (mkAlbum:PySem.W.makesIn K yAlbum=true) (kpAlbum:PySem.W.keepIn K (.ref yAlbum)=true)
  (naAlbumtiles:PySem.W.findIn K (.ref yAlbum) "tiles" = some none)
  (naAlbumnamed:PySem.W.findIn K (.ref yAlbum) "named" = some none)
  (naAlbumdone:PySem.W.findIn K (.ref yAlbum) "done" = some none)
  (naAlbumundone:PySem.W.findIn K (.ref yAlbum) "undone" = some none)
  (a41:PySem.W.nsIn K mainGlobals "law" = some (some (.ref f41)))
  (l41:K.lookup f41=some ⟨oc41,od41,.func (PySem.W.fnOf "law" "law" (zbk (top 50)) (zaM (top 50)) (zad (top 50)) .none kV41 dc41 pm41 an41 (.ref cdA0) ct41),sl41⟩) (c41:PySem.W.codeIn K (.ref cdA0) "law" = true) (k41:PySem.W.keepIn K (.ref f41)=true)
  (zz:∀x∈T.blt,PySem.W.nsIn K mainGlobals x=some none)
  {gt1:Tok} (gl1:PySem.W.nsIn K mainGlobals "MOST_COLOUR" = some (some (.int 8 gt1)))
  {gt2:Tok} (gl2:PySem.W.nsIn K mainGlobals "MOST_TILES" = some (some (.int 16 gt2)))
  {gt3:Tok} (gl3:PySem.W.nsIn K mainGlobals "MOST_SIDE" = some (some (.int 6 gt3)))
  {gt4:Tok} (gl4:PySem.W.nsIn K mainGlobals "MOST_LETTERS" = some (some (.int 6 gt4)))
  {e0 e1 e2:Addr}
  (n0:XA K "FloorError" e0)
  (n1:XA K "Unlike" e1)
  (n2:XA K "NoName" e2)
  {el1:Value} {ed1:Option Addr} {ec1:ClassData} {es1:Array (Option Value)} (lk1:K.lookup e1=some ⟨el1,ed1,.cls ec1,es1⟩) (mr1:ec1.mro.contains (.ref e0)=true)
  {el2:Value} {ed2:Option Addr} {ec2:ClassData} {es2:Array (Option Value)} (lk2:K.lookup e2=some ⟨el2,ed2,.cls ec2,es2⟩) (mr2:ec2.mro.contains (.ref e0)=true)
  (p1:GFn K "is_whole" (top 9)) (p2:GFn K "is_tuple_of" (top 10)) (p3:GFn K "is_colour" (top 11)) (p4:GFn K "is_tile" (top 12)) (p5:GFn K "is_set" (top 13)) (p6:GFn K "has_number" (top 14)) (p7:GFn K "may_lie" (top 15)) (p8:GFn K "is_row" (top 16)) (p9:GFn K "is_floor" (top 17)) (p10:GFn K "size_of" (top 18)) (p11:GFn K "places_of" (top 19)) (p12:GFn K "is_row_like" (top 20)) (p13:GFn K "is_like" (top 21)) (p14:GFn K "number_at" (top 22)) (p15:GFn K "laid_places" (top 23)) (p16:GFn K "numbers_on" (top 24)) (p17:GFn K "has_tiles_of" (top 25)) (p18:GFn K "unused" (top 27)) (p19:GFn K "stretch" (top 29)) (p20:GFn K "part" (top 30)) (p21:GFn K "is_name" (top 33)) (p22:GFn K "refuse_no_name" (top 34)) (p23:MFn K yAlbum "__init__" "Album.__init__" (inC 0 (top 35))) (p24:MFn K yAlbum "name_floor" "Album.name_floor" (inC 1 (top 35))) (p25:MFn K yAlbum "do" "Album.do" (inC 2 (top 35))) (p26:MFn K yAlbum "put" "Album.put" (inC 3 (top 35))) (p27:MFn K yAlbum "floor_of" "Album.floor_of" (inC 4 (top 35))) (p28:MFn K yAlbum "names" "Album.names" (inC 7 (top 35))) (p29:MFn K yAlbum "sizes" "Album.sizes" (inC 11 (top 35))) (p30:GFn K "counted" (top 37)) (p31:GFn K "tally" (top 38)) (p32:GFn K "colours_on" (top 39)) (p33:GFn K "like_rows" (top 40)) (p34:GFn K "is_window" (top 41)) (p35:GFn K "windows" (top 42)) (p36:GFn K "_law_cell" (top 44)) (p37:GFn K "_law_pick" (top 45)) (p38:GFn K "_law_tiles" (top 46)) (p39:GFn K "_law_floor" (top 47)) (p40:GFn K "_law_some" (top 48)) (pT:GFn K "_law_stays" (top 49))
  : ∃fd:FuncData,(∀(s:Shared) (v:Value),BindsTo s fd ⟨[v],[]⟩ [("_law_script",v)])/\∀base:Heap,K.In base->base.Ns mainGlobals mg->znM mg base->(∀q∈[(cdA0,Pt0)],PySem.W.CodeHd base q.1 q.2)->FnOk l.prog w K mg base (CXE l.prog w) 44 fa fd ["_law_script"] (S2.zh3 K [(cdA0,Pt0)]):=by
 have e:=hfa.symm.trans (ybr X G a41);cases e;have CLAlbum:Cls K yAlbum:=⟨pgAlbum,hdAlbum,poAlbum,saAlbum⟩;refine ⟨PySem.W.fnOf "law" "law" (zbk (top 50)) (zaM (top 50)) (zad (top 50)) .none kV41 dc41 pm41 an41 (.ref cdA0) ct41,fun s v=>.of_eq rfl,fun base _ _ hB hCd=>?_⟩
 let cl:Cf:=⟨fun x=>(([("FloorError",e0),("Unlike",e1),("NoName",e2),("Album",yAlbum)]:List (Str×Addr)).lookup x).getD 0,K,l.prog,w,fun a=>if a=Pt0 then some ((("law":Str) ++ ".<locals>.") ++ "<lambda>") else none⟩
 obtain ⟨fT,aT,_,_,_,_,_,_,_,_,_,lT,cT,kT,_⟩:=pT;have g0:GOk cl (Gn T F0) cl.P cl.wo cl.K mg base 0:=zyt (cl:=cl) (zbj ⟨.int 8,_,ybr X G gl1,⟨_,rfl⟩,fun _=>.int _⟩ (zbj ⟨.int 16,_,ybr X G gl2,⟨_,rfl⟩,fun _=>.int _⟩ (zbj ⟨.int 6,_,ybr X G gl3,⟨_,rfl⟩,fun _=>.int _⟩ (zbj ⟨.int 6,_,ybr X G gl4,⟨_,rfl⟩,fun _=>.int _⟩ zfj)))) (fun x h=>PySem.W.mg_none_of X G (zz x h)) (zbj ⟨ybr X G n0.n,n0.x⟩ (zbj ⟨ybr X G n1.n,n1.x⟩ (zbj ⟨ybr X G n2.n,n2.x⟩ zfj))) (zbj ⟨⟨_,_,n2.x⟩,_,_,_,_,lk2,mr2⟩ (zbj ⟨⟨_,_,n1.x⟩,_,_,_,_,lk1,mr1⟩ zfj)) zfj (zbj ⟨CLAlbum,naAlbumtiles⟩ (zbj ⟨CLAlbum,naAlbumnamed⟩ (zbj ⟨CLAlbum,naAlbumdone⟩ (zbj ⟨CLAlbum,naAlbumundone⟩ zfj))));have g1:=ag g0 X G p1 1 ["thing"] false zaS zcb (fun _ _ _ _ _ _=>bb1 fun _=>rfl) (by kernel_rfl) rfl (by rfl);have g2:=ag g1 X G p2 3 ["thing","least","most"] false zah zaU (fun _ _ _ _ _ _=>bb3 fun _ _ _=>rfl) (by kernel_rfl) rfl (by rfl);have g3:=ag g2 X G p3 1 ["thing"] false zce zdk (fun _ _ _ _ _ _=>bb1 fun _=>rfl) (by kernel_rfl) rfl (by rfl);have g4:=ag g3 X G p4 1 ["thing"] false zcB zeH (fun _ _ _ _ _ _=>bb1 fun _=>rfl) (by kernel_rfl) rfl (by rfl);have g5:=ag g4 X G p5 1 ["thing"] false zdt zfT (fun _ _ _ _ _ _=>bb1 fun _=>rfl) (by kernel_rfl) rfl (by rfl);have g6:=ag g5 X G p6 2 ["tiles","thing"] false zaP zbz (fun _ _ _ _ _ _=>bb2 fun _ _=>rfl) (by kernel_rfl) rfl (by rfl);have g7:=ag g6 X G p7 2 ["tiles","thing"] false zb8 zdC (fun _ _ _ _ _ _=>bb2 fun _ _=>rfl) (by kernel_rfl) rfl (by rfl);have g8:=ag g7 X G p8 2 ["tiles","thing"] false zcT zeh (fun _ _ _ _ _ _=>bb2 fun _ _=>rfl) (by kernel_rfl) rfl (by rfl);have g9:=ag g8 X G p9 2 ["tiles","thing"] false zbc zcc (fun _ _ _ _ _ _=>bb2 fun _ _=>rfl) (by kernel_rfl) rfl (by rfl);have g10:=ag g9 X G p10 1 ["floor","columns"] false zcA zeG (fun _ _ _ _ _ _=>bb1 fun _=>rfl) (by kernel_rfl) rfl (by rfl);have g11:=ag g10 X G p11 1 ["floor","size","places","row","column"] true zbN zdh (fun _ _ _ _ _ _=>bb1 fun _=>rfl) (by kernel_rfl) rfl (by rfl);have g12:=ag g11 X G p12 2 ["row","thing"] false zbf zcj (fun _ _ _ _ _ _=>bb2 fun _ _=>rfl) (by kernel_rfl) rfl (by rfl);have g13:=ag g12 X G p13 2 ["floor","thing"] false zcC zdD (fun _ _ _ _ _ _=>bb2 fun _ _=>rfl) (by kernel_rfl) rfl (by rfl);have g14:=ag g13 X G p14 2 ["floor","place"] false zax zdi (fun _ _ _ _ _ _=>bb2 fun _ _=>rfl) (by kernel_rfl) rfl (by rfl);have g15:=ag g14 X G p15 1 ["floor"] true zbe zch (fun _ _ _ _ _ _=>bb1 fun _=>rfl) (by kernel_rfl) rfl (by rfl);have g16:=ag g15 X G p16 1 ["floor"] true zbb zcH (fun _ _ _ _ _ _=>bb1 fun _=>rfl) (by kernel_rfl) rfl (by rfl);have g17:=ag g16 X G p17 2 ["whole","floor"] false zbt zb2 (fun _ _ _ _ _ _=>bb2 fun _ _=>rfl) (by kernel_rfl) rfl (by rfl);have g18:=ag g17 X G p18 2 ["tiles","floor","standing"] true zds zfS (fun _ _ _ _ _ _=>bb2 fun _ _=>rfl) (by kernel_rfl) rfl (by rfl);have g19:=ag g18 X G p19 3 ["things","first","many"] false zb7 zeF (fun _ _ _ _ _ _=>bb3 fun _ _ _=>rfl) (by kernel_rfl) rfl (by rfl);have g20:=ag g19 X G p20 5 ["floor","top","left","rows","columns"] false zie zlD (fun _ _ _ _ _ _=>bb5 fun _ _ _ _ _=>rfl) (by kernel_rfl) rfl (by rfl);have g21:=ag g20 X G p21 1 ["thing"] false zdu zgP (fun _ _ _ _ _ _=>bb1 fun _=>rfl) (by kernel_rfl) rfl (by rfl);have g22:=ag g21 X G p22 1 ["thing"] false za5 zbA (fun _ _ _ _ _ _=>bb1 fun _=>rfl) (by kernel_rfl) rfl (by rfl);have g23:=ak (c:="Album") g22 X G nyAlbum mkAlbum kpAlbum p23 2 ["self","tiles"] zaJ zbC (fun _ _ _ _ _ _=>bb2 fun _ _=>rfl) (by kernel_rfl) rfl (by rfl);have g24:=am (c:="Album") g23 CLAlbum p24 3 ["self","name","floor"] false zaz zaN (fun _ _ _ _ _ _=>bb3 fun _ _ _=>rfl) (by kernel_rfl) rfl (by rfl);have g25:=am (c:="Album") g24 CLAlbum p25 4 ["self","word","name","floor"] false zcU zdU (fun _ _ _ _ _ _=>bb4 fun _ _ _ _=>rfl) (by kernel_rfl) rfl (by rfl);have g26:=am (c:="Album") g25 CLAlbum p26 3 ["self","name","floor","had"] false zbP zdm (fun _ _ _ _ _ _=>bb3 fun _ _ _=>rfl) (by kernel_rfl) rfl (by rfl);have g27:=am (c:="Album") g26 CLAlbum p27 2 ["self","name"] false za6 zbB (fun _ _ _ _ _ _=>bb2 fun _ _=>rfl) (by kernel_rfl) rfl (by rfl);have g28:=am (c:="Album") g27 CLAlbum p28 1 ["self"] true zaT zcl (fun _ _ _ _ _ _=>bb1 fun _=>rfl) (by kernel_rfl) rfl (by rfl);have g29:=am (c:="Album") g28 CLAlbum p29 1 ["self"] false zbg zck (fun _ _ _ _ _ _=>bb1 fun _=>rfl) (by kernel_rfl) rfl (by rfl);have g30:=ag g29 X G p30 1 ["things"] true zcD zeI (fun _ _ _ _ _ _=>bb1 fun _=>rfl) (by kernel_rfl) rfl (by rfl);have g31:=ag g30 X G p31 1 ["floor"] true zer zhB (fun _ _ _ _ _ _=>bb1 fun _=>rfl) (by kernel_rfl) rfl (by rfl);have g32:=ag g31 X G p32 2 ["tiles","floor","colours","number"] true zbu zcI (fun _ _ _ _ _ _=>bb2 fun _ _=>rfl) (by kernel_rfl) rfl (by rfl);have g33:=ag g32 X G p33 1 ["floor","found","first","second"] true zbO zdj (fun _ _ _ _ _ _=>bb1 fun _=>rfl) (by kernel_rfl) rfl (by rfl);have g34:=ag g33 X G p34 3 ["floor","piece","place","size","seen"] false zbo zci (fun _ _ _ _ _ _=>bb3 fun _ _ _=>rfl) (by kernel_rfl) rfl (by rfl);have g35:=ag g34 X G p35 2 ["floor","piece"] true zcz zeE (fun _ _ _ _ _ _=>bb2 fun _ _=>rfl) (by kernel_rfl) rfl (by rfl);have g36:=ag g35 X G p36 2 ["_law_script","_law_k"] false zbp zbT (fun _ _ _ _ _ _=>bb2 fun _ _=>rfl) (by kernel_rfl) rfl (by rfl);have g37:=ag g36 X G p37 3 ["_law_script","_law_k","_law_many","_law_drawn"] false zas zdl (fun _ _ _ _ _ _=>bb3 fun _ _ _=>rfl) (by kernel_rfl) rfl (by rfl);have g38:=ag g37 X G p38 3 ["_law_script","_law_at","_law_most","_law_colours","_law_made","_law_k","_law_tile"] false zbU zcJ (fun _ _ _ _ _ _=>bb3 fun _ _ _=>rfl) (by kernel_rfl) rfl (by rfl);have g39:=ag g38 X G p39 6 ["_law_script","_law_at","_law_tiles_here","_law_rows","_law_columns","_law_many","_law_made","_law_row","_law_line","_law_column","_law_here"] false zbv zcK (fun _ _ _ _ _ _=>bb6 fun _ _ _ _ _ _=>rfl) (by kernel_rfl) rfl (by rfl);have g40:=ag g39 X G p40 3 ["_law_script","_law_at","_law_tiles_here","_law_rows","_law_columns"] false zaQ zbS (fun _ _ _ _ _ _=>bb3 fun _ _ _=>rfl) (by kernel_rfl) rfl (by rfl);have gL41:=g40.lamUp (cd:=cdA0) (Pt:=Pt0) (q:=(("law":Str) ++ ".<locals>.")) rfl (tF (cl:=cl) lT cT kT (by rfl) (by rfl)) rfl rfl rfl (ybr X G aT) kT hB (hCd (cdA0,Pt0) (.head _)) (if_pos rfl);have G41:=ztj (cl:=cl) (wo:=w) (P:=l.prog) (N:=["_law_script","_law_good","_law_album","_law_floor_here","_law_tiles_here"]) (own:=false) (fs:=zqA) l41 c41 (zgm (n:=1) (by kernel_rfl)).1 gL41 rfl rfl rfl (by rfl);exact G41.imp (zp9 (cl:=cl) (tabs:=[(cdA0,Pt0)]) (fun P q h=>by have hh:(if P=Pt0 then some ((("law":Str) ++ ".<locals>.") ++ "<lambda>") else none)=some q:=h;split at hh;(· rename_i e;rw [e];exact .head _);(· cases hh)) zm3)
def walk{l:PySem.W.OpenLaw}{q:Program}{loose:List Str}{XP:(Str->Option Value)->Heap->Prop}{YP:PySem.World->Heap->Prop}{d:DefRec}{K:Params->PySem.W.Frag}{cdA0 Pt0:Addr}(hn:l.most=some 63)(hdf:d.params.defaults=[])
  (hY:∀(w:PySem.World) (h:Heap),YP w h->(K w.params).In h) (hnt:∀w:PySem.World,PySem.W.noTabs (K w.params)=true)
  (hT:∀(w:PySem.World) (mg mb:Z6) (mean:ExcName->Option Value) (h:Heap),(K w.params).In h->PyProof.Rows.Top q (PySem.W.looseW q loose) mean mg mb h->PySem.W.TabsAt [(cdA0,Pt0)] h)
  (F:∀(w:PySem.World) (mg:Z6) (fa:Addr) (h:Heap),(K w.params).In h->h.Ns mainGlobals mg->mg d.name=some (.ref fa) →
   ∃fd:FuncData,(∀(s:Shared) (u:Value),BindsTo s fd ⟨[u],[]⟩ [("_law_script",u)])/\∀base:Heap,(K w.params).In base->base.Ns mainGlobals mg->znM mg base->(∀q∈[(cdA0,Pt0)],PySem.W.CodeHd base q.1 q.2)->FnOk l.prog w (K w.params) mg base (CXE l.prog w) 44 fa fd ["_law_script"] (S2.zh3 (K w.params) [(cdA0,Pt0)])) :
  PySem.W.WalkO q loose XP YP l.row.toRowW d [] (fun f vs=>PySem.call f vs) :=
 L2.zmc (n:=63) (k:=44) (x:="_law_script") (tabs:=[(cdA0,Pt0)]) (CX:=fun w=>CXE l.prog w) (sp:=fun w=>S2.zh3 (K w.params) [(cdA0,Pt0)]) hn (by decide) hdf ⟨rfl,by decide,by decide⟩ hY hnt hT F (fun _ _ a ns hl hO hTb hne hS=>⟨a,ns,rfl,hl,hO,hTb,hne,hS,fun _=>rfl⟩) (by rintro _ _ _ _ _ ⟨_,_,_,_,_,_,_,_,_,_,_,_,_,_,z⟩;exact z)
end M96
namespace PySem.W.Fast
noncomputable def tw14275464837125902168:=0
noncomputable def tw10354095574152125364:=0
noncomputable def tw9627143835847066654:=0
noncomputable def tw12162961848395003312:=0
noncomputable def tw23498481546262777:=0
noncomputable def tw7837802274031033274:=0
noncomputable def tw5515312852086011209:=0
noncomputable def tw13698746997234366237:=0
noncomputable def tw6776065917035934226:=0
noncomputable def tw7426884794461482864:=0
noncomputable def tw1444169280764762919:=0
noncomputable def tw4957303237121173267:=0
noncomputable def tw13303605227873838452:=0
noncomputable def tw14120374359605833325:=0
noncomputable def tw12722122663612175398:=0
noncomputable def tw16817338424319136565:=0
noncomputable def tw15836194286211951173:=0
noncomputable def tw15274099109337244948:=0
noncomputable def tw9008741988263794182:=0
noncomputable def tw12471639449481928528:=0
noncomputable def tw18103146948107948337:=0
noncomputable def tw7660203003131719172:=0
noncomputable def tw8409948630286279937:=0
noncomputable def tw16322232083588206407:=0
noncomputable def tw17720914725654512283:=0
noncomputable def tw9759606570317952200:=0
noncomputable def tw15191226104116784536:=0
noncomputable def tw15941991661500028854:=0
noncomputable def tw12850478741507026848:=0
noncomputable def tw3742898486548549277:=0
noncomputable def tw15876547268422193061:=0
noncomputable def tw15660181400957976842:=0
noncomputable def tw7508819687100661672:=0
noncomputable def tw15818651841345311448:=0
noncomputable def tw17324886858661830325:=0
noncomputable def tw15703655945026461556:=0
noncomputable def tw14265221677435396352:=0
noncomputable def tw905031888554351044:=0
noncomputable def tw18417524557696063930:=0
noncomputable def tw16678574316131521266:=0
noncomputable def tw15444897214841906747:=0
noncomputable def tw14629690274070357652:=0
noncomputable def tw12460435324715482891:=0
noncomputable def tw9643090000489817656:=0
noncomputable def tw2514108846669021938:=0
noncomputable def tw18065360298888332088:=0
noncomputable def tw3035987013949632657:=0
noncomputable def tw1402747888921085842:=0
noncomputable def tw3757263139626998531:=0
noncomputable def tw5388181710983942346:=0
noncomputable def tw5363806773793241384:=0
noncomputable def tw9334394513176329964:=0
noncomputable def tw6551086017579615336:=0
noncomputable def tw3167005846992776721:=0
noncomputable def tw9985797693503423726:=0
noncomputable def tw1535591578752468727:=0
noncomputable def tw10507058225326390175:=0
noncomputable def tw17568393269911555498:=0
noncomputable def tw12113865255677221418:=0
noncomputable def tw15908869892051539066:=0
noncomputable def tw15074138082448564073:=0
noncomputable def tw3402182579991228966:=0
noncomputable def tw9875900540104049193:=0
noncomputable def tw15388960968101480066:=0
noncomputable def tw7577943309246504295:=0
noncomputable def tw1517096043228762003:=0
noncomputable def tw3121988190854501867:=0
noncomputable def tw4589108642531872666:=0
noncomputable def tw7739449754513461209:=0
noncomputable def tw7907800392442159157:=0
noncomputable def tw7512598752499493604:=0
noncomputable def tw247953030118399049:=0
noncomputable def tw12007190739795428265:=0
noncomputable def tw939324904922637448:=0
noncomputable def tw4147372045803803109:=0
noncomputable def tw7252055748787944185:=0
noncomputable def tw17530536849399066338:=0
noncomputable def tw15707878366992779823:=0
noncomputable def tw13837003692083251037:=0
noncomputable def tw9317010671236901680:=0
noncomputable def tw3579065627935912704:=0
noncomputable def tw6547090420912526864:=0
noncomputable def tw3297711111308541859:=0
noncomputable def tw8501759750833153412:=0
noncomputable def tw7522846945609830465:=0
noncomputable def tw3514515129290645542:=0
noncomputable def tw1158722571049384226:=0
noncomputable def tw421652164485925779:=0
noncomputable def tw14476709540103269836:=0
noncomputable def tw12134129938110095825:=0
noncomputable def tw5870334055101223360:=0
noncomputable def tw11979559033044617033:=0
noncomputable def tw10964502113581203349:=0
noncomputable def tw13080305164717215844:=0
noncomputable def tw18145030704100629620:=0
noncomputable def tw1232113553698051945:=0
noncomputable def tw10454888996811946887:=0
noncomputable def tw10972169782727694343:=0
noncomputable def tw6506956482828622871:=0
noncomputable def tw16746117922364096000:=0
noncomputable def tw14841871225454976341:=0
noncomputable def tw4441286105581105311:=0
noncomputable def tw16895200909810167185:=0
noncomputable def tw12405036182813451511:=0
noncomputable def tw11779620064678067607:=0
noncomputable def tw11461956367616443549:=0
noncomputable def tw8956989679170700344:=0
noncomputable def tw644308004518708701:=0
noncomputable def tw12447567045790144258:=0
noncomputable def tw18301028076743300979:=0
noncomputable def tw14767864042740319700:=0
noncomputable def tw6675254302741833354:=0
noncomputable def tw9756210976709962951:=0
noncomputable def tw15212879512066525836:=0
noncomputable def tw5285619831697008809:=0
noncomputable def tw5253955960990740662:=0
noncomputable def tw3884197434325670710:=0
noncomputable def tw9321781386970323973:=0
noncomputable def tw13883154012038145519:=0
noncomputable def tw12914351182190656150:=0
noncomputable def tw17971054625255460323:=0
noncomputable def tw17531932054801203156:=0
noncomputable def tw6881459772892337653:=0
noncomputable def tw11497215621552627150:=0
noncomputable def tw3702500888050734207:=0
noncomputable def tw8689660904473856594:=0
noncomputable def tw17846006531177574515:=0
noncomputable def tw11192822230438253540:=0
noncomputable def tw14578377533053632081:=0
noncomputable def tw17484848267191580909:=0
noncomputable def tw12986246995616008393:=0
noncomputable def tw4776214145476023343:=0
noncomputable def tw16566206401738137660:=0
noncomputable def tw11691563299153031355:=0
noncomputable def tw6584448443708605873:=0
noncomputable def tw3998248808884881473:=0
noncomputable def tw16112781444093206005:=0
noncomputable def tw8959217650465205913:=0
noncomputable def tw5735747141572114911:=0
noncomputable def tw7898211807749162896:=0
noncomputable def tw16353552533808659423:=0
noncomputable def tw2440225285778396485:=0
noncomputable def tw4849411938599800904:=0
noncomputable def tw7780448157902363023:=0
noncomputable def tw7688163991592515468:=0
noncomputable def tw14647761642460268002:=0
noncomputable def tw18414415676679493759:=0
noncomputable def tw1087208668106099713:=0
noncomputable def tw6917641423700760936:=0
noncomputable def tw17327038618950332681:=0
noncomputable def tw6445902499476702528:=0
noncomputable def tw3942273774022724130:=0
noncomputable def tw3750502082301446470:=0
noncomputable def tw2590247887437746298:=0
noncomputable def tw2409993515896396416:=0
noncomputable def tw11633730641472337034:=0
noncomputable def tw4282078884840713728:=0
noncomputable def tw2913534765417817900:=0
noncomputable def tw1252045933582789923:=0
noncomputable def tw4963006553218100119:=0
noncomputable def tw10456372274995559912:=0
noncomputable def tw15226768528480861073:=0
noncomputable def tw18300196778990531457:=0
noncomputable def tw10880006082045876871:=0
noncomputable def tw17781837495977236732:=0
noncomputable def tw13798414530441003849:=0
noncomputable def tw6595775575488383119:=0
noncomputable def tw4695438739638701112:=0
noncomputable def tw4399744414221993465:=0
noncomputable def tw15169715796385355174:=0
noncomputable def tw9140011980339501498:=0
noncomputable def tw6823119034998076071:=0
noncomputable def tw7725677035140637408:=0
noncomputable def tw5361582668448149641:=0
noncomputable def tw13927910754888289224:=0
noncomputable def tw12785026657955185208:=0
noncomputable def tw16124952508874115745:=0
noncomputable def tw17990629358001072428:=0
noncomputable def tw13974500687791579925:=0
noncomputable def tw11786159411167837390:=0
noncomputable def tw7496120955704683088:=0
noncomputable def tw4757467828993461256:=0
noncomputable def tw9148431147794167933:=0
noncomputable def tw3762210413974394037:=0
noncomputable def tw15662113753177904155:=0
noncomputable def tw3934789896090479465:=0
noncomputable def tw1563534729117232796:=0
noncomputable def tw2582951063235597001:=0
noncomputable def tw2352791133917090296:=0
noncomputable def tw2145319192885877927:=0
noncomputable def tw7853218851132811278:=0
noncomputable def tw17254576273077865630:=0
noncomputable def tw6034266512023171171:=0
noncomputable def tw4774864111037363684:=0
noncomputable def tw13509061753988031398:=0
noncomputable def tw15004452628696302041:=0
noncomputable def tw4127331621725020548:=0
noncomputable def tw14914601701096100322:=0
noncomputable def tw10101267238307612582:=0
noncomputable def tw7355785545689610495:=0
noncomputable def tw9795872033046326326:=0
noncomputable def tw477921192203582747:=0
noncomputable def tw4460079364834051452:=0
noncomputable def tw5319351452844728160:=0
noncomputable def tw243810936679983039:=0
noncomputable def tw16448637416983304986:=0
noncomputable def tw3572000914998713928:=0
noncomputable def tw13456844227575957570:=0
noncomputable def tw11842522221906587795:=0
noncomputable def tw12153063891222119369:=0
noncomputable def tw1499274981104046612:=0
noncomputable def tw4515288633934397094:=0
noncomputable def tw917682460249401678:=0
noncomputable def tw15856803373935291193:=0
noncomputable def tw9762749451990368004:=0
noncomputable def tw61374819114041505:=0
noncomputable def tw177283522038540732:=0
noncomputable def tw14836722635859762425:=0
noncomputable def tw7037440134174296133:=0
noncomputable def tw14970364617634132374:=0
noncomputable def tw6948793529689858091:=0
noncomputable def tw5644998367415656305:=0
noncomputable def tw1946722989193521712:=0
noncomputable def tw13424008444350264501:=0
noncomputable def tw16012736280900923276:=0
noncomputable def tw3339654447403194089:=0
noncomputable def tw7182024652565905739:=0
noncomputable def tw5597785012586574268:=0
noncomputable def tw3461171656312985898:=0
noncomputable def tw16518007543022599074:=0
noncomputable def tw1126877040525965410:=0
noncomputable def tw9628740362150956365:=0
noncomputable def tw18287086777073735320:=0
noncomputable def tw16589948840593828910:=0
noncomputable def tw4321087783021701742:=0
noncomputable def tw1433740374149223755:=0
noncomputable def tw5947931324102535445:=0
noncomputable def tw12646849388766870062:=0
noncomputable def tw620052393012143151:=0
noncomputable def tw1250328674017035889:=0
noncomputable def tw8740136142472855616:=0
noncomputable def tw4552071496106292784:=0
noncomputable def tw2549941901639662900:=0
noncomputable def tw9003129563100434625:=0
noncomputable def tw4882831695227434524:=0
noncomputable def tw15390358715778577238:=0
noncomputable def tw2945272971331375896:=0
noncomputable def tw7920858519221258409:=0
noncomputable def tw15329470376961618373:=0
noncomputable def tw435958073006818924:=0
noncomputable def tw17976798063501323423:=0
noncomputable def tw15564708610110850285:=0
noncomputable def tw9800255453891728889:=0
noncomputable def tw14448417122401622937:=0
noncomputable def tw3448188869879361304:=0
noncomputable def tw3364774091125816636:=0
noncomputable def tw17629623594593516975:=0
noncomputable def tw2706390347919697513:=0
noncomputable def tw17593447762537728542:=0
noncomputable def tw1601011462806361955:=0
noncomputable def tw6988600500403344200:=0
noncomputable def tw5244906221109853871:=0
noncomputable def tw15682451516117975299:=0
noncomputable def tw13415758278772218735:=0
noncomputable def tw4057833127850831538:=0
noncomputable def tw12341799069200963000:=0
noncomputable def tw5143604764004474583:=0
noncomputable def tw5116672888966538299:=0
noncomputable def tw18364660091921046794:=0
noncomputable def tw13887071684578491503:=0
noncomputable def tw9809472938368218185:=0
noncomputable def tw16346887529678390299:=0
noncomputable def tw2514300795777314479:=0
noncomputable def tw5027194427855562164:=0
noncomputable def tw3713272639512143998:=0
noncomputable def tw2319798407039634736:=0
noncomputable def tw17174306619143650839:=0
noncomputable def tw14541644812621546962:=0
noncomputable def tw7941334822107044043:=0
noncomputable def tw9629253771610355739:=0
noncomputable def tw9580097235896275027:=0
noncomputable def tw8708342903183333825:=0
noncomputable def tw5847933849380177642:=0
noncomputable def tw5192250125799649667:=0
noncomputable def tw4937559253636829131:=0
noncomputable def tw3809265627321797337:=0
noncomputable def tw2699400185075519606:=0
noncomputable def tw18337846224100175022:=0
noncomputable def tw12056158041013341202:=0
noncomputable def tw14431823567846240224:=0
noncomputable def tw9023889573398807442:=0
noncomputable def tw6630114896390643056:=0
noncomputable def tw5722052195452278577:=0
noncomputable def tw17458203066569837871:=0
noncomputable def tw14284445379318585736:=0
noncomputable def tw13670872488665351478:=0
noncomputable def tw9501779625926271557:=0
noncomputable def tw2062301547765135765:=0
noncomputable def tw15150644984105982936:=0
noncomputable def tw1096738440105616794:=0
noncomputable def tw13637463763513382964:=0
noncomputable def tw6412607666889852513:=0
noncomputable def tw11246937800572173551:=0
noncomputable def tw635397684860302091:=0
noncomputable def tw2830285604118450242:=0
noncomputable def tw1273450871007325084:=0
noncomputable def tw12608056965547462692:=0
noncomputable def tw9989221175747162012:=0
noncomputable def tw9679516217499620928:=0
noncomputable def tw9568739963587699381:=0
noncomputable def tw9185235445449959754:=0
noncomputable def tw9057811455715095602:=0
noncomputable def tw8789519977995088457:=0
noncomputable def tw861599048108759423:=0
noncomputable def tw8561688495547355892:=0
noncomputable def tw8085513136602550573:=0
noncomputable def tw8023575429407784489:=0
noncomputable def tw7986613315646945847:=0
noncomputable def tw7966284032556030908:=0
noncomputable def tw7800825376070498232:=0
noncomputable def tw7404639871936491908:=0
noncomputable def tw7116622490266479546:=0
noncomputable def tw7023084796543370891:=0
noncomputable def tw6712416577970835152:=0
noncomputable def tw6442118545768085777:=0
noncomputable def tw627742338844427860:=0
noncomputable def tw6228139181340766735:=0
noncomputable def tw6222414342079148054:=0
noncomputable def tw6196788899658745319:=0
noncomputable def tw6174225108768900068:=0
noncomputable def tw6153805580293899454:=0
noncomputable def tw5732916852658281424:=0
noncomputable def tw5444827646493398301:=0
noncomputable def tw5421498342558273729:=0
noncomputable def tw5392102424537460392:=0
noncomputable def tw5253058640647681163:=0
noncomputable def tw4935858103379746232:=0
noncomputable def tw483120692811099617:=0
noncomputable def tw4147988545545706180:=0
noncomputable def tw3389451770197049344:=0
noncomputable def tw3271252089018861805:=0
noncomputable def tw3100640411597364278:=0
noncomputable def tw310035574787026463:=0
noncomputable def tw2962753292754650394:=0
noncomputable def tw2709318288940511560:=0
noncomputable def tw2681207305809129155:=0
noncomputable def tw2576734142324803759:=0
noncomputable def tw2551362444849603336:=0
noncomputable def tw2343697597401641312:=0
noncomputable def tw2255132947582351780:=0
noncomputable def tw2213241721002320045:=0
noncomputable def tw2196240481448256414:=0
noncomputable def tw1960529737815986520:=0
noncomputable def tw18051694210004526458:=0
noncomputable def tw17999476869255771947:=0
noncomputable def tw17944424866071070142:=0
noncomputable def tw17859400439356874663:=0
noncomputable def tw17720413648375247565:=0
noncomputable def tw17691661596235375184:=0
noncomputable def tw17683658507831353973:=0
noncomputable def tw17585101029690973013:=0
noncomputable def tw17562687101032245504:=0
noncomputable def tw17349902707419254593:=0
noncomputable def tw17323649217975465953:=0
noncomputable def tw17317995905446897482:=0
noncomputable def tw17264103472908650817:=0
noncomputable def tw16900446800307228931:=0
noncomputable def tw16832778902640654448:=0
noncomputable def tw16818093690059051594:=0
noncomputable def tw16709214335863871355:=0
noncomputable def tw16406984663302151089:=0
noncomputable def tw16276156721721259036:=0
noncomputable def tw16216062331556152681:=0
noncomputable def tw1616104242321316569:=0
noncomputable def tw15921523108268330806:=0
noncomputable def tw15842767884549984969:=0
noncomputable def tw15775487734212144686:=0
noncomputable def tw15723222509671338227:=0
noncomputable def tw1566552068705693780:=0
noncomputable def tw15580264443950272853:=0
noncomputable def tw15473715838595438066:=0
noncomputable def tw15250827179232638414:=0
noncomputable def tw15216880866709533298:=0
noncomputable def tw15025632572815875321:=0
noncomputable def tw14867693211799521044:=0
noncomputable def tw14767804286800963870:=0
noncomputable def tw14553950537612008002:=0
noncomputable def tw14447430114863124452:=0
noncomputable def tw14247396077017929818:=0
noncomputable def tw13908749109305241191:=0
noncomputable def tw13775504239322486999:=0
noncomputable def tw13750805884343367981:=0
noncomputable def tw13611138593177399818:=0
noncomputable def tw13544913503044585265:=0
noncomputable def tw13522763769839072257:=0
noncomputable def tw13495121550520420138:=0
noncomputable def tw13484601061069554289:=0
noncomputable def tw1347958038206976783:=0
noncomputable def tw12884784880483980756:=0
noncomputable def tw12773042525938340608:=0
noncomputable def tw1271973217712196298:=0
noncomputable def tw12513900851944115270:=0
noncomputable def tw1246377847152529527:=0
noncomputable def tw12378214110407130749:=0
noncomputable def tw12296935232178701553:=0
noncomputable def tw12204012204908613518:=0
noncomputable def tw12195325514013805227:=0
noncomputable def tw11764086999547500214:=0
noncomputable def tw11760450361935477673:=0
noncomputable def tw1174969840873456016:=0
noncomputable def tw11703730992328994859:=0
noncomputable def tw11522645891859064751:=0
noncomputable def tw11207283163254590167:=0
noncomputable def tw11175872407367953007:=0
noncomputable def tw11140915750115332076:=0
noncomputable def tw10898288547095767058:=0
noncomputable def tw10581607106768255338:=0
noncomputable def tw10427837112636582868:=0
noncomputable def tw10280633732326988046:=0
noncomputable def tw10229855312676248671:=0
noncomputable def tw10221352585112696452:=0
noncomputable def tw10213238988464608171:=0
noncomputable def tw1004594917601441997:=0
end PySem.W.Fast
open PySem PySem.W PyProof.Rows
set_option maxRecDepth 100000 in
set_option maxHeartbeats 0 in
theorem PySem.Challenge.cw_floorfits_k96_whole_told_lists_holds : PySem.Challenge.rw_floorfits_k96_whole_told_lists.Holds := by
 w_on;o_law;k_head;(case hw=>w_witness2)
 k_fill
 refine M96.walk (l:=PySem.Challenge.rw_floorfits_k96_whole_told_lists) (cdA0:=379) (Pt0:=375) rfl rfl (fun w h Y=>PySem.W.km_in_of Y) (fun w=>by kernel_rfl) (fun w mg mb mean h X T=>List.forall_mem_cons.mpr ⟨PySem.W.tab_of (x:=PySem.Str.ofString "law") (c:=379) (P:=375) T X rfl (by kernel_rfl),fun _ h=>nomatch h⟩) ?F
 case F =>
  intro w mg fa h KX G hmg;refine' M96.all_mk KX G hmg ?nyAlbum ?pgAlbum ?hdAlbum ?poAlbum ?saAlbum ?mkAlbum ?kpAlbum ?naAlbumtiles ?naAlbumnamed ?naAlbumdone ?naAlbumundone ?a41 ?l41 ?c41 ?k41 ?zz ?gl1 ?gl2 ?gl3 ?gl4 ?n0 ?n1 ?n2 ?lk1 ?mr1 ?lk2 ?mr2 ?_ ?_ ?_ ?_ ?_ ?_ ?_ ?_ ?_ ?_ ?_ ?_ ?_ ?_ ?_ ?_ ?_ ?_ ?_ ?_ ?_ ?_ ?_ ?_ ?_ ?_ ?_ ?_ ?_ ?_ ?_ ?_ ?_ ?_ ?_ ?_ ?_ ?_ ?_ ?_ ?_
  case nyAlbum | pgAlbum | hdAlbum | poAlbum | saAlbum | mkAlbum | kpAlbum | naAlbumtiles | naAlbumnamed | naAlbumdone | naAlbumundone | a41 | l41 | c41 | k41 =>
   k_is
  case zz =>
   repeat refine S2.zbj (by k_is) ?_
   exact S2.zfj
  case gl1 | gl2 | gl3 | gl4 =>
   k_is
  case n0 | n1 | n2 =>
   constructor;(k_is);(k_exc)
  case lk1 =>
   k_is
  case mr1 =>
   with_unfolding_all rfl
  case lk2 =>
   k_is
  case mr2 =>
   with_unfolding_all rfl
  all_goals ((first | refine' M96.gm ?a ?l ?c ?k ?i | refine' M96.mm ?a ?l ?c ?k ?i);(case a=>k_is);(case l=>k_is);(case c=>k_is);(case k=>k_is);(case i=>k_is))
#print axioms PySem.Challenge.cw_floorfits_k96_whole_told_lists_holds
end
