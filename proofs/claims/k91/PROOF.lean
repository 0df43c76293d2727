import PyProof.Rows.All
import Wide.All
import OpenK.AllK
import Wide.FinOn
import Lean
import PyProof.EqAt
import PyProof.EqKinds
import PyProof.TupleCall
import PyProof.StrWalks
import PyProof.FString5
import PyProof.Draws
import PyProof.EnumMake
import PyProof.TupleKey
import PySem.SetTable
import OpenK.KRaise
import OpenK.KOwn
import PyProof.Rows.TopTwo
import PyProof.RulesAs
import PyProof.RulesDel
import PyProof.ExcArgsOwn
import PyProof.ExcAttrAll.ValueError
import PyProof.Rows.CountFlat
import PyProof.SumWalk
import PyProof.Rows.SeqCalls
import KE.KEqDict
import PyProof.DictWalks
import PyProof.ZipIter
import KE.KRevIter
import PyProof.CollectIter
import PyProof.TupleOfGen
import PyProof.ListRange
import PyProof.WalkInts
import PyProof.AttrMissHeap
import KE.KDictOf
import KE.KDictSum
import PyProof.Rows.SortStr
import PySem.Challenge.RW_floorfits_k91_whole_album_twins
set_option compiler.extract_closed false
set_option bootstrap.genMatcherCode false
set_option genSizeOf false
theorem yAQ(h:True:=by rfl):True:=h
namespace yAQ
end yAQ
open yAQ renaming _auto_1→yAW
theorem yAE(h:True:=by decide):True:=h
namespace yAE
end yAE
open yAE renaming _auto_1→yAR
theorem yAT(h:True:=by intro _;rfl):True:=h
namespace yAT
end yAT
open yAT renaming _auto_1→yAU
theorem yAI(h:True:=by with_unfolding_all rfl):True:=h
namespace yAI
end yAI
open yAI renaming _auto_1→yAO
def yaj:=@of_decide_eq_true
def yaE:=@decide_eq_true
def yaG:=@decide_eq_false
def yaY:=@beq_eq_false_iff_ne
def ya5:=@decide_eq_true_eq
def ybx:=@beq_self_eq_true
def ybP:=@beq_iff_eq
def ycc:=@decide_eq_false_iff_not
def ycT:=@if_true
open Bool renaming and_eq_true→yaa,false_ne_true→yaU,not_eq_true'→ybc,false_eq_true→ybH,or_eq_true→ycB
open PySem renaming wpAny_bind→yab,wpAny_pure→yam,mem_of_lookup→yaA,wpAny_mono→yaR,wpAny_truthy_bool→yaT,wpAny_Call_Name_kw→ya0,wpAny_holding→ya9,wpAny_loadPart_at→ybd,wpAny_seqItems→ybm,codeAny_mono→ybu,wpAny_callSpecial?_slot→ybw,tupleKind_room_in1→ybE,codeAny_builtin→ybN,wpAny_setState_of→ybQ,wpAny_newFunctionEnv_cells→ybR,wpAny_call_entry→ybX,wpAny_field→ybY,wpAny_pyIter_tuple→yb3,wpAny_passesOwn→yb4,wpAny_setField_rec→yca,wpAny_newObj_type→ycg,codeAny_call_function→ycl,codeAny_call_builtin→ycu,call_meets→ycv,wpAny_execs_nil→ycx,sizeLine_eq→ycy,wpAny_pyIter_list→ycK,wpAny_call→ycO,wpAny_standAt→ycR
open List renaming getElem?_eq_getElem→yac,length_map→yad,length_cons→yaf,getElem?_eq_some_iff→yai,size_toArray→yak,length_append→yan,getElem?_map→yao,mem_cons_of_mem→yar,getElem?_append_left→yat,mem_cons→yav,mem_cons_self→yaw,mem_map→yax,getElem?_append_right→yay,map_cons→yaz,lookup_cons→yaB,getElem?_set_self→yaC,mem_singleton→yaF,mem_append_right→yaH,length_replicate→yaI,length_set→yaJ,getD_eq_getElem?_getD→yaL,getElem?_set_ne→yaO,append_nil→yaQ,mem_append→yaV,all_cons→yaX,getElem?_take_of_lt→yaZ,take_of_length_le→ya1,replicate_succ→ya3,nodup_cons→ya6,of_mem_zip→ya7,mem_of_getElem?→ya8,getElem?_replicate→yba,filterMap_cons→ybe,length_take→ybh,mem_filterMap→ybi,set_set→ybl,drop_eq_getElem_cons→ybn,reverse_cons→ybq,flatten_cons→ybr,map_append→ybt,map_map→ybv,all_eq_true→yby,isEmpty_iff→ybz,eq_nil_of_length_eq_zero→ybA,mem_range→ybB,getElem?_drop→ybG,pairwise_cons→ybI,foldl_cons→ybK,forIn_cons→ybL,find?_cons→ybM,filter_cons→ybW,contains_cons→yb9,append_assoc→ych,length_range→yci,nodup_append→ycj,getElem?_toArray→ycq,mem_iff_getElem?→ycr,not_mem_nil→ycs,mem_append_left→yct,mem_filter→ycw,range_succ→ycC,length_reverse→ycD,mem_map_of_mem→ycF,ext_getElem?→ycQ,any_cons→ycS
open PySem.Heap renaming get?_push_of_some→yae,lt_size→yal,get?_push_size→yaq,size_push→yaW,get?_update_self→yco
open Nat renaming le_refl→yag,lt_of_lt_of_le→yah,ne_of_lt→yas,le_trans→yau,zero_le→yaK,lt_irrefl→yaN,ne_of_gt→yaP,le_succ→ya4,sub_self→ybk,lt_succ_of_lt→ybs,lt_succ_self→ybV,lt_of_succ_lt_succ→ycf,le_of_lt→yck,lt_of_le_of_lt→ycJ,le_of_succ_le→ycM
open Option renaming map_eq_some_iff→yap,some_ne_none→yaD,bind_eq_some_iff→ycb,isSome_some→ycI,isSome_map→ycN
open PySem.W renaming mg_of→yaM,kia_one→yaS,cellsFrom_some→ybC,callWith_K→ybF,plainGet_of→ycz,codeRec_of→ycH
open Array renaming length_toList→ya2,getElem?_eq_some_iff→ybg,getElem?_toList→ybj,getElem?_eq_getElem→ybo,mem_toList_iff→ybp
open PySem.F renaming plainAttrs_list→ybb,slot_tuple_iterator_next→ybf,called_set→ybO,excBase_ValueError→ybS,args_tuple_add_2→ybZ,slot_list_append→yb0,type_list_append→yb1,slot_list_getattribute→yb2,entry_tuple_add→yb6,slot_tuple_add→yce,slot_dict_pop→ycm,slot_dict_get→ycn,typeOf_object_class→ycp,slot_zip_next→ycE
open PySem.Calls renaming callWith_builtin→ybD,evalArgs_plain→ybT,spliced_cons→yb5,spliced_nil→ycL
open PyProof.Rows renaming callWith_type1→ybJ,assignInOrder_cons→ycG
open PySem.Around renaming under_plainId→ybU
open Int renaming emod_lt_of_pos→yb7,eq_ofNat_of_zero_le→ycd,emod_nonneg→ycA,toNat_natCast→ycP
open PyProof.Rows.F renaming plain_set_update_loop→yb8
noncomputable section
set_option Elab.async false
set_option linter.all false
set_option maxRecDepth 100000
set_option maxHeartbeats 4000000
abbrev Z1:=Nat->Nat->Option Int
abbrev Z2:=List (List Int)
abbrev Z3:=List (PySem.Addr×PySem.Obj)
abbrev Z4:=List (Option Int)
abbrev Z5:=PySem.Value->PySem.Shared->Prop
abbrev Z6:=PySem.Str->Option PySem.Value
def S2.bdI{c k:Nat}(h:c<=k)(hk:k<=1000000):-1000000<=(c:Int)/\(c:Int)<=1000000:=⟨Int.le_trans (by decide) (Int.natCast_nonneg c),Int.ofNat_le.mpr (yau h hk)⟩
def S2.bdN{c k:Nat}(h:c<=k)(hk:k<=1000000):0<=(c:Int)/\(c:Int)<=1000000:=⟨Int.natCast_nonneg c,Int.ofNat_le.mpr (yau h hk)⟩
local macro_rules | `(tactic| omega) => `(tactic| first | assumption | exact yau (by assumption) (by decide) | exact yah (by assumption) (by assumption) | exact yah (by assumption) (by decide) | exact yck (by assumption) | exact S2.bdI (by assumption) (by decide) | exact yau (by assumption) (by assumption) | omega +splitDisjunctions)
namespace L2
open PySem PySem.Spec PyProof.Rows
noncomputable abbrev Key:=Sum Int Str
noncomputable def zjv:Key->Value->Bool
 | .inl k,v=>Value.isInt k v
 | .inr x,v=>Value.isStrOf x v
noncomputable def zxj(w:World):Key->Int
 | .inl k=>hashInt k
 | .inr x=>hashStr w x
theorem zaV:∀{k:Key} {v:Value},zjv k v=true->(∃i t,k=Sum.inl i/\v=Value.int i t)\/(∃x t,k=Sum.inr x/\v=Value.str x t)
 | .inl i,v,h=>by
  obtain ⟨t,e⟩:=Value.isInt_shape (k:=i) (v:=v) h;exact .inl ⟨i,t,rfl,e⟩
 | .inr x,v,h=>by
  obtain ⟨t,e⟩:=Value.isStrOf_shape (x:=x) (v:=v) h;exact .inr ⟨x,t,rfl,e⟩
def zk3(i:Int)(t:Tok):zjv (.inl i) (.int i t)=true:=by simp [zjv,Value.isInt]
def zk2(x:Str)(t:Tok):zjv (.inr x) (.str x t)=true:=by simp [zjv,Value.isStrOf]
def zsH(a b:Int):decide ((Sum.inl a:Key)=Sum.inl b)=(a == b):=by
 by_cases e:a=b
 ·subst e;simp
 ·have h:¬ (Sum.inl a:Key)=Sum.inl b:=fun q=>e (Sum.inl.inj q)
  rw [yaG h];exact (yaY.mpr e).symm
def zsE(a b:Str):decide ((Sum.inr a:Key)=Sum.inr b)=decide (a=b):=by
 by_cases e:a=b
 ·subst e;simp
 ·have h:¬ (Sum.inr a:Key)=Sum.inr b:=fun q=>e (Sum.inr.inj q)
  rw [yaG h,yaG e]
def zsG(a:Int)(b:Str):decide ((Sum.inl a:Key)=Sum.inr b)=false:=yaG (fun q=>nomatch q)
def zsF(a:Str)(b:Int):decide ((Sum.inr a:Key)=Sum.inl b)=false:=yaG (fun q=>nomatch q)
def zaB(prog:Program)(w:World):PySem.KeyKind prog w Key where
 is:=zjv
 hash:=zxj w
 inj:=fun v a b ha hb=>by
  rcases zaV ha with ⟨i,t,rfl,rfl⟩ | ⟨x,t,rfl,rfl⟩
  ·rcases zaV hb with ⟨j,u,rfl,e⟩ | ⟨y,u,rfl,e⟩
   ·injection e with e1 _;rw [e1]
   ·exact nomatch e
  ·rcases zaV hb with ⟨j,u,rfl,e⟩ | ⟨y,u,rfl,e⟩
   ·exact nomatch e
   ·injection e with e1 _;rw [e1]
 byValue:=fun k v h=>by
  rcases zaV h with ⟨i,t,rfl,rfl⟩ | ⟨x,t,rfl,rfl⟩<;>rfl
 pyHash:=fun hv h=>by
  rcases zaV hv with ⟨i,t,rfl,rfl⟩ | ⟨x,t,rfl,rfl⟩
  ·exact wpAny_pyHash_int h
  ·exact wpAny_pyHash_str h
 eqBool:=fun hu hv h=>by
  rcases zaV hu with ⟨i,t,rfl,rfl⟩ | ⟨x,t,rfl,rfl⟩
  ·rcases zaV hv with ⟨j,u,rfl,rfl⟩ | ⟨y,u,rfl,rfl⟩
   ·rw [zsH] at h;exact wpAny_eqBool_int h
   ·rw [zsG] at h;exact SeqAt.EqAt.int_str i t y u _ _ _ _ h
  ·rcases zaV hv with ⟨j,u,rfl,rfl⟩ | ⟨y,u,rfl,rfl⟩
   ·rw [zsF] at h;exact SeqAt.EqAt.str_int x t j u _ _ _ _ h
   ·rw [zsE] at h;exact wpAny_eqBool_str h
 «strs»:=fun k x t v h=>by
  rcases zaV h with ⟨i,u,rfl,e⟩ | ⟨y,u,rfl,e⟩
  ·exact nomatch e
  ·injection e with e1 _
   subst e1
   cases v<;>rfl
def zhM(prog:Program)(w:World)(i:Int)(t:Tok):(zaB prog w).is (.inl i) (.int i t)=true:=zk3 i t
def zhL(prog:Program)(w:World)(x:Str)(t:Tok):(zaB prog w).is (.inr x) (.str x t)=true:=zk2 x t
inductive V where
 | non | bl (b:Bool) | int (i:Int) | str (x:Str) | byt (b:Array UInt8) | flt (b:UInt64) | ref (a:Addr) | ty (n:String)
 deriving DecidableEq
noncomputable def zaX:V->Value->Prop
 | .non,u=>u=Value.none
 | .bl b,u=>u=Value.bool b
 | .int i,u=>∃t,u=Value.int i t
 | .str x,u=>∃t,u=Value.str x t
 | .byt b,u=>∃t,u=Value.bytes b t
 | .flt b,u=>∃t,u=Value.float b t
 | .ref a,u=>u=Value.ref a
 | .ty n,u=>u=Value.type n
noncomputable abbrev Vals:List V->List Value->Prop:=Paired zaX
theorem Vals.length(r:Vals xs us):xs.length=us.length:=Paired.length r
theorem Vals.get:∀{xs:List V} {us:List Value} {i:Nat} {x:V},Vals xs us->xs[i]?=some x->∃u,us[i]?=some u/\zaX x u
 | _,_,_,_,.nil,e=>by simp at e
 | _,_,0,_,.cons r _,e=>by simp at e;subst e;exact ⟨_,rfl,r⟩
 | _,_,i+1,x,.cons _ t,e=>by
  obtain ⟨u,h1,h2⟩:=Vals.get (i:=i) (x:=x) t (by simpa using e);exact ⟨u,by simpa using h1,h2⟩
theorem Vals.append:∀{xs ys:List V} {us ws:List Value},Vals xs us->Vals ys ws->Vals (xs++ys) (us++ws)
 | _,_,_,_,.nil,s=>s
 | _,_,_,_,.cons r t,s=>.cons r (Vals.append t s)
noncomputable def zfA:Option V->Option Value->Prop
 | some v,some u=>zaX v u
 | none,none=>True
 | _,_=>False
noncomputable def KV{κ:Type}:List (κ×V)->List (κ×Value)->Prop:=Paired fun (p:κ×V) (q:κ×Value)=>p.1=q.1/\zaX p.2 q.2
noncomputable def kV:Key->V
 | .inl i=>.int i
 | .inr x=>.str x
inductive HO where
 | lst (xs:List V)
 | tup (xs:List V)
 | dK (kvs:List (Key×V)) | dT (kvs:List (List Key×V))
 | set (S:Int->Bool) (n:Nat)
 | ins (C dx:Addr) (fs:List (Str×V))
 | own (x:Addr)
 | xd (fs:List (Str×V))
 | met (f x:Addr)
 | rng (lo hi:Int)
 | frz (o:Obj) (u:HO)
 | tbl (ps:Array Value)
 | ext (φ:Heap->Prop)
noncomputable abbrev Hp:=Addr->Option HO
noncomputable def upd(H:Hp)(a:Addr)(o:HO):Hp:=fun b=>if b=a then some o else H b
def zap:upd H a o a=some o:=by unfold upd;rw [if_pos rfl]
def zag(h:b≠a):upd H a o b=H b:=by unfold upd;rw [if_neg h]
def zoq{H:Hp}{a:Addr}{o u:HO}:upd (upd H a o) a u=upd H a u:=by
 funext b;unfold upd;split<;>rfl
def zuD{H:Hp}{a b:Addr}{o u:HO}(h:H a=some o)(h':H b=some u)(d:o≠u):a≠b:=by
 intro e;subst e;rw [h] at h';exact d (Option.some.inj h')
def zaw{H:Hp}{a b:Addr}{o:HO}(h:H a=some o)(h':H b=none):a≠b:=by
 intro e;subst e;rw [h] at h';cases h'
noncomputable def zqI(h:Heap)(a:Addr)(items:Array Value):Prop:=∃o,h.get? a=some o/\o.cls=.type "tuple" /\ ∃n,o.data=.seq items n/\o.dict=none
theorem zqI.t{h:Heap}{a:Addr}{items:Array Value}:zqI h a items->IsTup h a items | ⟨o,e,c,n,d,_⟩=>⟨o,e,c,n,d⟩
def zqI.new(h:Heap)(items:Array Value):zqI (h.push { cls:=.type "tuple",data:=.seq items }) h.objs.size items:=⟨_,yaq _ rfl,rfl,_,rfl,rfl⟩
section
variable(P:Program)(w:World)
def zaY(H:Hp)(h:Heap)(a:Addr):HO->Prop
 | .lst xs=>xs.length<=sizeLine/\∃(its:List Value) (n:Nat),Vals xs its/\h.get? a=some { cls:=.type "list",data:=.seq its.toArray n }
 | .tup xs=>xs.length<=sizeLine/\∃its:List Value,Vals xs its/\zqI h a its.toArray
 | .dK kvs=>kvs.length<=sizeLine/\(a == sysModules)=false/\∃vs,KV kvs vs/\h.DictOf (zaB P w) a vs
 | .dT kvs=>kvs.length<=sizeLine/\(a == sysModules)=false/\∃xs:List (List Key×Addr×Value),
   Paired (fun (p:List Key×V) (q:List Key×Addr×Value)=>p.1=q.1/\H q.2.1=some (.tup (p.1.map kV))/\zaX p.2 q.2.2) kvs xs ∧
   ∃o es ep,h.get? a=some o/\o.ExactDict/\o.data=.dict es ep/\es.toList=xs.map (entryOfKey (tupleKind (zaB P w)))/\(xs.map (·.1)).Nodup
 | .set S n=>h.SetOf (intKind P w) a S n
 | .ins C dx fs=>H dx=some (.own a)/\fs.length<=1000/\dx≠a/\h.get? a=some (PySem.W.instObj C dx) ∧
   ∃mA,h.Ns1 dx mA/\(∀f,zfA (fs.lookup f) (mA f))/\PySem.Within mA (fs.map (·.1))
 | .own _=>∃o,h.get? a=some o
 | .xd fs=>∃mA,h.Ns1 a mA/\∀f,zfA (fs.lookup f) (mA f)
 | .rng lo hi=>∃t u v,h.get? a=some { cls:=.type "range",data:=.fields #[.int lo t,.int hi u,.int 1 v] }
 | .frz o u=>h.get? a=some o/\zaY H h a u
 | .tbl ps=>h.get? a=some { cls:=.none,data:=.fields ps }
 | .met f x=>h.get? a=some (PySem.W.methodObj (.ref f) (.ref x))
 | .ext φ=>φ h/\(∃o,h.get? a=some o)/\∀h1 h2:Heap,φ h1->(∀o,h1.get? a=some o->h2.get? a=some o)->φ h2
noncomputable def HOk(H:Hp)(h:Heap):Prop:=∀a o,H a=some o->zaY P w H h a o
end
section
variable{P:Program}{w:World}{H H':Hp}{h h':Heap}{a:Addr}{o:HO}
theorem zaY.lt(x:zaY P w H h a o):a<h.objs.size:=by
 cases o with
 | lst xs=>obtain ⟨_,_,_,_,e⟩:=x;exact yal e
 | tup xs=>obtain ⟨_,_,_,p⟩:=x;exact p.t.lt
 | dK kvs=>obtain ⟨_,_,_,_,o,_,_,e,_⟩:=x;exact yal e
 | dT kvs=>obtain ⟨_,_,_,_,o,_,_,e,_⟩:=x;exact yal e
 | set S n=>obtain ⟨o,_,_,_,e,_⟩:=x;exact yal e
 | ins C dx fs=>obtain ⟨_,_,_,e,_⟩:=x;exact yal e
 | own y=>obtain ⟨_,e⟩:=x;exact yal e
 | xd fs=>obtain ⟨_,⟨_,_,_,e,_⟩,_⟩:=x;exact yal e
 | rng lo hi=>obtain ⟨_,_,_,e⟩:=x;exact yal e
 | frz ob u=>obtain ⟨e,_⟩:=x;exact yal e
 | tbl ps=>exact yal (show h.get? a=some _ from x)
 | met f y=>exact yal (show h.get? a=some _ from x)
 | ext φ=>obtain ⟨_,⟨_,e⟩,_⟩:=x;exact yal e
theorem Paired.mapP{α β:Type}{F G:α->β->Prop}:∀{l₁:List α} {l₂:List β},Paired F l₁ l₂->(∀a b,F a b->G a b)->Paired G l₁ l₂
 | _,_,.nil,_=>.nil
 | _,_,.cons r t,f=>.cons (f _ _ r) (Paired.mapP t f)
def zaY.stay(x:zaY P w H h a o)(k:∀b u,(b=a\/H b=some (.own a))->h.get? b=some u->h'.get? b=some u)
  (ho:∀b,H b=some (.own a)->H' b=some (.own a)) (ht:∀b xs,H b=some (.tup xs)->H' b=some (.tup xs)):zaY P w H' h' a o:=by
 induction o with
 | lst xs=>obtain ⟨z,its,n,r,e⟩:=x;exact ⟨z,its,n,r,k _ _ (.inl rfl) e⟩
 | tup xs=>obtain ⟨z,its,r,ob,e,c⟩:=x;exact ⟨z,its,r,ob,k _ _ (.inl rfl) e,c⟩
 | dK kvs=>obtain ⟨z,y,vs,r,ob,es,ep,e,c⟩:=x;exact ⟨z,y,vs,r,ob,es,ep,k _ _ (.inl rfl) e,c⟩
 | dT kvs =>
  obtain ⟨z,y,xs,r,ob,es,ep,e,c⟩:=x;exact ⟨z,y,xs,Paired.mapP r fun p q z=>⟨z.1,ht _ _ z.2.1,z.2.2⟩,ob,es,ep,k _ _ (.inl rfl) e,c⟩
 | set S n=>obtain ⟨ob,es,ep,t,e,c⟩:=x;exact ⟨ob,es,ep,t,k _ _ (.inl rfl) e,c⟩
 | ins C dx fs =>
  obtain ⟨d,z,ne,e,mA,⟨od,es,ep,e2,c⟩,r⟩:=x;exact ⟨ho _ d,z,ne,k _ _ (.inl rfl) e,mA,⟨od,es,ep,k _ _ (.inr d) e2,c⟩,r⟩
 | own y=>obtain ⟨ob,e⟩:=x;exact ⟨ob,k _ _ (.inl rfl) e⟩
 | xd fs=>obtain ⟨mA,⟨od,es,ep,e,c⟩,r⟩:=x;exact ⟨mA,⟨od,es,ep,k _ _ (.inl rfl) e,c⟩,r⟩
 | rng lo hi=>obtain ⟨t,u,v,e⟩:=x;exact ⟨t,u,v,k _ _ (.inl rfl) e⟩
 | frz ob u ih=>obtain ⟨e,q⟩:=x;exact ⟨k _ _ (.inl rfl) e,ih q⟩
 | tbl ps =>
  have e:h.get? a=some { cls:=.none,data:=.fields ps }:=x;show h'.get? a=some { cls:=.none,data:=.fields ps };exact k a _ (.inl rfl) e
 | met f y =>
  have e:h.get? a=some (PySem.W.methodObj (.ref f) (.ref y)):=x;show h'.get? a=some (PySem.W.methodObj (.ref f) (.ref y));exact k a _ (.inl rfl) e
 | ext φ=>obtain ⟨p,⟨o,e⟩,st⟩:=x;exact ⟨st _ _ p fun o q=>k _ _ (.inl rfl) q,⟨o,k _ _ (.inl rfl) e⟩,st⟩
theorem HOk.lt(x:HOk P w H h)(e:H a=some o):a<h.objs.size:=(x a o e).lt
def HOk.fresh(x:HOk P w H h)(e:h.objs.size<=a):H a=none:=by
 cases q:H a with
 | none=>rfl
 | some u=>exact absurd (yah (x.lt q) e) (yaN _)
def HOk.kept(x:HOk P w H h)(k:∀b u,h.get? b=some u->h'.get? b=some u):HOk P w H h':=fun a o e =>
 (x a o e).stay (fun b u _ q=>k b u q) (fun _ q=>q) fun _ _ q=>q
def HOk.laid(x:HOk P w H h)(k:∀b u,h.get? b=some u->h'.get? b=some u)(hp:h.objs.size<=a)(new:zaY P w (upd H a o) h' a o):HOk P w (upd H a o) h':=fun b u e=>by
 have hn:=x.fresh hp
 by_cases hb:b=a
 ·subst hb;rw [zap] at e;cases e;exact new
 ·rw [zag hb] at e
  exact (x b u e).stay (fun c v _ q=>k c v q) (fun c q=>by rw [zag (zaw q hn)];exact q) fun c xs q=>by rw [zag (zaw q hn)];exact q
end
noncomputable def Rd(H:Hp)(a:Addr)(u:HO):Prop:=H a=some u\/∃o,H a=some (.frz o u)
def Rd.ok(r:Rd H a u)(x:HOk P w H h):zaY P w H h a u:=by
 rcases r with r | ⟨o,r⟩
 ·exact x a u r
 ·obtain ⟨_,q⟩:=x a _ r;exact q
noncomputable def Mut:Option HO->Prop
 | some (.lst _)=>True
 | some (.dK _)=>True
 | some (.dT _)=>True
 | some (.set _ _)=>True
 | some (.ins _ _ _)=>True
 | some (.ext _)=>True
 | _=>False
section
variable{P:Program}{w:World}{H:Hp}{h h':Heap}{x e:Addr}{o':HO}
def HOk.write(ok:HOk P w H h)(mu:Mut (H x))(he:e=x\/H e=some (.own x))(k:∀b u,b≠e->h.get? b=some u->h'.get? b=some u)(heo:∃u,h'.get? e=some u)
  (new:zaY P w (upd H x o') h' x o'):HOk P w (upd H x o') h':=fun b u q=>by
 have nown:∀c y,H c=some (.own y)->c≠x:=fun c y r z=>by subst z;rwa [r] at mu
 have ntup:∀c xs,H c=some (.tup xs)->c≠x:=fun c xs r z=>by subst z;rwa [r] at mu
 by_cases hb:b=x
 ·subst hb;rw [zap] at q;cases q;exact new
 ·rw [zag hb] at q
  by_cases hbe:b=e
  ·have q':H b=some (.own x):=by
    rcases he with z | z
    ·exact absurd (hbe.trans z) hb
    ·rw [hbe];exact z
   rw [q] at q';cases q';obtain ⟨v,hv⟩:=heo;exact ⟨v,by rw [hbe];exact hv⟩
  ·refine (ok b u q).stay (fun c v hc r=>k c v ?_ r) (fun c r=>by rw [zag (nown c b r)];exact r) fun c xs r=>by rw [zag (ntup c xs r)];exact r
   rcases hc with rfl | hc
   ·exact hbe
   ·rintro rfl
    rcases he with z | z
    ·exact nown c b hc z
    ·rw [hc] at z;cases z;exact hb rfl
end
structure Un(fs ex:List Addr)(H H':Hp)(h h':Heap):Prop where
 keep:∀b o,h.get? b=some o->H b=none->b ∉ fs->b ∉ ex->h'.get? b=some o
 slot:∀b o,h.get? b=some o->H b=none->b∈fs->b ∉ ex->∃sl,h'.get? b=some { o with slots:=sl }
 free:∀b o,h.get? b=some o->H b=none->b ∉ ex->H' b=none
 there:∀b o,h.get? b=some o->b ∉ ex->∃o',h'.get? b=some o'
 tups:∀b xs,H b=some (.tup xs)->H' b=some (.tup xs)
 frzs:∀b o u,H b=some (.frz o u)->H' b=some (.frz o u)
 tbls:∀b ps,H b=some (.tbl ps)->∃more,H' b=some (.tbl (ps++more))
section
variable{fs fs' ex ex':List Addr}{H H1 H2:Hp}{h h1 h2 h':Heap}{a x e:Addr}{o:HO}
def Un.any(u:Un fs ex H H1 h h1)(q:h.get? b=some ob)(n:H b=none)(hx:b ∉ ex):∃sl,h1.get? b=some { ob with slots:=sl }:=by
 by_cases hb:b∈fs
 ·exact u.slot b ob q n hb hx
 ·exact ⟨ob.slots,u.keep b ob q n hb hx⟩
def Un.kept(k:∀b u,h.get? b=some u->h'.get? b=some u):Un fs ex H H h h' :=
 ⟨fun b ob q _ _ _=>k b ob q,fun b ob q _ _ _=>⟨ob.slots,k b ob q⟩,fun _ _ _ n _=>n,fun b ob q _=>⟨ob,k b ob q⟩,fun _ _ q=>q,fun _ _ _ q=>q,fun _ ps q=>⟨#[],by rw [q];simp⟩⟩
def Un.refl:Un fs ex H H h h:=Un.kept fun _ _ q=>q
def Un.laid(k:∀b u,h.get? b=some u->h'.get? b=some u)(hp:h.objs.size<=a)(hn:H a=none):Un fs ex H (upd H a o) h h' where
 keep:=fun b u q _ _ _=>k b u q
 slot:=fun b u q _ _ _=>⟨u.slots,k b u q⟩
 free:=fun b u q n _=>by rw [zag (yas (yah (yal q) hp))];exact n
 there:=fun b u q _=>⟨u,k b u q⟩
 tups:=fun b xs q=>by rw [zag (zaw q hn)];exact q
 frzs:=fun b u xs q=>by rw [zag (zaw q hn)];exact q
 tbls:=fun b ps q=>⟨#[],by rw [zag (zaw q hn),q];simp⟩
def Un.write(mu:Mut (H x))(he:e=x\/H e=some (.own x))(k:∀b u,b≠e->h.get? b=some u->h'.get? b=some u)(heo:∃u,h'.get? e=some u):Un fs ex H (upd H x o) h h':=by
 have hx:∀b,H b=none->b≠x:=fun b n z=>by subst z;rwa [n] at mu
 have hb:∀b,H b=none->b≠e:=fun b n z=>by
  subst z
  rcases he with r | r
  ·exact hx b n r
  ·rw [n] at r;cases r
 have hm:∀b u,H b=some u->¬ Mut (some u)->b≠x:=fun b u q nm z=>by subst z;rw [q] at mu;exact nm mu
 refine ⟨fun b u q n _ _=>k b u (hb b n) q,fun b u q n _ _=>⟨u.slots,k b u (hb b n) q⟩,fun b u q n _=>by rw [zag (hx b n)];exact n,fun b u q _=>?_,
  fun b xs q=>by rw [zag (hm b _ q fun z=>z)];exact q,fun b u xs q=>by rw [zag (hm b _ q fun z=>z)];exact q,fun b ps q=>⟨#[],by rw [zag (hm b _ q fun z=>z),q];simp⟩⟩
 by_cases hbe:b=e
 ·subst hbe;exact heo
 ·exact ⟨u,k b u hbe q⟩
end
noncomputable def trk(h:Heap)(H:Hp):List Addr:=(List.range h.objs.size).filter fun a=>(H a).isSome
def zlf(h:Heap)(H:Hp):Heap:=PySem.W.hideAll h (trk h H)
def zle(h:Heap)(H:Hp):(zlf h H).objs.size=h.objs.size:=PySem.W.hideAll_size _ _
def zmZ(e:h.get? b=some o)(n:H b=none):(zlf h H).get? b=some o :=
 PySem.W.hideAll_get _ e fun hm=>by
  have q:(H b).isSome=true:=(ycw.mp hm).2;rw [n] at q;simp at q
def zpH(e:(zlf h H).get? b=some o):h.get? b=some o/\H b=none:=by
 have e':h.get? b=some o:=PySem.W.of_hideAll (trk h H) e;refine ⟨e',?_⟩
 cases q:H b with
 | none=>rfl
 | some x =>
  have hm:b∈trk h H:=ycw.mpr ⟨ybB.mpr (yal e'),by simp [q]⟩;have z:(zlf h H).get? b=none:=PySem.W.hideAll_none (trk h H) hm;rw [z] at e;cases e
noncomputable def zqE(g h:Heap)(L:Addr):List (Addr×Obj):=(List.range h.objs.size).filterMap fun a=>if a=L\/(g.get? a).isSome=true then none else (h.get? a).map fun o=>(a,o)
def zbD(g h:Heap)(L d:Addr):List (Addr×Obj):=(zqE g h L).filter fun p=>decide (p.1≠d)
structure Mod(K:PySem.W.Frag)(mg:Z6)(base:Heap):Prop where
 kin:K.In base
 glob:base.Ns mainGlobals mg
 blt:∃mb,base.Ns builtinsNs mb/\∀x:Str,x ≠ "__name__" -> mb x=bootBuiltins x
 nolimit:base.NoLimit
structure Cx where
 prog:Program
 w:World
 K:PySem.W.Frag
 mg:Str->Option Value
 base:Heap
 A:Around
 N:List Str
 s₀:Shared
 H₀:Hp
 env:Env
 outer:List Env
 stack:List Env
 ex:List Addr
 fn:Str->Bool
 calm:Bool
 pn:List (Addr×Obj)
 xe:Value->Shared->Prop
noncomputable def frs(l:List Env):List Addr:=l.filterMap (·.frame)
noncomputable abbrev Cx.fs(X:Cx):List Addr:=frs X.outer
noncomputable def Vis(sc:Scope)(x:Str):Prop:=sc.names.lookup x=some .local\/sc.names.lookup x=some .cell\/sc.names.lookup x=some .free
noncomputable def Loc(sc:Scope)(x:Str):Prop:=sc.names.lookup x=some .local\/sc.names.lookup x=some .cell
noncomputable def zx0(env:Env)(h:Heap)(m:Z6)(x:Str)(u:Value):Prop :=
 (env.kindOf x=some .local/\m x=some u)\/((env.kindOf x=some .cell\/env.kindOf x=some .free)/\∃c,env.cells.lookup x=some c/\h.IsCell c (some u))
structure Cx.Ok(X:Cx):Prop where
 mod:Mod X.K X.mg X.base
 kind:X.env.scope.kind=.function
 glob:X.env.globals=mainGlobals
 blt:X.env.builtins=builtinsNs
 above:X.s₀.heap.objs.size<=X.env.locals
 inj:∀x y c,X.env.cells.lookup x=some c->X.env.cells.lookup y=some c->x=y
 has:∀x,(X.env.kindOf x=some .cell\/X.env.kindOf x=some .free)->∃c,X.env.cells.lookup x=some c
 cab:∀x c,X.fn x=true->X.env.cells.lookup x=some c->X.s₀.heap.objs.size<=c
 hd:X.calm=true->X.A.handled=none
 frames:X.A.frames=some X.stack
 stk:X.stack=X.outer\/(X.stack=X.env::X.outer/\X.env.frame=some X.env.locals)
 exf:∀b∈X.ex,b≠X.env.locals/\∀x c,X.env.cells.lookup x=some c->c≠b
 bs:∀b o,X.base.get? b=some o->X.s₀.heap.get? b=some o/\X.H₀ b=none
 bsz:X.base.objs.size<=X.s₀.heap.objs.size
 noex:∀b o,X.base.get? b=some o->b ∉ X.ex
 exfs:∀b∈X.ex,b ∉ X.fs
 funs:X.s₀.heap.FunFrames X.base X.outer
 frf:∀b∈X.fs,X.H₀ b=none
structure Inv(X:Cx)(pins:Z3)(σ:List (Option V))(H:Hp)(s:Shared):Prop where
 ok:X.Ok
 os:s.os=X.s₀.os
 bare:AllBare s.gens
 base:Un X.fs X.ex X.H₀ H X.s₀.heap s.heap
 loc:∃m,s.heap.Ns X.env.locals m/\∀(i:Nat) (x:Str) (v:V),X.N[i]?=some x->σ[i]?=some (some v)->Vis X.env.scope x->∃u,zaX v u/\zx0 X.env s.heap m x u
 cell:∀x c,X.env.cells.lookup x=some c->∃v,s.heap.IsCell c v
 free:H X.env.locals=none
 freeC:∀x c,X.env.cells.lookup x=some c->H c=none
 pin:∀p∈X.pn++pins,s.heap.get? p.1=some p.2/\H p.1=none/\p.1≠X.env.locals/\p.1 ∉ X.fs/\∀v,p.2.data≠.cell v
 hok:HOk X.prog X.w H s.heap
 len:σ.length=X.N.length
section
variable{X:Cx}{pins:Z3}{σ:List (Option V)}{H H':Hp}{s:Shared}{h':Heap}
def Cx.Ok.nofr(ok:X.Ok)(e:X.base.get? b=some o):b ∉ X.fs:=fun hb=>by
 have:=(ok.funs.mem hb).1;rw [e] at this;cases this
theorem Inv.bs(I:Inv X pins σ H s):∀b o,X.base.get? b=some o->s.heap.get? b=some o/\H b=none:=fun b o e =>
 ⟨I.base.keep b o (I.ok.bs b o e).1 (I.ok.bs b o e).2 (I.ok.nofr e) (I.ok.noex b o e),I.base.free b o (I.ok.bs b o e).1 (I.ok.bs b o e).2 (I.ok.noex b o e)⟩
def Inv.bk(I:Inv X pins σ H s):∀b o,X.base.get? b=some o->s.heap.get? b=some o:=fun b o e=>(I.bs b o e).1
theorem Inv.mod(I:Inv X pins σ H s):Mod X.K X.mg X.base:=I.ok.mod
def Inv.kIn(I:Inv X pins σ H s):X.K.In s.heap:=I.ok.mod.kin.keeps I.bk
theorem Inv.lt(I:Inv X pins σ H s):X.env.locals<s.heap.objs.size:=let ⟨_,hn,_⟩:=I.loc;hn.lt
def Inv.sz(I:Inv X pins σ H s):X.s₀.heap.objs.size<=s.heap.objs.size:=yau I.ok.above (yck I.lt)
def Inv.nofs(I:Inv X pins σ H s)(h:s.heap.objs.size<=a):a ∉ X.fs:=fun hb=>by
 obtain ⟨_,o,ho,_⟩:=I.ok.funs.mem hb;exact absurd (yah (yal ho) (yau I.sz h)) (yaN _)
def Inv.cne(I:Inv X pins σ H s):∀x c,X.env.cells.lookup x=some c->c≠X.env.locals:=fun x c e z=>by
 obtain ⟨v,o,ho,hd⟩:=I.cell x c e;obtain ⟨m,⟨o',es,ep,ho',hd',_⟩,_⟩:=I.loc;rw [z,ho'] at ho;cases ho;rw [hd'] at hd;cases hd
theorem Inv.funs(I:Inv X pins σ H s):s.heap.FunFrames X.base X.outer:=by
 have all:∀(l:List Env),(∀b∈frs l,b∈X.fs)->X.s₀.heap.FunFrames X.base l->s.heap.FunFrames X.base l:=by
  intro l
  induction l with
  | nil=>intro _ _;trivial
  | cons env r ih =>
   intro hs hl;obtain ⟨hk,⟨L,o,hf,hn,ho,hd⟩,hr⟩:=hl;have hL:L∈X.fs:=hs L (by unfold frs;rw [ybe,hf];exact yaw);obtain ⟨sl,e⟩:=I.base.slot L o ho (I.ok.frf L hL) hL fun z=>I.ok.exfs L z hL
   exact ⟨hk,⟨L,_,hf,hn,e,hd⟩,ih (fun b hb=>hs b (by unfold frs;rw [ybe,hf];exact yar _ hb)) hr⟩
 exact all X.outer (fun _ hb=>hb) I.ok.funs
theorem Inv.stack(I:Inv X pins σ H s):s.heap.FunFrames X.base X.stack:=by
 rcases I.ok.stk with e | ⟨e,hf⟩
 ·rw [e];exact I.funs
 ·rw [e];obtain ⟨m,hn,_⟩:=I.loc;refine .cons (by rw [I.ok.kind];decide) hf hn ?_ I.funs;exact Heap.get?_none_of_le (yau I.ok.bsz I.ok.above)
def Inv.stkSub(I:Inv X pins σ H s):∀b∈frs X.stack,b∈X.env.locals::X.fs:=fun b hb=>by
 rcases I.ok.stk with e | ⟨e,hf⟩
 ·rw [e] at hb;exact yar _ hb
 ·rw [e] at hb;unfold frs at hb;rwa [ybe,hf] at hb
def Inv.stkFree(I:Inv X pins σ H s):∀b∈frs X.stack,H b=none:=fun b hb=>by
 rcases yav.mp (I.stkSub b hb) with e | hb
 ·rw [e];exact I.free
 ·obtain ⟨_,o,ho,_⟩:=I.ok.funs.mem hb;exact I.base.free b o ho (I.ok.frf b hb) fun z=>I.ok.exfs b z hb
def Inv.step{g':Array GenState}{t':Nat}{d':Drawn}{ch:List Addr}(I:Inv X pins σ H s)
  (hch:∀b∈ch,(b∈X.ex\/X.s₀.heap.objs.size<=b)/\b≠X.env.locals/\(∀x c,X.env.cells.lookup x=some c->c≠b)/\∀p∈X.pn++pins,p.1≠b)
  (keep:∀b o,b≠X.env.locals->b ∉ X.fs->b ∉ ch->s.heap.get? b=some o->H b=none->h'.get? b=some o)
  (slot:∀b o,b≠X.env.locals->b∈X.fs->b ∉ ch->s.heap.get? b=some o->H b=none->∃sl,h'.get? b=some { o with slots:=sl }) (free:∀b o,b ∉ ch->s.heap.get? b=some o->H b=none->H' b=none)
  (there:∀b o,b ∉ ch->s.heap.get? b=some o->∃o',h'.get? b=some o')
  (tups:∀b xs,H b=some (.tup xs)->H' b=some (.tup xs)) (frzs:∀b o u,H b=some (.frz o u)->H' b=some (.frz o u)) (tbls:∀b ps,H b=some (.tbl ps)->∃more,H' b=some (.tbl (ps++more)))
  (ns:∀m,s.heap.Ns X.env.locals m->h'.Ns X.env.locals m) (hok:HOk X.prog X.w H' h') (hg:AllBare g') :
  Inv X pins σ H' { s with heap:=h',gens:=g',drawn:=d',toks:=t' }:=by
 have neL:∀b o,X.s₀.heap.get? b=some o->b≠X.env.locals:=fun b o e=>yas (yah (yal e) I.ok.above)
 have neC:∀b o,X.s₀.heap.get? b=some o->b ∉ X.ex->b ∉ ch:=fun b o e hx hb=>by
  rcases (hch b hb).1 with z | z
  ·exact hx z
  ·exact absurd (yah (yal e) z) (yaN _)
 have cellK:∀x c,X.env.cells.lookup x=some c->∀v,s.heap.IsCell c v->h'.IsCell c v:=fun x c e v ⟨o,ho,hd⟩=>by
  have nch:c ∉ ch:=fun z=>(hch c z).2.2.1 x c e rfl
  by_cases hc:c∈X.fs
  ·obtain ⟨sl,q⟩:=slot c o (I.cne x c e) hc nch ho (I.freeC x c e);exact ⟨_,q,hd⟩
  ·exact ⟨o,keep c o (I.cne x c e) hc nch ho (I.freeC x c e),hd⟩
 refine ⟨I.ok,I.os,hg,⟨fun b o e n hb hx=>?_,fun b o e n hb hx=>?_,fun b o e n hx=>?_,fun b o e hx=>?_,fun b xs e=>tups b xs (I.base.tups b xs e),fun b o xs e=>frzs b o xs (I.base.frzs b o xs e),fun b ps e=>?_⟩,?_,fun x c e=>?_,?_,fun x c e=>?_,fun p hp=>?_,hok,I.len⟩
 ·exact keep b o (neL b o e) hb (neC b o e hx) (I.base.keep b o e n hb hx) (I.base.free b o e n hx)
 ·obtain ⟨sl,e1⟩:=I.base.slot b o e n hb hx;obtain ⟨sl',e2⟩:=slot b _ (neL b o e) hb (neC b o e hx) e1 (I.base.free b o e n hx);exact ⟨sl',e2⟩
 ·obtain ⟨o',e1⟩:=I.base.there b o e hx;exact free b o' (neC b o e hx) e1 (I.base.free b o e n hx)
 ·obtain ⟨o',e1⟩:=I.base.there b o e hx;exact there b o' (neC b o e hx) e1
 ·obtain ⟨m1,e1⟩:=I.base.tbls b ps e;obtain ⟨m2,e2⟩:=tbls b _ e1;exact ⟨m1++m2,by rw [e2,Array.append_assoc]⟩
 ·obtain ⟨m,hn,hl⟩:=I.loc;refine ⟨m,ns m hn,fun i x v e1 e2 e3=>?_⟩;obtain ⟨u,r,l⟩:=hl i x v e1 e2 e3;refine ⟨u,r,?_⟩
  rcases l with l | ⟨k,c,e,z⟩
  ·exact .inl l
  ·exact .inr ⟨k,c,e,cellK x c e _ z⟩
 ·obtain ⟨v,z⟩:=I.cell x c e;exact ⟨v,cellK x c e v z⟩
 ·obtain ⟨m,⟨o,_,_,ho,_⟩,_⟩:=I.loc;exact free _ o (fun z=>(hch _ z).2.1 rfl) ho I.free
 ·obtain ⟨v,o,ho,hd⟩:=I.cell x c e;exact free c o (fun z=>(hch c z).2.2.1 x c e rfl) ho (I.freeC x c e)
 ·obtain ⟨e,n,ne,nf,d⟩:=I.pin p hp;have nch:p.1 ∉ ch:=fun z=>(hch p.1 z).2.2.2 p hp rfl
  exact ⟨keep p.1 p.2 ne nf nch e n,free p.1 p.2 nch e n,ne,nf,d⟩
def Inv.un(I:Inv X pins σ H s)(u:Un X.fs [] H H' s.heap h')(hok:HOk X.prog X.w H' h'):Inv X pins σ H' { s with heap:=h',toks:=t' }:=by
 obtain ⟨m,⟨o,es,ep,ho,r⟩,_⟩:=id I.loc;obtain ⟨sl,hL⟩:=u.any ho I.free (by simp)
 exact I.step (g':=s.gens) (d':=s.drawn) (ch:=[]) (fun _ z=>nomatch z) (fun b o _ hb _ e n=>u.keep b o e n hb (by simp)) (fun b o _ hb _ e n=>u.slot b o e n hb (by simp)) (fun b o _ e n=>u.free b o e n (by simp)) (fun b o _ e=>u.there b o e (by simp)) u.tups u.frzs u.tbls (fun m' hm=>by
  obtain ⟨o',es',ep',ho',r'⟩:=hm;rw [ho] at ho';cases ho'
  exact ⟨_,es',ep',hL,r'⟩) hok I.bare
def Inv.call(I:Inv X pins σ H s)(u:Un (frs X.stack) ch H H' s.heap h')(hok:HOk X.prog X.w H' h')(hg:AllBare g')
  (hch:∀b∈ch,(b∈X.ex\/X.s₀.heap.objs.size<=b)/\b≠X.env.locals/\(∀x c,X.env.cells.lookup x=some c->c≠b)/\∀p∈X.pn++pins,p.1≠b) :
  Inv X pins σ H' { s with heap:=h',gens:=g',drawn:=d',toks:=t' }:=by
 obtain ⟨m,⟨o,es,ep,ho,r⟩,_⟩:=id I.loc;obtain ⟨sl,hL⟩:=u.any ho I.free fun z=>(hch _ z).2.1 rfl
 exact I.step (ch:=ch) hch (fun b o hL hb hc e n=>u.keep b o e n (fun z=>(yav.mp (I.stkSub b z)).elim hL hb) hc) (fun b o _ _ hc e n=>u.any e n hc) (fun b o hc e n=>u.free b o e n hc) (fun b o hc e=>u.there b o e hc) u.tups u.frzs u.tbls (fun m' hm=>by
  obtain ⟨o',es',ep',ho',r'⟩:=hm;rw [ho] at ho';cases ho'
  exact ⟨_,es',ep',hL,r'⟩) hok hg
def Inv.turned(I:Inv X pins σ H s)(k:∀b o,b≠it->s.heap.get? b=some o->h'.get? b=some o)(hn:H it=none)(hL:it≠X.env.locals)
  (h1:it∈X.ex\/X.s₀.heap.objs.size<=it) (h2:∀x c,X.env.cells.lookup x=some c->c≠it) (h3:∀p∈X.pn++pins,p.1≠it):Inv X pins σ H { s with heap:=h',toks:=t' }:=by
 have nit:∀b u,H b=some u->b≠it:=fun b u e z=>by rw [z,hn] at e;cases e
 refine I.step (g':=s.gens) (d':=s.drawn) (ch:=[it]) (fun b hb=>?_) (fun b o _ _ hc e _=>k b o (fun z=>hc (by simp [z])) e) (fun b o _ _ hc e _=>⟨o.slots,k b o (fun z=>hc (by simp [z])) e⟩) (fun _ _ _ _ n=>n)
  (fun b o hc e=>⟨o,k b o (fun z=>hc (by simp [z])) e⟩) (fun _ _ e=>e) (fun _ _ _ e=>e) (fun b ps e=>⟨#[],by rw [e];simp⟩) (fun m hm=>?_) (fun b u e=>?_) I.bare
 ·have e:b=it:=by simpa using hb
  subst e;exact ⟨h1,hL,h2,h3⟩
 ·obtain ⟨o,es,ep,ho,r⟩:=hm;exact ⟨o,es,ep,k _ o (Ne.symm hL) ho,r⟩
 ·refine (I.hok b u e).stay (fun c v hc q=>k c v ?_ q) (fun _ q=>q) fun _ _ q=>q
  rcases hc with z | z
  ·rw [z];exact nit b u e
  ·exact nit c _ z
def Inv.tok(I:Inv X pins σ H s)(t:Nat):Inv X pins σ H { s with toks:=t }:=I.un (h':=s.heap) (t':=t) Un.refl I.hok
theorem Inv.kept(I:Inv X pins σ H s)(k:∀b u,s.heap.get? b=some u->h'.get? b=some u):Inv X pins σ H { s with heap:=h',toks:=t' }:=I.un (Un.kept k) (I.hok.kept k)
theorem Inv.laid(I:Inv X pins σ H s)(k:∀b u,s.heap.get? b=some u->h'.get? b=some u)(hp:s.heap.objs.size<=a)(new:zaY X.prog X.w (upd H a o) h' a o) :
  Inv X pins σ (upd H a o) { s with heap:=h',toks:=t' }:=I.un (Un.laid k hp (I.hok.fresh hp)) (I.hok.laid k hp new)
theorem Inv.write(I:Inv X pins σ H s)(mu:Mut (H x))(he:e=x\/H e=some (.own x))(k:∀b u,b≠e->s.heap.get? b=some u->h'.get? b=some u)(heo:∃u,h'.get? e=some u)
  (new:zaY X.prog X.w (upd H x o) h' x o):Inv X pins σ (upd H x o) { s with heap:=h',toks:=t' }:=I.un (Un.write mu he k heo) (I.hok.write mu he k heo new)
def Inv.pins_of(I:Inv X pins σ H s)(h:∀p∈pins',s.heap.get? p.1=some p.2/\H p.1=none/\p.1≠X.env.locals/\p.1 ∉ X.fs/\∀v,p.2.data≠.cell v):Inv X pins' σ H s :=
 ⟨I.ok,I.os,I.bare,I.base,I.loc,I.cell,I.free,I.freeC,fun p hp=>(yaV.mp hp).elim (fun z=>I.pin p (yct _ z)) (h p),I.hok,I.len⟩
def zfN{N:List Str}(hN:N.Nodup){i j:Nat}{x:Str}(a:N[i]?=some x)(b:N[j]?=some x):i=j:=by
 obtain ⟨h1,e1⟩:=yai.mp a;obtain ⟨h2,e2⟩:=yai.mp b;exact (List.getElem_inj hN).mp (e1.trans e2.symm)
def zgo{M:Model}{A:Around}{E:Z5}{i:Nat}{x:Str}{v:V}{u:Value}{Q:Unit->Shared->Prop}(I:Inv X pins σ H s)(hN:X.N.Nodup)(hi:X.N[i]?=some x)(hx:Loc X.env.scope x)(r:zaX v u)
  (h:∀s',Inv X pins (σ.set i (some v)) H s'->(∃a,Heap.SameBut a s.heap s'.heap/\(a=X.env.locals\/X.env.cells.lookup x=some a))->Q () s') (hf:X.fn x=true\/X.env.scope.names.lookup x=some .local):wpAny M A (storeName X.env x u) Q E s:=by
 obtain ⟨m,hn,hl⟩:=id I.loc
 have hcls:(X.env.scope.kind == .class||(X.env.scope.kind == .module&&X.env.locals != X.env.globals))=false:=by rw [I.ok.kind];rfl
 have hiσ:i<σ.length:=by rw [I.len];exact (yai.mp hi).1
 have cne:=I.cne
 have tracked:∀{a:Addr} {h':Heap},(∃o,s.heap.get? a=some o/\H a=none)->Heap.SameBut a s.heap h'->HOk X.prog X.w H h':=fun {a h'} ha hs b ob e=>by
  obtain ⟨_,_,hfree⟩:=ha;refine (I.hok b ob e).stay (fun c w' hc q=>(hs.2 c ?_).trans q) (fun _ q=>q) fun _ _ q=>q
  rintro rfl
  rcases hc with rfl | hc
  ·rw [hfree] at e;cases e
  ·rw [hfree] at hc;cases hc
 rcases hx with hk | hk
 ·refine wpAny_storeName_local hk hn (fun h' hn' hs=>?_) hcls;obtain ⟨oL,_,_,hoL,_⟩:=id hn;refine h _ ⟨I.ok,I.os,I.bare,⟨fun b o e n hb hx=>?_,fun b o e n hb hx=>?_,I.base.free,fun b o e hx=>?_,I.base.tups,I.base.frzs,I.base.tbls⟩,⟨_,hn',fun j y v' e1 e2 e3=>?_⟩,fun y c e=>?_,I.free,I.freeC,fun p hp=>?_,tracked ⟨oL,hoL,I.free⟩ hs,by simpa using I.len⟩ ⟨_,hs,.inl rfl⟩
  ·exact (hs.2 b (yas (yah (yal e) I.ok.above))).trans (I.base.keep b o e n hb hx)
  ·obtain ⟨sl,e1⟩:=I.base.slot b o e n hb hx;exact ⟨sl,(hs.2 b (yas (yah (yal e) I.ok.above))).trans e1⟩
  ·obtain ⟨o',e1⟩:=I.base.there b o e hx;exact ⟨o',(hs.2 b (yas (yah (yal e) I.ok.above))).trans e1⟩
  ·by_cases hj:j=i
   ·subst hj;rw [hi] at e1;cases e1;rw [yaC hiσ] at e2;cases e2;exact ⟨u,r,.inl ⟨hk,by simp⟩⟩
   ·rw [yaO (Ne.symm hj)] at e2;obtain ⟨u',r',q⟩:=hl j y v' e1 e2 e3;refine ⟨u',r',?_⟩
    rcases q with ⟨k,e⟩ | ⟨k,c,e,z⟩
    ·refine .inl ⟨k,?_⟩;have:y≠x:=fun e=>hj (zfN hN e1 (e ▸ hi))
     simp [this,e]
    ·exact .inr ⟨k,c,e,z.sameBut hs (cne y c e)⟩
  ·obtain ⟨w',z⟩:=I.cell y c e;exact ⟨w',z.sameBut hs (cne y c e)⟩
  ·obtain ⟨e,n,ne,nf,d⟩:=I.pin p hp;exact ⟨(hs.2 p.1 ne).trans e,n,ne,nf,d⟩
 ·have hfn:X.fn x=true:=by
   rcases hf with z | z
   ·exact z
   ·rw [z] at hk;cases hk
  obtain ⟨c,hc⟩:=I.ok.has x (.inl hk);obtain ⟨w',z⟩:=I.cell x c hc;refine wpAny_storeName_cell I.ok.kind hk hc z (fun h' hc' hs=>?_);obtain ⟨oc,hoc,hocd⟩:=id z;refine h { s with heap:=h' } ⟨I.ok,I.os,I.bare,⟨fun b o e n hb hx=>?_,fun b o e n hb hx=>?_,I.base.free,fun b o e hx=>?_,I.base.tups,I.base.frzs,I.base.tbls⟩,⟨m,hn.sameBut hs (Ne.symm (cne x c hc)),fun j y v' e1 e2 e3=>?_⟩,fun y c' e=>?_,I.free,I.freeC,fun p hp=>?_,tracked ⟨oc,hoc,I.freeC x c hc⟩ hs,by simpa using I.len⟩ ⟨c,hs,.inr hc⟩
  ·exact (hs.2 b (yas (yah (yal e) (I.ok.cab x c hfn hc)))).trans (I.base.keep b o e n hb hx)
  ·obtain ⟨sl,e1⟩:=I.base.slot b o e n hb hx;exact ⟨sl,(hs.2 b (yas (yah (yal e) (I.ok.cab x c hfn hc)))).trans e1⟩
  ·obtain ⟨o',e1⟩:=I.base.there b o e hx;exact ⟨o',(hs.2 b (yas (yah (yal e) (I.ok.cab x c hfn hc)))).trans e1⟩
  ·by_cases hj:j=i
   ·subst hj;rw [hi] at e1;cases e1;rw [yaC hiσ] at e2;cases e2;exact ⟨u,r,.inr ⟨.inl hk,c,hc,hc'⟩⟩
   ·rw [yaO (Ne.symm hj)] at e2;obtain ⟨u',r',q⟩:=hl j y v' e1 e2 e3;refine ⟨u',r',?_⟩
    rcases q with q | ⟨k,c',e,z'⟩
    ·exact .inl q
    ·refine .inr ⟨k,c',e,z'.sameBut hs ?_⟩;rintro rfl;exact hj (zfN hN e1 (I.ok.inj _ _ _ e hc ▸ hi))
  ·by_cases hcc:c'=c
   ·subst hcc;exact ⟨_,hc'⟩
   ·obtain ⟨w2,z2⟩:=I.cell y c' e;exact ⟨w2,z2.sameBut hs hcc⟩
  ·obtain ⟨e,n,ne,nf,d⟩:=I.pin p hp;refine ⟨(hs.2 p.1 ?_).trans e,n,ne,nf,d⟩;intro q;rw [q,hoc] at e;have q':oc=p.2:=Option.some.inj e;exact d w' (by rw [<-q'];exact hocd)
def zdb{M:Model}{A:Around}{E:Z5}{i:Nat}{x:Str}{v:V}{u:Value}{Q:Unit->Shared->Prop}(I:Inv X pins σ H s)(hN:X.N.Nodup)(hi:X.N[i]?=some x)(hx:Loc X.env.scope x)(r:zaX v u)
  (h:∀s',Inv X pins (σ.set i (some v)) H s'->Q () s') (hf:X.fn x=true\/X.env.scope.names.lookup x=some .local):wpAny M A (storeName X.env x u) Q E s :=
 zgo I hN hi hx r (fun s' I' _=>h s' I') hf
def Inv.call'(I:Inv X pins σ H s)(ho:s'.os=s.os)(u:Un (frs X.stack) ch H H' s.heap s'.heap)(hok:HOk X.prog X.w H' s'.heap)(hg:AllBare s'.gens)
  (hch:∀b∈ch,(b∈X.ex\/X.s₀.heap.objs.size<=b)/\b≠X.env.locals/\(∀x c,X.env.cells.lookup x=some c->c≠b)/\∀p∈X.pn++pins,p.1≠b):Inv X pins σ H' s':=by
 obtain ⟨h',g',d',t',o'⟩:=s';have e:o'=s.os:=ho;subst e;exact I.call (g':=g') (t':=t') (d':=d') u hok hg hch
end
noncomputable abbrev XK:=Value->Option Addr->Hp->Prop
noncomputable abbrev St:=List (Option V)
noncomputable abbrev VK:=V->Hp->Prop
noncomputable abbrev TE:=St->Hp->VK->Prop
noncomputable abbrev TT:=St->Hp->(Bool->Hp->Prop)->Prop
noncomputable abbrev TA:=St->Hp->(List V->Hp->Prop)->Prop
structure Ends where
 nx:St->Hp->Prop
 rt:VK
 bk:St->Hp->Prop:=fun _ _=>False
 ct:St->Hp->Prop:=fun _ _=>False
noncomputable abbrev TS:=Ends->St->Hp->Prop
noncomputable def EP(X:Cx)(pins:Z3)(σ:St)(Q:VK)(u:Value)(s':Shared):Prop:=∃v H',Inv X pins σ H' s'/\zaX v u/\Q v H'
noncomputable def TP(X:Cx)(pins:Z3)(σ:St)(Q:Bool->Hp->Prop)(b:Bool)(s':Shared):Prop:=∃H',Inv X pins σ H' s'/\Q b H'
noncomputable def AP(X:Cx)(pins:Z3)(σ:St)(Q:List V->Hp->Prop)(us:List Value)(s':Shared):Prop:=∃vs H',Inv X pins σ H' s'/\Vals vs us/\Q vs H'
noncomputable def SP(X:Cx)(pins:Z3)(D:Ends)(f:Flow)(s':Shared):Prop :=
 match f with
 | .next=>∃σ' H',Inv X pins σ' H' s'/\D.nx σ' H'
 | .brk=>∃σ' H',Inv X pins σ' H' s'/\D.bk σ' H'
 | .cont=>∃σ' H',Inv X pins σ' H' s'/\D.ct σ' H'
 | .ret u=>∃v σ' H',Inv X pins σ' H' s'/\zaX v u/\D.rt v H'
noncomputable def PE(X:Cx)(e:Expr)(t:TE):Prop :=
 ∀(pins:Z3) (s:Shared) (σ:St) (H:Hp) (Q:VK),Inv X pins σ H s->t σ H Q->wpAny (model X.prog X.w) X.A (eval e X.env) (EP X pins σ Q) X.xe s
noncomputable def PT(X:Cx)(e:Expr)(t:TT):Prop :=
 ∀(pins:Z3) (s:Shared) (σ:St) (H:Hp) (Q:Bool->Hp->Prop),Inv X pins σ H s->t σ H Q->wpAny (model X.prog X.w) X.A (isTrue e X.env (eval e X.env)) (TP X pins σ Q) X.xe s
noncomputable def PW(X:Cx)(e:Expr)(t:TT):Prop :=
 ∀(whole:Sem Value) (pins:Z3) (s:Shared) (σ:St) (H:Hp) (Q:Bool->Hp->Prop),Inv X pins σ H s->t σ H Q->wpAny (model X.prog X.w) X.A (isTrue e X.env whole) (TP X pins σ Q) X.xe s
def PW.pt(h:PW X e t):PT X e t:=h _
noncomputable def PA(X:Cx)(es:List Expr)(t:TA):Prop :=
 ∀(pos:Pos) (pins:Z3) (s:Shared) (σ:St) (H:Hp) (Q:List V->Hp->Prop),Inv X pins σ H s->t σ H Q->wpAny (model X.prog X.w) X.A (spliced (backTo pos (starEach es X.env))) (AP X pins σ Q) X.xe s
noncomputable def PS(X:Cx)(st:Stmt)(t:TS):Prop :=
 ∀(pins:Z3) (s:Shared) (σ:St) (H:Hp) (D:Ends),Inv X pins σ H s->t D σ H->wpAny (model X.prog X.w) X.A (exec st X.env) (SP X pins D) X.xe s
noncomputable def PSs(X:Cx)(st:List Stmt)(t:TS):Prop :=
 ∀(pins:Z3) (s:Shared) (σ:St) (H:Hp) (D:Ends),Inv X pins σ H s->t D σ H->wpAny (model X.prog X.w) X.A (execs st X.env) (SP X pins D) X.xe s
def thn{α:Type}{t:Sem α}{Q Q':α->Shared->Prop}(h:wpAny M A t Q E s)(hQ:∀a s,Q a s->Q' a s):wpAny M A t Q' E s:=yaR h hQ fun _ _ x=>x
section
variable{X:Cx}
noncomputable def ztX(i:Nat):TE:=fun σ H Q=>∃v,σ[i]?=some (some v)/\Q v H
noncomputable def tC(v:V):TE:=fun _ H Q=>Q v H
def zaP{i:Nat}{x:Str}{pos:Pos}(hN:X.N[i]?=some x)(hv:Vis X.env.scope x)(hd:autoParam ((x == ("__debug__":Str))=false) yAR)(hcd:autoParam ((x == ("__classdict__":Str))=false) yAR):PE X (.Name x pos) (ztX i):=by
 intro pins s σ H Q I h;obtain ⟨v,e,h⟩:=h;obtain ⟨m,hn,hl⟩:=I.loc;obtain ⟨u,r,l⟩:=hl i x v hN e hv;have fin:EP X pins σ Q u s:=⟨v,H,I,r,h⟩
 rcases l with ⟨hk,hm⟩ | ⟨hk,c,hc,hcell⟩
 ·exact wpAny_Name (wpAny_loadName_local I.ok.kind hk hn hm fin) hd
 ·rcases hk with hk | hk
  ·exact wpAny_Name (wpAny_loadName_cell I.ok.kind hk hc hcell fin) hd
  ·exact wpAny_Name (wpAny_loadName_free I.ok.kind hk hc hcell fin hcd) hd
def znU{i j pos}:PE X (.Constant (.int i) j pos) (tC (.int i)):=fun _ _ _ H _ I h=>wpAny_Constant_int ⟨.int i,H,I.tok _,⟨_,rfl⟩,h⟩
def zpx{b j pos}:PE X (.Constant (.bool b) j pos) (tC (.bl b)):=fun _ _ _ H _ I h=>Constant_bool ⟨.bl b,H,I,rfl,h⟩
def znS{j pos}:PE X (.Constant .none j pos) (tC .non):=fun _ _ _ H _ I h=>Constant_none ⟨.non,H,I,rfl,h⟩
def zkI{x j pos}:PE X (.Constant (.str x) j pos) (tC (.str x)):=fun _ _ _ H _ I h=>Calls.Constant_str ⟨.str x,H,I.tok _,⟨_,rfl⟩,h⟩
noncomputable def Gl(X:Cx)(x:Str):Prop:=X.env.kindOf x=some .globalImplicit
def zcW{E:Z5}{pins:Z3}{s:Shared}{σ:St}{H:Hp}{x:Str}{u:Value}{pos:Pos}{Q:Z5}(I:Inv X pins σ H s)(hg:Gl X x)(hm:X.mg x=some u)(h:Q u s)
  (hd:autoParam ((x == ("__debug__":Str))=false) yAR):wpAny (model X.prog X.w) X.A (eval (.Name x pos) X.env) Q E s :=
 Calls.Name_function_global I.ok.kind hg (Calls.loadGlobal_global (by rw [I.ok.glob];exact I.mod.glob.keeps I.bk) hm h) hd
def zgM{E:Z5}{pins:Z3}{s:Shared}{σ:St}{H:Hp}{x:Str}{u:Value}{pos:Pos}{Q:Z5}(I:Inv X pins σ H s)(hg:Gl X x)(hm:X.mg x=none)(hv:bootBuiltins x=some u)(h:Q u s)
  (hn:autoParam (x ≠ "__name__") yAR) (hd:autoParam ((x == ("__debug__":Str))=false) yAR):wpAny (model X.prog X.w) X.A (eval (.Name x pos) X.env) Q E s:=by
 obtain ⟨mb,h1,h2⟩:=I.mod.blt;exact Calls.Name_function_global I.ok.kind hg (Calls.loadGlobal_builtin (by rw [I.ok.glob];exact I.mod.glob.keeps I.bk) hm (by rw [I.ok.blt];exact h1.keeps I.bk) ((h2 x hn).trans hv) h) hd
def zhF{x:Str}{v:V}{u:Value}{pos:Pos}(hg:Gl X x)(hm:X.mg x=some u)(r:zaX v u)(hd:autoParam ((x == ("__debug__":Str))=false) yAR):PE X (.Name x pos) (tC v) :=
 fun _ _ _ H _ I h=>zcW I hg hm ⟨v,H,I,r,h⟩ hd
def zhH{x:Str}{v:V}{u:Value}{pos:Pos}(hg:Gl X x)(hm:X.mg x=none)(hv:bootBuiltins x=some u)(r:zaX v u)(hn:autoParam (x ≠ "__name__") yAR)(hd:autoParam ((x == ("__debug__":Str))=false) yAR):PE X (.Name x pos) (tC v) :=
 fun _ _ _ H _ I h=>zgM I hg hm hv ⟨v,H,I,r,h⟩ hn hd
variable{a b:Expr}{ta tb:TE}{pos:Pos}
noncomputable def PC(X:Cx)(op:CmpOp)(a b:Expr)(t:TE):Prop :=
 ∀(pins:Z3) (s:Shared) (σ:St) (H:Hp) (Q:VK),Inv X pins σ H s->t σ H Q →
  wpAny (model X.prog X.w) X.A (eval a X.env) (fun v s₁=>wpAny (model X.prog X.w) X.A (eval b X.env) (fun u s₂=>wpAny (model X.prog X.w) X.A (compareOp op v u) (EP X pins σ Q) X.xe s₂) X.xe s₁) X.xe s
def ztA(b:Expr){op:CmpOp}(h:op≠.In)(h2:op≠.NotIn):behindInMarks op b=false:=by
 have e1:(op == CmpOp.In)=false:=by cases op<;>first | rfl | exact absurd rfl h
 have e2:(op == CmpOp.NotIn)=false:=by cases op<;>first | rfl | exact absurd rfl h2
 cases b<;>simp [behindInMarks,e1,e2]
noncomputable def tB(t:TE):TT:=fun σ H Q=>t σ H fun x H1=>∃c,x=.bl c/\Q c H1
def znV{op:CmpOp}{t:TE}(h:PC X op a b t)(h1:behindInMarks op b=false):PE X (.Compare a [op] [b] pos) t:=fun pins s σ H Q I hw=>wpAny_Compare1 (h pins s σ H Q I hw) h1
def znO{op:CmpOp}{t:TE}(h:PC X op a b t)(h1:behindInMarks op b=false):PT X (.Compare a [op] [b] pos) (tB t):=by
 intro pins s σ H Q I hw;refine wpAny_isTrue_Compare1 (thn (h pins s σ H _ I hw) fun v s1 h1=>thn h1 fun u s2 h2=>thn h2 fun c s3 ⟨x,H1,I1,r1,q1⟩=>?_) h1;obtain ⟨d,rfl,q⟩:=q1;cases r1;exact yaT ⟨H1,I1,q⟩
def zrP{e:Expr}{t:TE}(h:PE X e t)(he:autoParam (∀whole,isTrue e X.env whole=(do let v ← whole;standAt e.pos;holding [v] (truthy v))) yAU):PT X e (tB t):=by
 intro pins s σ H Q I hw;refine isTrue_plain (thn (h pins s σ H _ I hw) fun v s1 ⟨x,H1,I1,r1,q1⟩=>?_) (he _);obtain ⟨d,rfl,q⟩:=q1;cases r1;exact yaT ⟨H1,I1,q⟩
variable{tA tB':TT}{zbD:List Expr}
noncomputable def zvL(t u:TT):TT:=fun σ H Q=>t σ H fun c H1=>if c=true then u σ H1 Q else Q false H1
noncomputable def tOr(t u:TT):TT:=fun σ H Q=>t σ H fun c H1=>if c=true then Q true H1 else u σ H1 Q
noncomputable def zvJ(t:TT):TT:=fun σ H Q=>t σ H fun c H1=>Q (!c) H1
def zpd(ha:PT X a tA):PW X (.BoolOp .And [a] pos) tA:=by
 intro wh pins s σ H Q I h;refine isTrue_and (thn (ha pins s σ H Q I h) fun c s1 e=>?_)
 cases c with
 | true=>exact isTrue_and_nil e
 | false=>exact e
def znM(ha:PT X a tA):PW X (.BoolOp .Or [a] pos) tA:=by
 intro wh pins s σ H Q I h;refine isTrue_or (thn (ha pins s σ H Q I h) fun c s1 e=>?_)
 cases c with
 | false=>exact isTrue_or_nil e
 | true=>exact e
def zrO(ha:PT X a tA)(hb:PW X (.BoolOp .And (b::zbD) pos) tB'):PW X (.BoolOp .And (a::b::zbD) pos) (zvL tA tB'):=by
 intro wh pins s σ H Q I h;refine isTrue_and (thn (ha pins s σ H _ I h) fun c s1 ⟨H1,I1,q1⟩=>?_)
 cases c with
 | true=>exact hb wh pins s1 σ H1 Q I1 q1
 | false=>exact ⟨H1,I1,q1⟩
def zuj(ha:PT X a tA)(hb:PW X (.BoolOp .Or (b::zbD) pos) tB'):PW X (.BoolOp .Or (a::b::zbD) pos) (tOr tA tB'):=by
 intro wh pins s σ H Q I h;refine isTrue_or (thn (ha pins s σ H _ I h) fun c s1 ⟨H1,I1,q1⟩=>?_)
 cases c with
 | true=>exact ⟨H1,I1,q1⟩
 | false=>exact hb wh pins s1 σ H1 Q I1 q1
def zrQ(ha:PT X a tA):PT X (.UnaryOp .Not a pos) (zvJ tA):=by
 intro pins s σ H Q I h;exact isTrue_not (ha pins s σ H (fun c H1=>Q (!c) H1) I h)
noncomputable def zt6(ta tb:TE):TE:=fun σ H Q=>ta σ H fun x H1=>∃c,x=.bl c/\if c=true then tb σ H1 Q else Q (.bl false) H1
noncomputable def zw4(ta tb:TE):TE:=fun σ H Q=>ta σ H fun x H1=>∃c,x=.bl c/\if c=true then Q (.bl true) H1 else tb σ H1 Q
noncomputable def ztY(ta:TE):TE:=fun σ H Q=>ta σ H fun x H1=>∃c,x=.bl c/\Q (.bl (!c)) H1
def zrZ{op}(h:PE X a t):PE X (.BoolOp op [a] pos) t:=fun pins s σ H Q I hw=>BoolOp_one (h pins s σ H Q I hw)
def zr3(ha:PE X a ta)(hb:PE X (.BoolOp .And (b::zbD) pos) tb):PE X (.BoolOp .And (a::b::zbD) pos) (zt6 ta tb):=by
 intro pins s σ H Q I h;refine BoolOp_and (thn (ha pins s σ H _ I h) fun v s1 ⟨x,H1,I1,r1,q1⟩=>?_);obtain ⟨c,rfl,q1⟩:=q1;cases r1;refine yaT ?_
 cases c with
 | true=>exact hb pins s1 σ H1 Q I1 q1
 | false=>exact ⟨.bl false,H1,I1,rfl,q1⟩
def zun(ha:PE X a ta)(hb:PE X (.BoolOp .Or (b::zbD) pos) tb):PE X (.BoolOp .Or (a::b::zbD) pos) (zw4 ta tb):=by
 intro pins s σ H Q I h;refine BoolOp_or (thn (ha pins s σ H _ I h) fun v s1 ⟨x,H1,I1,r1,q1⟩=>?_);obtain ⟨c,rfl,q1⟩:=q1;cases r1;refine yaT ?_
 cases c with
 | false=>exact hb pins s1 σ H1 Q I1 q1
 | true=>exact ⟨.bl true,H1,I1,rfl,q1⟩
def zr0(ha:PE X a ta):PE X (.UnaryOp .Not a pos) (ztY ta):=by
 intro pins s σ H Q I h;refine UnaryOp_ (thn (ha pins s σ H _ I h) fun v s1 ⟨x,H1,I1,r1,q1⟩=>?_);obtain ⟨c,rfl,q1⟩:=q1;cases r1;exact not_of (yaT ⟨.bl (!c),H1,I1,rfl,q1⟩)
noncomputable def tIf(t:TT)(ta tb:TE):TE:=fun σ H Q=>t σ H fun c H1=>if c=true then ta σ H1 Q else tb σ H1 Q
def zmw(hc:PT X c tA)(ha:PE X a ta)(hb:PE X b tb):PE X (.IfExp c a b pos) (tIf tA ta tb):=by
 intro pins s σ H Q I h;refine wpAny_IfExp (thn (hc pins s σ H _ I h) fun d s1 ⟨H1,I1,q1⟩=>?_)
 cases d with
 | true=>exact ha pins s1 σ H1 Q I1 q1
 | false=>exact hb pins s1 σ H1 Q I1 q1
end
noncomputable def SqL(K:PySem.W.Frag)(H:Hp)(a:Addr)(xs:List V):Prop :=
 Rd H a (.lst xs) ∨
  ∃(o:Obj) (its:Array Value) (n:Nat),K.lookup a=some o/\o.cls=.type "list" /\ o.dict=none/\o.data=.seq its n/\its.size<=sizeLine/\Vals xs its.toList
noncomputable def SqT(K:PySem.W.Frag)(H:Hp)(a:Addr)(xs:List V):Prop :=
 Rd H a (.tup xs) ∨
  ∃(o:Obj) (its:Array Value) (n:Nat),K.lookup a=some o/\o.cls=.type "tuple" /\ o.data=.seq its n/\its.size<=sizeLine/\Vals xs its.toList
noncomputable def zxZ:Value->Option V
 | .none=>some .non
 | .bool b=>some (.bl b)
 | .int i _=>some (.int i)
 | .str x _=>some (.str x)
 | .bytes b _=>some (.byt b)
 | .float b _=>some (.flt b)
 | .ref a=>some (.ref a)
 | .type n=>some (.ty n)
 | _=>none
def zaX.abs(r:zaX x u):zxZ u=some x:=by
 cases x with
 | non=>cases r;rfl
 | bl _=>cases r;rfl
 | int _=>obtain ⟨t,rfl⟩:=r;rfl
 | str _=>obtain ⟨t,rfl⟩:=r;rfl
 | byt _=>obtain ⟨t,rfl⟩:=r;rfl
 | flt _=>obtain ⟨t,rfl⟩:=r;rfl
 | ref _=>cases r;rfl
 | ty _=>cases r;rfl
theorem zaX.inj(r:zaX x u)(q:zaX y u):x=y:=Option.some.inj (r.abs.symm.trans q.abs)
theorem Vals.inj:∀{xs ys:List V} {us:List Value},Vals xs us->Vals ys us->xs=ys
 | _,_,_,.nil,.nil=>rfl
 | _,_,_,.cons r t,.cons r' t'=>by rw [r.inj r',Vals.inj t t']
section
variable{X:Cx}{pins:Z3}{σ:St}{H:Hp}{s:Shared}{a:Addr}{xs ys:List V}
def SqL.of{K:PySem.W.Frag}(h:H a=some (.lst xs)):SqL K H a xs:=.inl (.inl h)
def SqT.of{K:PySem.W.Frag}(h:H a=some (.tup xs)):SqT K H a xs:=.inl (.inl h)
theorem Inv.list(I:Inv X pins σ H s)(h:SqL X.K H a xs):∃its:List Value,Vals xs its/\PlainL s.heap a its.toArray/\xs.length<=sizeLine:=by
 rcases h with h | ⟨o,its,n,hk,hc,hd,hs,hz,r⟩
 ·obtain ⟨z,its,n,r,e⟩:=h.ok I.hok;exact ⟨its,r,⟨_,n,e,rfl,rfl,rfl⟩,z⟩
 ·refine ⟨its.toList,r,⟨o,n,I.kIn a o hk,hc,hd,by simpa using hs⟩,?_⟩;have e:=r.length;simp only [ya2] at e;omega
def Inv.tuple(I:Inv X pins σ H s)(h:SqT X.K H a xs):∃its:List Value,Vals xs its/\IsTup s.heap a its.toArray/\xs.length<=sizeLine:=by
 rcases h with h | ⟨o,its,n,hk,hc,hs,hz,r⟩
 ·obtain ⟨z,its,r,p⟩:=h.ok I.hok;exact ⟨its,r,p.t,z⟩
 ·refine ⟨its.toList,r,⟨o,I.kIn a o hk,hc,n,by simpa using hs⟩,?_⟩;have e:=r.length;simp only [ya2] at e;omega
def Inv.list_inj(I:Inv X pins σ H s)(h:SqL X.K H a xs)(h':SqL X.K H a ys):xs=ys:=by
 obtain ⟨its,r,⟨o,n,e,_,_,d⟩,_⟩:=I.list h;obtain ⟨its',r',⟨o',n',e',_,_,d'⟩,_⟩:=I.list h';rw [e] at e';cases e';rw [d] at d'
 injection d' with d1 _
 have:its=its':=by simpa using congrArg Array.toList d1
 subst this;exact r.inj r'
def Inv.tuple_inj(I:Inv X pins σ H s)(h:SqT X.K H a xs)(h':SqT X.K H a ys):xs=ys:=by
 obtain ⟨its,r,⟨o,e,_,n,d⟩,_⟩:=I.tuple h;obtain ⟨its',r',⟨o',e',_,n',d'⟩,_⟩:=I.tuple h';rw [e] at e';cases e';rw [d] at d'
 injection d' with d1 _
 have:its=its':=by simpa using congrArg Array.toList d1
 subst this;exact r.inj r'
end
section
variable{X:Cx}{st:Stmt}{zbD:List Stmt}{t u:TS}{e:Expr}{te:TE}{pos:Pos}
noncomputable def zq6:TS:=fun D σ H=>D.nx σ H
noncomputable def zw3(t u:TS):TS:=fun D σ H=>t { D with nx:=u D } σ H
def zph:PSs X [] zq6:=fun _ _ σ H _ I h=>ycx ⟨σ,H,I,h⟩
def zmn(h1:PS X st t)(h2:PSs X zbD u):PSs X (st::zbD) (zw3 t u):=by
 intro pins s σ H D I h;refine wpAny_execs_cons (thn (h1 pins s σ H { D with nx:=u D } I h) fun f s1 q=>?_)
 cases f with
 | next =>
  obtain ⟨σ',H',I',q⟩:=q;exact h2 pins s1 σ' H' D I' q
 | ret v=>exact q
 | brk=>exact q
 | cont=>exact q
def zhD(h1:PS X st t):PSs X [st] t:=by
 intro pins s σ H D I h;refine wpAny_execs_cons (thn (h1 pins s σ H D I h) fun f s1 q=>?_)
 cases f with
 | next=>exact ycx q
 | ret v=>exact q
 | brk=>exact q
 | cont=>exact q
def zpj:PS X (.Pass pos) zq6:=fun _ _ σ H _ I h=>wpAny_Pass ⟨σ,H,I,h⟩
def Inv.quiet(I:Inv X pins σ H s):interactive X.env=false:=by simp [interactive,I.ok.kind]
noncomputable def zt2(te:TE):TS:=fun D σ H=>te σ H fun _ H1=>D.nx σ H1
def zeo(he:PE X e te)(hs:autoParam (swapsWith e none pos.line X.env=pure false) yAW):PS X (.Expr e pos) (zt2 te):=by
 intro pins s σ H D I h;exact wpAny_Expr_any (thn (he pins s σ H _ I h) fun v s1 ⟨x,H1,I1,r1,q1⟩=>⟨σ,H1,I1,q1⟩) I.quiet hs
noncomputable def zq5(te:TE):TS:=fun D σ H=>te σ H D.rt
def ziz(he:PE X e te):PS X (.Return (some e) pos) (zq5 te):=by
 intro pins s σ H D I h;exact wpAny_Return_some (thn (he pins s σ H _ I h) fun v s1 ⟨x,H1,I1,r1,q1⟩=>⟨x,σ,H1,I1,r1,q1⟩)
noncomputable def zw7(c:TT)(t u:TS):TS:=fun D σ H=>c σ H fun b H1=>if b=true then t D σ H1 else u D σ H1
def zuk(hc:PT X c tc)(ha:PSs X a t)(hb:PSs X b u):PS X (.If c a b pos) (zw7 tc t u):=by
 intro pins s σ H D I h;refine wpAny_If (thn (hc pins s σ H _ I h) fun d s1 ⟨H1,I1,q1⟩=>?_)
 cases d with
 | true=>exact ha pins s1 σ H1 D I1 q1
 | false=>exact hb pins s1 σ H1 D I1 q1
end
noncomputable abbrev TG:=V->St->Hp->(St->Hp->Prop)->Prop
noncomputable abbrev TGs:=List V->St->Hp->(St->Hp->Prop)->Prop
noncomputable def PG(X:Cx)(target:Expr)(t:TG):Prop :=
 ∀(pins:Z3) (s:Shared) (σ:St) (H:Hp) (v:V) (u:Value) (Q:St->Hp->Prop),Inv X pins σ H s->zaX v u->t v σ H Q →
  wpAny (model X.prog X.w) X.A (assign target X.env u) (fun _ s'=>∃σ' H',Inv X pins σ' H' s'/\Q σ' H') X.xe s
noncomputable def PGs(X:Cx)(ts:List Expr)(t:TGs):Prop :=
 ∀(pins:Z3) (s:Shared) (σ:St) (H:Hp) (vs:List V) (us:List Value) (Q:St->Hp->Prop),Inv X pins σ H s->Vals vs us->t vs σ H Q →
  wpAny (model X.prog X.w) X.A (assignInOrder ((assignEach ts X.env).map (·.2)) us) (fun _ s'=>∃σ' H',Inv X pins σ' H' s'/\Q σ' H') X.xe s
noncomputable abbrev zjO:=V->V->V->Hp->(Hp->Prop)->Prop
noncomputable def zwD(X:Cx)(t:zjO):Prop :=
 ∀(pins:Z3) (s:Shared) (σ:St) (H:Hp) (o i v:V) (ov iv u:Value) (Q:Hp->Prop),Inv X pins σ H s->zaX o ov->zaX i iv->zaX v u->t o i v H Q →
  wpAny (model X.prog X.w) X.A (setItem ov iv u) (fun _ s'=>∃H',Inv X pins σ H' s'/\Q H') X.xe s
section
variable{X:Cx}{pos:Pos}
noncomputable def zli(i:Nat):TG:=fun v σ H Q=>Q (σ.set i (some v)) H
def zkH{i:Nat}{x:Str}(hN:X.N.Nodup)(hi:X.N[i]?=some x)(hx:Loc X.env.scope x)(hf:X.fn x=true\/X.env.scope.names.lookup x=some .local):PG X (.Name x pos) (zli i):=by
 intro pins s σ H v u Q I r h;exact wpAny_assign_Name (zdb I hN hi hx r (fun s' I'=>⟨_,H,I',h⟩) hf)
noncomputable def zxR:TGs:=fun vs σ H Q=>vs=[]/\Q σ H
noncomputable def zuV(t:TG)(u:TGs):TGs:=fun vs σ H Q=>∃v r,vs=v::r/\t v σ H fun σ' H'=>u r σ' H' Q
def zpt:PGs X [] zxR:=by
 intro pins s σ H vs us Q I r h;obtain ⟨e,h⟩:=h;subst e;cases r;exact assignInOrder_nil ⟨σ,H,I,h⟩
def zmt{e:Expr}{es:List Expr}{t:TG}{u:TGs}(h1:PG X e t)(h2:PGs X es u)
  (hs:autoParam ((assignEach (e::es) X.env).map (·.2)=assign e X.env::(assignEach es X.env).map (·.2)) yAW):PGs X (e::es) (zuV t u):=by
 intro pins s σ H vs us Q I r h;obtain ⟨v,vr,e1,h⟩:=h;subst e1
 cases r with
 | cons r rr =>
  rw [hs];refine ycG (thn (h1 pins s σ H _ _ _ I r h) fun _ s1 ⟨σ1,H1,I1,q1⟩=>?_);exact h2 pins s1 σ1 H1 _ _ Q I1 rr q1
noncomputable def zxP(K:PySem.W.Frag)(n:Nat)(t:TGs):TG:=fun v σ H Q=>∃a xs,v=.ref a/\SqT K H a xs/\xs.length=n/\t xs σ H Q
def zrW{es:List Expr}{k:Nat}{t:TGs}{n:Nat}(hc:X.calm=true)(h:PGs X es t)
  (hn:autoParam ((assignEach es X.env).length=n) yAW) (hst:autoParam ((assignEach es X.env).findIdx? (·.1)=none) yAW):PG X (.Tuple es k pos) (zxP X.K n t):=by
 intro pins s σ H v u Q I r hw;obtain ⟨a,xs,e1,hq,hl,hw⟩:=hw;subst e1;cases r;obtain ⟨its,rv,ht,hz⟩:=I.tuple hq;refine assign_Tuple_tuple (I.ok.hd hc) ht (by simp [hn,<-hl,rv.length]) hst fun h' hx=>?_
 have I1:Inv X pins σ H { s with heap:=h' }:=I.kept (t':=s.toks) fun b o e=>hx b o (yas (yal e)) e
 exact h pins _ σ H xs _ Q I1 (by simpa using rv) hw
noncomputable def zxQ(to ti:TE)(t:zjO):TG:=fun v σ H Q=>to σ H fun o H1=>ti σ H1 fun i H2=>t o i v H2 fun H3=>Q σ H3
def zrX{o i:Expr}{to ti:TE}{t:zjO}(ho:PE X o to)(hi:PE X i ti)(hs:zwD X t)
  (ha:autoParam (∀v,assign (.Subscript o i pos) X.env v=(do
   let ov ← holding [v] (eval o X.env)
   let iv ← holding [v,ov] (eval i X.env)
   standAt pos
   holding [v,ov,iv] (setItem ov iv v)
   release [v,ov,iv] [])) yAU):PG X (.Subscript o i pos) (zxQ to ti t):=by
 intro pins s σ H v u Q I r h;rw [ha];refine yab (ya9 (thn (ho pins s σ H _ I h) fun ov s1 ⟨x,H1,I1,r1,q1⟩=>?_));refine yab (ya9 (thn (hi pins s1 σ H1 _ I1 q1) fun iv s2 ⟨y,H2,I2,r2,q2⟩=>?_));refine yab (ycR (yab (ya9 (thn (hs pins s2 σ H2 x y v ov iv u _ I2 r1 r2 r q2) fun _ s3 ⟨H3,I3,q3⟩=>?_))));exact wpAny_release ⟨σ,H3,I3,q3⟩
noncomputable def zqN(te:TE)(g:TG):TS:=fun D σ H=>te σ H fun x H1=>g x σ H1 D.nx
def znQ{tg e:Expr}{te:TE}{g:TG}(he:PE X e te)(hg:PG X tg g)(hs:autoParam (swapsWithSole [tg] e pos.line X.env=pure false) yAW)(hw:autoParam (swappedStores [tg] e X.env=pure none) yAW)
  (h1:autoParam ((assignEach [tg] X.env).map (·.2)=[assign tg X.env]) yAW):PS X (.Assign [tg] e pos) (zqN te g):=by
 intro pins s σ H D I h;refine wpAny_Assign_stores (thn (he pins s σ H _ I h) fun v s1 ⟨x,H1,I1,r1,q1⟩=>?_) hs hw;rw [h1];exact thn (hg pins s1 σ H1 x v _ I1 r1 q1) fun _ s2 q=>q
def znP{i:Nat}{x:Str}{e:Expr}{te:TE}{pos':Pos}(hN:X.N.Nodup)(hi:X.N[i]?=some x)(hx:Loc X.env.scope x)(he:PE X e te)(hs:autoParam (swapsWith e (some (.Name x pos')) pos.line X.env=pure false) yAW)(hf:X.fn x=true\/X.env.scope.names.lookup x=some .local) :
  PS X (.Assign [.Name x pos'] e pos) (zqN te (zli i)):=by
 intro pins s σ H D I h;refine wpAny_Assign_Name (thn (he pins s σ H _ I h) fun v s1 ⟨y,H1,I1,r1,q1⟩=>?_) hs;exact zdb I1 hN hi hx r1 (fun s2 I2=>⟨_,H1,I2,q1⟩) hf
noncomputable def zvI(i j:Nat)(ta:TA):TS:=fun D σ H=>ta σ H fun vs H1=>∃v w,vs=[v,w]/\D.nx ((σ.set i (some v)).set j (some w)) H1
def zrR{i j:Nat}{x y:Str}{a b:Expr}{ta:TA}{px py pt:Pos}{kt k2 pt2}(hc:X.calm=true)(hN:X.N.Nodup)(hi:X.N[i]?=some x)(hj:X.N[j]?=some y)(hij:i≠j)
  (hx:X.env.scope.names.lookup x=some .local) (hy:X.env.scope.names.lookup y=some .local) (ha:PA X [a,b] ta)
  (hw:swappedStores [.Tuple [.Name x px,.Name y py] kt pt] (.Tuple [a,b] k2 pt2) X.env=pure (some [x,y]))
  (hs:autoParam (swapsWithSole [.Tuple [.Name x px,.Name y py] kt pt] (.Tuple [a,b] k2 pt2) pos.line X.env=pure false) yAW) :
  PS X (.Assign [.Tuple [.Name x px,.Name y py] kt pt] (.Tuple [a,b] k2 pt2) pos) (zvI i j ta):=by
 intro pins s σ H D I h;rw [exec_Assign_arm];refine yab (ycR ?_);rw [hs];refine yab (yam ?_);rw [if_neg (by decide)];refine yab (Tuple_ (thn (ha _ pins s σ H _ I h) fun us s1 ⟨vs,H1,I1,r1,q1⟩=>?_));obtain ⟨v,w,e1,q1⟩:=q1;subst e1
 obtain ⟨u1,u2,rfl,rv,rw'⟩:∃u1 u2,us=[u1,u2]/\zaX v u1/\zaX w u2:=by
  cases r1 with
  | cons p q =>
   cases q with
   | cons p' q' =>
    cases q';exact ⟨_,_,rfl,p,p'⟩
 refine ycg ?_ (by show 2<=sizeLine;decide);have I2:Inv X pins σ H1 { s1 with heap:=s1.heap.push { cls:=.type "tuple",data:=.seq [u1,u2].toArray } }:=I1.kept (t':=s1.toks) fun b o e=>yae _ e
 rw [hw];refine yab (yam ?_);show wpAny (model X.prog X.w) X.A (do rule "assign.swapped-stores";let items ← unpackItems (.ref s1.heap.objs.size) 2 none;assignInOrder [fun v=>bindName X.env y v,fun v=>bindName X.env x v] items.reverse;pure Flow.next) _ _ _;refine yab (wpAny_rule (yab (unpackItems_tuple (items:=#[u1,u2]) (I.ok.hd hc) (IsTup.new s1.heap _) fun h' hx'=>?_)));have I3:=I2.kept (h':=h') (t':=s1.toks) fun b o e=>hx' b o (yas (yal e)) e
 show wpAny _ _ (assignInOrder [fun v=>bindName X.env y v,fun v=>bindName X.env x v] [u2,u1] >>= fun _=>pure Flow.next) _ _ _;refine yab (ycG (wpAny_bindName (zdb I3 hN hj (.inl hy) rw' (fun s2 I4=>?_) (.inr hy))));refine ycG (wpAny_bindName (zdb I4 hN hi (.inl hx) rv (fun s3 I5=>assignInOrder_nil (yam ?_)) (.inr hx)));rw [List.set_comm _ _ (Ne.symm hij)] at I5;exact ⟨_,H1,I5,q1⟩
end
structure It where
 go:Nat->Hp->Prop
 yld:Nat->Hp->V->Hp->Prop
 stop:Nat->Hp->Prop
noncomputable def zlQ(X:Cx)(pins:Z3)(H:Hp)(b:Addr):Prop :=
 H b=none/\b≠X.env.locals/\b ∉ X.fs/\(b∈X.ex\/X.s₀.heap.objs.size<=b)/\(∀x c,X.env.cells.lookup x=some c->c≠b)/\∀p∈X.pn++pins,p.1≠b
def Inv.fpOk(I:Inv X pins σ H s)(hb:s.heap.objs.size<=b)(hn:H' b=none):zlQ X pins H' b:=by
 refine ⟨hn,yaP (yah I.lt hb),I.nofs hb,.inr (yau I.sz hb),fun x c e z=>?_,fun p hp z=>?_⟩
 ·obtain ⟨v,q⟩:=I.cell x c e;exact absurd (yah q.lt (by rw [z];exact hb)) (yaN _)
 ·exact absurd (yah (yal (I.pin p hp).1) (by rw [z];exact hb)) (yaN _)
structure Turn(P:Program)(w:World)(K:PySem.W.Frag)(tg:Expr)(J:It)(fp:List Addr)(it:Addr)(tn:Nat->Heap->Prop):Prop where
 mem:it∈fp
 obj:∀i h,tn i h->∀b∈fp,∃o,h.get? b=some o/\∀v,o.data≠.cell v
 keep:∀i h h',tn i h->(∀b∈fp,∀o,h.get? b=some o->h'.get? b=some o)->tn i h'
 item:∀(X:Cx),X.prog=P->X.w=w->X.K=K->X.calm=true->∀(i:Nat) (pins:Z3) (s:Shared) (σ:St) (H:Hp) (E:Z5),Inv X pins σ H s->(∀b∈fp,zlQ X pins H b)->tn i s.heap->J.go i H →
  wpAny (model P w) X.A (pyNext (.ref it)) (fun r s1=>∃u,r=some u ∧
   wpAny (model P w) X.A (letOwnedTupleGo tg (.ref it) u) (fun _ s2=>∃x H',Inv X pins σ H' s2/\zaX x u/\J.yld i H x H'/\tn (i+1) s2.heap/\∀b∈fp,H' b=none) E s1) E s
 done:∀(X:Cx),X.prog=P->X.w=w->X.K=K->X.calm=true->∀(i:Nat) (pins:Z3) (s:Shared) (σ:St) (H:Hp) (E:Z5),Inv X pins σ H s->(∀b∈fp,zlQ X pins H b)->tn i s.heap->J.stop i H →
  wpAny (model P w) X.A (pyNext (.ref it)) (fun r s1=>r=none/\Inv X pins σ H s1) E s
 self:∀(A:Around) (i:Nat) (s:Shared) (Q:Z5) (E:Z5),tn i s.heap->Q (.ref it) s->wpAny (model P w) A (pyIter (.ref it)) Q E s
noncomputable abbrev TI:=St->Hp->(It->Hp->Prop)->Prop
noncomputable def PIE(X:Cx)(pins:Z3)(σ:St)(tg:Expr)(R:It->Hp->Prop)(itv:Value)(s2:Shared):Prop :=
 ∃(it:Addr) (fp:List Addr) (tn:Nat->Heap->Prop) (J:It) (H':Hp),itv=.ref it/\Inv X pins σ H' s2/\Turn X.prog X.w X.K tg J fp it tn/\tn 0 s2.heap/\(∀b∈fp,zlQ X pins H' b)/\R J H'
noncomputable def PI(X:Cx)(tg iter:Expr)(wi:TI):Prop :=
 ∀(pins:Z3) (s:Shared) (σ:St) (H:Hp) (R:It->Hp->Prop),Inv X pins σ H s->wi σ H R →
  wpAny (model X.prog X.w) X.A (eval iter X.env) (fun v s1=>wpAny (model X.prog X.w) X.A (pyIter v) (PIE X pins σ tg R) X.xe s1) X.xe s
def zlh (ho : s.heap.get? it = some o) (hc : o.cls = .type n) (hd : o.data = .fields vs)
    (hn : ["enumerate", "zip", "dict_itemiterator", "dict_reverseitemiterator", "odict_iterator", "itertools.zip_longest", "itertools.pairwise"].contains n = false) (hQ : Q () s) : wpAny M A (letOwnedTupleGo tg (.ref it) u) Q E s := by
  unfold letOwnedTupleGo
  cases tg <;> first
    | exact yam hQ
    | (cases u <;> first
        | exact yam hQ
        | (refine yab (wpAny_load ho ?_)
           rw [hc, hd];show wpAny M A (if (["enumerate", "zip", "dict_itemiterator", "dict_reverseitemiterator", "odict_iterator", "itertools.zip_longest", "itertools.pairwise"].contains n && vs[0]? == some (rawInt _)) = true then _ else _) Q E s;rw [if_neg (by intro h; rw [hn, Bool.false_and] at h; cases h)]
           exact yam hQ))
noncomputable def Itl(K:PySem.W.Frag)(a:Addr):It :=
 ⟨fun i H=>∃xs x,SqL K H a xs/\xs[i]?=some x,fun i H x H'=>H'=H/\∀xs,SqL K H a xs->xs[i]?=some x,fun i H=>∃xs,SqL K H a xs/\xs.length<=i⟩
noncomputable def Itt(K:PySem.W.Frag)(a:Addr):It :=
 ⟨fun i H=>∃xs x,SqT K H a xs/\xs[i]?=some x,fun i H x H'=>H'=H/\∀xs,SqT K H a xs->xs[i]?=some x,fun i H=>∃xs,SqT K H a xs/\xs.length<=i⟩
noncomputable def Itr(lo:Int)(n:Nat):It:=⟨fun i _=>i<n,fun i H x H'=>H'=H/\x=.int (lo+i),fun i _=>n<=i⟩
theorem zjX{P:Program}{K:PySem.W.Frag}(a it:Addr):Turn P w K tg (Itl K a) [it] it (fun i h=>h.IsListIter it a i) where
 mem:=by simp
 obj:=fun i h st b hb=>by
  have e:b=it:=by simpa using hb
  subst e;obtain ⟨o,e,c,d⟩:=st;exact ⟨o,e,fun v z=>by rw [d] at z;cases z⟩
 keep:=fun i h h' st k=>st.at fun o e=>k it (by simp) o e
 item:=by
  intro X hP hw hK hc i pins s σ H E I hf st hg;subst hP hw hK;obtain ⟨xs,x,hq,hx⟩:=hg;obtain ⟨its,rv,p,hz⟩:=I.list hq;obtain ⟨u,hu,ru⟩:=rv.get hx;obtain ⟨f0,f1,f2,f3,f4,f5⟩:=hf it (by simp);refine wpAny_pyNext_list_item st p.isList (x:=u) (by simpa using hu) fun h' st' sb=>?_
  have I1:Inv X pins σ H { s with heap:=h' }:=I.turned (t':=s.toks) (fun b o hb e=>(sb.2 b hb).trans e) f0 f1 f3 f4 f5;obtain ⟨o,e,c,d⟩:=id st';exact ⟨u,rfl,zlh (s:={ s with heap:=h' }) e c d (by decide) ⟨x,H,I1,ru,⟨rfl,fun ys hy=>by rw [I.list_inj hy hq];exact hx⟩,st',fun b hb=>(hf b hb).1⟩⟩
 done:=by
  intro X hP hw hK hc i pins s σ H E I hf st hg;subst hP hw hK;obtain ⟨xs,hq,hx⟩:=hg;obtain ⟨its,rv,p,hz⟩:=I.list hq;obtain ⟨f0,f1,f2,f3,f4,f5⟩:=hf it (by simp);have hl:=rv.length;exact wpAny_pyNext_list_end (I.ok.hd hc) st p.isList (by simp;omega) fun h' eb=>⟨rfl,I.turned (t':=s.toks) (fun b o hb e=>eb b o hb e) f0 f1 f3 f4 f5⟩
 self:=fun _ _ _ _ _ st h=>wpAny_pyIter_listiter st h
def zjc{P:Program}{K:PySem.W.Frag}(a it:Addr):Turn P w K tg (Itt K a) [it] it (fun i h=>h.IsTupleIter it a i) where
 mem:=by simp
 obj:=fun i h st b hb=>by
  have e:b=it:=by simpa using hb
  subst e;obtain ⟨o,e,c,d⟩:=st;exact ⟨o,e,fun v z=>by rw [d] at z;cases z⟩
 keep:=fun i h h' st k=>st.at fun o e=>k it (by simp) o e
 item:=by
  intro X hP hw hK hc i pins s σ H E I hf st hg;subst hP hw hK;obtain ⟨xs,x,hq,hx⟩:=hg;obtain ⟨its,rv,p,hz⟩:=I.tuple hq;obtain ⟨u,hu,ru⟩:=rv.get hx;obtain ⟨f0,f1,f2,f3,f4,f5⟩:=hf it (by simp);refine wpAny_pyNext_tuple_item st (show s.heap.IsTuple a its.toArray from p) (x:=u) (by simpa using hu) fun h' st' sb=>?_
  have I1:Inv X pins σ H { s with heap:=h' }:=I.turned (t':=s.toks) (fun b o hb e=>(sb.2 b hb).trans e) f0 f1 f3 f4 f5;obtain ⟨o,e,c,d⟩:=id st';exact ⟨u,rfl,zlh (s:={ s with heap:=h' }) e c d (by decide) ⟨x,H,I1,ru,⟨rfl,fun ys hy=>by rw [I.tuple_inj hy hq];exact hx⟩,st',fun b hb=>(hf b hb).1⟩⟩
 done:=by
  intro X hP hw hK hc i pins s σ H E I hf st hg;subst hP hw hK;obtain ⟨xs,hq,hx⟩:=hg;obtain ⟨its,rv,p,hz⟩:=I.tuple hq;obtain ⟨f0,f1,f2,f3,f4,f5⟩:=hf it (by simp);have hl:=rv.length;exact wpAny_pyNext_tuple_end (I.ok.hd hc) st (show s.heap.IsTuple a its.toArray from p) (by simp;omega) fun h' eb=>⟨rfl,I.turned (t':=s.toks) (fun b o hb e=>eb b o hb e) f0 f1 f3 f4 f5⟩
 self:=fun _ _ _ _ _ st h=>wpAny_pyIter_tupleiter st h
theorem zjd{P:Program}{K:PySem.W.Frag}(it:Addr)(lo:Int)(n:Nat):Turn P w K tg (Itr lo n) [it] it (fun i h=>IsRangeIter h it (lo+(i:Nat)*1) ((n:Int)-(i:Nat)) 1) where
 mem:=by simp
 obj:=fun i h st b hb=>by
  have e:b=it:=by simpa using hb
  subst e
  exact ⟨_,st,fun v z=>by
   have z':Data.fields _=Data.cell v:=z
   cases z'⟩
 keep:=fun i h h' st k=>k it (by simp) _ st
 item:=by
  intro X hP hw hK hc i pins s σ H E I hf st hg;subst hP hw hK;obtain ⟨f0,f1,f2,f3,f4,f5⟩:=hf it (by simp);have W:=Walks.range (prog:=X.prog) (w:=X.w) (I.ok.hd hc) it lo 1 n;refine W.item i s _ _ hg st fun v h' tk hv st' kk=>?_
  obtain ⟨t,rfl⟩:=hv;have I1:Inv X pins σ H { s with heap:=h',toks:=tk }:=I.turned (fun b o hb e=>kk b o (by simpa using hb) e) f0 f1 f3 f4 f5;refine ⟨_,rfl,zlh (s:={ s with heap:=h',toks:=tk }) (n:="range_iterator") st' rfl rfl (by decide) ⟨.int (lo+i),H,I1,⟨t,?_⟩,⟨rfl,rfl⟩,st',fun b hb=>(hf b hb).1⟩⟩;rw [Int.mul_one]
 done:=by
  intro X hP hw hK hc i pins s σ H E I hf st hg;subst hP hw hK;obtain ⟨f0,f1,f2,f3,f4,f5⟩:=hf it (by simp);exact wpAny_pyNext_range_end (I.ok.hd hc) st (by have:n<=i:=hg;omega) fun h' eb=>⟨rfl,I.turned (t':=s.toks) (fun b o hb e=>eb b o hb e) f0 f1 f3 f4 f5⟩
 self:=fun _ _ _ _ _ st h=>wpAny_pyIter_rangeiter st h
section
variable{X:Cx}{tg:Expr}
noncomputable def zuU(K:PySem.W.Frag)(tl:TE):TI:=fun σ H R=>tl σ H fun x H1=>∃a,x=.ref a/\(∃xs,SqL K H1 a xs)/\R (Itl K a) H1
noncomputable def zxL(K:PySem.W.Frag)(tl:TE):TI:=fun σ H R=>tl σ H fun x H1=>∃a,x=.ref a/\(∃xs,SqT K H1 a xs)/\R (Itt K a) H1
def zpr(hl:PE X l tl):PI X tg l (zuU X.K tl):=by
 intro pins s σ H R I h;refine thn (hl pins s σ H _ I h) fun v s1 ⟨x,H1,I1,r1,q1⟩=>?_
 obtain ⟨a,e,⟨xs,hq⟩,q⟩:=q1;subst e;cases r1;obtain ⟨its,rv,p,hz⟩:=I1.list hq;refine ycK p.isList ?_;refine ⟨s1.heap.objs.size,[s1.heap.objs.size],_,_,H1,rfl,I1.kept (t':=s1.toks) fun b o e=>yae _ e,zjX a _,⟨_,yaq _ rfl,rfl,rfl⟩,fun b hb=>?_,q⟩
 have e:b=s1.heap.objs.size:=by simpa using hb
 subst e;exact I1.fpOk (yag _) (I1.hok.fresh (yag _))
def zrU(hl:PE X l tl):PI X tg l (zxL X.K tl):=by
 intro pins s σ H R I h;refine thn (hl pins s σ H _ I h) fun v s1 ⟨x,H1,I1,r1,q1⟩=>?_
 obtain ⟨a,e,⟨xs,hq⟩,q⟩:=q1;subst e;cases r1;obtain ⟨its,rv,p,hz⟩:=I1.tuple hq;refine yb3 (show s1.heap.IsTuple a its.toArray from p) ?_;refine ⟨s1.heap.objs.size,[s1.heap.objs.size],_,_,H1,rfl,I1.kept (t':=s1.toks) fun b o e=>yae _ e,zjc a _,⟨_,yaq _ rfl,rfl,rfl⟩,fun b hb=>?_,q⟩
 have e:b=s1.heap.objs.size:=by simpa using hb
 subst e;exact I1.fpOk (yag _) (I1.hok.fresh (yag _))
theorem zmi{pins:Z3}{σ:St}{H:Hp}{s:Shared}{R:It->Hp->Prop}{E:Z5}{lo hi:Int}{t u v:Tok}{tk:Nat}(I:Inv X pins σ H s)(h1:-(2 ^ 62)<=lo)(h2:lo<2 ^ 62)(h3:-(2 ^ 62)<=hi)(h4:hi<2 ^ 62)
  (q:R (Itr lo (hi-lo).toNat) H):wpAny (model X.prog X.w) X.A (pyIter (.ref s.heap.objs.size)) (PIE X pins σ tg R) E { s with heap:=s.heap.push { cls:=.type "range",data:=.fields #[.int lo t,.int hi u,.int 1 v] },toks:=tk }:=by
 refine wpAny_pyIter_range (IsRange.new ..) (small_one h1 h2 h3 h4) ?_;have I1:Inv X pins σ H { s with heap:=s.heap.push { cls:=.type "range",data:=.fields #[.int lo t,.int hi u,.int 1 v] },toks:=tk }:=I.kept fun b o e=>yae _ e
 refine ⟨(s.heap.push { cls:=.type "range",data:=.fields #[.int lo t,.int hi u,.int 1 v] }).objs.size,[(s.heap.push { cls:=.type "range",data:=.fields #[.int lo t,.int hi u,.int 1 v] }).objs.size],_,_,H,rfl,
  I1.kept (t':=tk) fun b o e=>yae _ e,zjd _ lo (hi-lo).toNat,?_,fun b hb=>?_,q⟩
 ·have e1:lo+((0:Nat):Int)*1=lo:=by simp
  have e2:(((hi-lo).toNat:Nat):Int)-((0:Nat):Int)=Builtin.Range.rangeSize lo hi 1:=by rw [rangeSize_one];split<;>omega
  show IsRangeIter _ _ (lo+((0:Nat):Int)*1) ((((hi-lo).toNat:Nat):Int)-((0:Nat):Int)) 1;rw [e1,e2];exact yaq _ rfl
 ·have e:b=(s.heap.push { cls:=.type "range",data:=.fields #[.int lo t,.int hi u,.int 1 v] }).objs.size:=by simpa using hb
  subst e;exact I1.fpOk (yag _) (I1.hok.fresh (yag _))
noncomputable def zuT(ta:TA):TI:=fun σ H R=>ta σ H fun vs H1=>∃j:Int,vs=[.int j]/\-(2 ^ 62)<=j/\j<2 ^ 62/\R (Itr 0 j.toNat) H1
theorem zkG{a:Expr}{ta:TA}{p pos:Pos}(hg:Gl X "range")(hm:X.mg "range" = none)(ha:PA X [a] ta)(hs:autoParam (starEach [a] X.env=[(false,eval a X.env)]) yAW):PI X tg (.Call (.Name "range" p) [a] [] pos) (zuT ta):=by
 intro pins s σ H R I h;refine Call_ (zgM I hg hm boot_range (ybJ (thn (ha pos pins s σ H _ I h) fun us s1 ⟨vs,H1,I1,r1,q1⟩=>?_) hs rfl));obtain ⟨j,e,q1,q2,q⟩:=q1;subst e
 cases r1 with
 | cons r rr =>
  cases rr;obtain ⟨t,rfl⟩:=r;exact call_range_1 (zmi I1 (by omega) (by omega) q1 q2 (by simpa using q))
noncomputable def zw8(wi:TI)(g:TG)(tb:TS):TS:=fun D σ H=>wi σ H fun J H1=>∃W:Nat->Nat->St->Hp->Prop,(∃m,W 0 m σ H1)/\∀i m σ H,W i m σ H →
 (J.stop i H/\D.nx σ H)\/(J.go i H/\∃N:St->Hp->Prop,(∀σ' H',N σ' H'->∃m',m'<m/\W (i+1) m' σ' H')/\∀x H',J.yld i H x H'->g x σ H' fun σ2 H2=>tb { D with nx:=N,ct:=N,bk:=D.nx } σ2 H2)
noncomputable def zgD(fp:List Addr)(h:Heap):List (Addr×Obj):=fp.filterMap fun b=>(h.get? b).map fun o=>(b,o)
def zdf(hb:b∈fp)(e:h.get? b=some o):(b,o)∈zgD fp h:=ybi.mpr ⟨b,hb,by rw [e];rfl⟩
def zkN(hp:p∈zgD fp h):p.1∈fp/\h.get? p.1=some p.2:=by
 obtain ⟨b,hb,e⟩:=ybi.mp hp
 cases q:h.get? b with
 | none=>rw [q] at e;cases e
 | some o =>
  rw [q] at e;have e':(b,o)=p:=Option.some.inj e;subst e';exact ⟨hb,q⟩
def Inv.pinned(I:Inv X pins σ H s)(hf:∀b∈fp,zlQ X pins H b)(ho:∀b∈fp,∃o,s.heap.get? b=some o/\∀v,o.data≠.cell v):Inv X (pins++zgD fp s.heap) σ H s :=
 I.pins_of fun p hp=>(yaV.mp hp).elim (fun z=>I.pin p (yaH _ z)) fun z=>by
  obtain ⟨hb,e⟩:=zkN z;obtain ⟨f0,f1,f2,_⟩:=hf p.1 hb;obtain ⟨o,e',d⟩:=ho p.1 hb;rw [e] at e';cases e';exact ⟨e,f0,f1,f2,d⟩
def Inv.unpinned(I:Inv X (pins++pl) σ H s):Inv X pins σ H s:=I.pins_of fun p hp=>I.pin p (yaH _ (yct _ hp))
def zrS{iter:Expr}{body:List Stmt}{wi:TI}{g:TG}{tb:TS}{pos:Pos}(hp:PassesOwn (model X.prog X.w) X.A X.env X.xe)(hc:X.calm=true)(hi:PI X tg iter wi)(hg:PG X tg g)(hb:PSs X body tb)
  (hs:autoParam (∀x,foldedSetIterable iter X.env x=pure x) yAU):PS X (.For tg iter body [] pos) (zw8 wi g tb):=by
 intro pins s σ H D I h;refine wpAny_For (thn (hi pins s σ H _ I h) fun v s1 h1=>thn h1 fun itv s2 h2=>?_) hs;obtain ⟨it,fp,tn,J,H2,e,I2,T,st2,f2,W,⟨m0,w0⟩,turn⟩:=h2;subst e;have stat:∀{H':Hp},(∀b∈fp,H' b=none)->∀b∈fp,zlQ X pins H' b:=fun hn b hb=>⟨hn b hb,(f2 b hb).2⟩
 refine codeAny_forLoop_any (fun n s'=>∃i σ' H',Inv X pins σ' H' s'/\tn i s'.heap/\(∀b∈fp,H' b=none)/\W i n σ' H') ?_ m0 ⟨0,σ,H2,I2,st2,fun b hb=>(f2 b hb).1,w0⟩;rintro n s3 ⟨i,σ3,H3,I3,st3,fr3,w3⟩
 rcases turn i n σ3 H3 w3 with ⟨stop,qn⟩ | ⟨go,N,hN,step⟩
 ·refine yb4 hp (thn (T.done X rfl rfl rfl hc i pins s3 σ3 H3 X.xe I3 (stat fr3) st3 stop) fun r s4 ⟨hr,I4⟩=>?_);subst hr;exact ycx ⟨σ3,H3,I4,qn⟩
 ·refine yb4 hp (thn (T.item X rfl rfl rfl hc i pins s3 σ3 H3 X.xe I3 (stat fr3) st3 go) fun r s4 ⟨u,hr,h4⟩=>?_);subst hr;refine yb4 hp (thn h4 fun _ s5 ⟨x,H5,I5,r5,y5,st5,fr5⟩=>?_);have I5':=I5.pinned (stat fr5) (T.obj _ _ st5);refine yb4 hp (thn (hg _ s5 σ3 H5 x u _ I5' r5 (step x H5 y5)) fun _ s6 ⟨σ6,H6,I6,q6⟩=>?_);refine yb4 hp (thn (hb _ s6 σ6 H6 _ I6 q6) fun f s7 q7=>?_)
  have again:∀{σ7:St} {H7:Hp},Inv X (pins++zgD fp s5.heap) σ7 H7 s7->N σ7 H7->∃m,m<n/\∃i σ' H',Inv X pins σ' H' s7/\tn i s7.heap/\(∀b∈fp,H' b=none)/\W i m σ' H':=fun {σ7 H7} I7 n7=>by
   obtain ⟨m',hm,w7⟩:=hN σ7 H7 n7;refine ⟨m',hm,i+1,σ7,H7,I7.unpinned,T.keep _ _ _ st5 fun b hb o e=>(I7.pin (b,o) (yaH _ (yaH _ (zdf hb e)))).1,fun b hb=>?_,w7⟩;obtain ⟨o,e,d⟩:=T.obj _ _ st5 b hb;exact (I7.pin (b,o) (yaH _ (yaH _ (zdf hb e)))).2.1
  cases f with
  | next=>obtain ⟨σ7,H7,I7,n7⟩:=q7;exact again I7 n7
  | cont=>obtain ⟨σ7,H7,I7,n7⟩:=q7;exact again I7 n7
  | brk=>obtain ⟨σ7,H7,I7,q7⟩:=q7;exact ⟨σ7,H7,I7.unpinned,q7⟩
  | ret v=>obtain ⟨x7,σ7,H7,I7,r7,q7⟩:=q7;exact ⟨x7,σ7,H7,I7.unpinned,r7,q7⟩
end
noncomputable abbrev R2:=V->V->Hp->VK->Prop
noncomputable def OpR(X:Cx)(f:Value->Value->Sem Value)(r:R2):Prop :=
 ∀(pins:Z3) (s:Shared) (σ:St) (H:Hp) (x y:V) (v u:Value) (Q:VK),Inv X pins σ H s->zaX x v->zaX y u->r x y H Q →
  wpAny (model X.prog X.w) X.A (f v u) (EP X pins σ Q) X.xe s
noncomputable def UnR(X:Cx)(f:Value->Sem Value)(r:V->Hp->VK->Prop):Prop :=
 ∀(pins:Z3) (s:Shared) (σ:St) (H:Hp) (x:V) (v:Value) (Q:VK),Inv X pins σ H s->zaX x v->r x H Q →
  wpAny (model X.prog X.w) X.A (f v) (EP X pins σ Q) X.xe s
noncomputable def zc8(X:Cx)(f:Value)(r:List V->Hp->VK->Prop):Prop :=
 ∀(pins:Z3) (s:Shared) (σ:St) (H:Hp) (xs:List V) (us:List Value) (Q:VK),Inv X pins σ H s->Vals xs us->r xs H Q →
  wpAny (model X.prog X.w) X.A (call f us) (EP X pins σ Q) X.xe s
noncomputable def tOp(r:R2)(ta tb:TE):TE:=fun σ H Q=>ta σ H fun x H1=>tb σ H1 fun y H2=>r x y H2 Q
noncomputable def tUn(r:V->Hp->VK->Prop)(ta:TE):TE:=fun σ H Q=>ta σ H fun x H1=>r x H1 Q
noncomputable def rI(C:Int->Int->Prop)(g:Int->Int->V):R2:=fun x y H Q=>∃i j,x=.int i/\y=.int j/\C i j/\Q (g i j) H
noncomputable def rI0(g:Int->Int->V):R2:=fun x y H Q=>∃i j,x=.int i/\y=.int j/\Q (g i j) H
noncomputable def rU(g:Int->V):V->Hp->VK->Prop:=fun x H Q=>∃i,x=.int i/\Q (g i) H
section
variable{X:Cx}{a b c:Expr}{ta tb tc:TE}{pos:Pos}
def zu6(ha:PE X a ta)(hb:PE X b tb){pins:Z3}{s:Shared}{σ:St}{H:Hp}{R:V->V->Hp->Prop}(I:Inv X pins σ H s)
  (h:ta σ H fun x H1=>tb σ H1 fun y H2=>R x y H2) {Q:Z5} {f:Value->Value->Sem Value}
  (hf:∀v u s2 x y H2,Inv X pins σ H2 s2->zaX x v->zaX y u->R x y H2->wpAny (model X.prog X.w) X.A (f v u) Q X.xe s2) :
  wpAny (model X.prog X.w) X.A (eval a X.env) (fun v s₁=>wpAny (model X.prog X.w) X.A (eval b X.env) (fun u s₂=>wpAny (model X.prog X.w) X.A (f v u) Q X.xe s₂) X.xe s₁) X.xe s:=by
 refine thn (ha pins s σ H _ I h) fun v s1 ⟨x,H1,I1,r1,q1⟩=>?_
 refine thn (hb pins s1 σ H1 _ I1 q1) fun u s2 ⟨y,H2,I2,r2,q2⟩=>?_
 exact hf v u s2 x y H2 I2 r1 r2 q2
def zrY(ho:OpR X (binaryOp op) r)(ha:PE X a ta)(hb:PE X b tb):PE X (.BinOp a op b pos) (tOp r ta tb):=by
 intro pins s σ H Q I h;exact wpAny_BinOp (zu6 ha hb I h fun v u s2 x y H2 I2 rx ry q=>ho pins s2 σ H2 x y v u Q I2 rx ry q)
def zum(ho:UnR X (unaryOp op) r)(ha:PE X a ta):PE X (.UnaryOp op a pos) (tUn r ta):=by
 intro pins s σ H Q I h;exact UnaryOp_ (thn (ha pins s σ H _ I h) fun v s1 ⟨x,H1,I1,r1,q1⟩=>ho pins s1 σ H1 x v Q I1 r1 q1)
def opI{f:Value->Value->Sem Value}{C:Int->Int->Prop}{g:Int->Int->Int}
  (rule:∀(i j:Int) (t u:Tok) (s:Shared) (Q:Z5) (E:Z5),C i j->Q (.int (g i j) s.toks) { s with toks:=s.toks+1 }->wpAny (model X.prog X.w) X.A (f (.int i t) (.int j u)) Q E s) :
  OpR X f (rI C fun i j=>.int (g i j)):=by
 intro pins s σ H x y v u Q I rx ry h;obtain ⟨i,j,rfl,rfl,hc,q⟩:=h;obtain ⟨t,rfl⟩:=rx;obtain ⟨t',rfl⟩:=ry;exact rule i j t t' s _ _ hc ⟨.int (g i j),H,I.tok _,⟨_,rfl⟩,q⟩
def zvR{f:Value->Value->Sem Value}{g:Int->Int->Int}
  (rule:∀(i j:Int) (t u:Tok) (s:Shared) (Q:Z5) (E:Z5),Q (.int (g i j) s.toks) { s with toks:=s.toks+1 }->wpAny (model X.prog X.w) X.A (f (.int i t) (.int j u)) Q E s) :
  OpR X f (rI0 fun i j=>.int (g i j)):=by
 intro pins s σ H x y v u Q I rx ry h;obtain ⟨i,j,rfl,rfl,q⟩:=h;obtain ⟨t,rfl⟩:=rx;obtain ⟨t',rfl⟩:=ry;exact rule i j t t' s _ _ ⟨.int (g i j),H,I.tok _,⟨_,rfl⟩,q⟩
def ztz{f:Value->Value->Sem Value}{g:Int->Int->Bool}
  (rule:∀(i j:Int) (t u:Tok) (s:Shared) (Q:Z5) (E:Z5),Q (.bool (g i j)) s->wpAny (model X.prog X.w) X.A (f (.int i t) (.int j u)) Q E s) :
  OpR X f (rI0 fun i j=>.bl (g i j)):=by
 intro pins s σ H x y v u Q I rx ry h;obtain ⟨i,j,rfl,rfl,q⟩:=h;obtain ⟨t,rfl⟩:=rx;obtain ⟨t',rfl⟩:=ry;exact rule i j t t' s _ _ ⟨.bl (g i j),H,I,rfl,q⟩
noncomputable def zx1(i j:Int):Prop:=0<j/\j<1073741824
noncomputable def zvh(i j:Int):Prop:=(-(2 ^ 64)<i/\i<2 ^ 64)\/(-(2 ^ 64)<j/\j<2 ^ 64)
def zvh.ok(h:zvh i j):IntMulOk i j:=by
 rcases h with ⟨h1,h2⟩ | ⟨h1,h2⟩
 ·exact .of_left (intBits_le_64 h1 h2)
 ·exact .of_right (intBits_le_64 h1 h2)
def zsd:OpR X (binaryOp .Add) (rI0 fun i j=>.int (i+j)):=zvR fun _ _ _ _ _ _ _ q=>add_int q
def zr6:OpR X (binaryOp .Sub) (rI0 fun i j=>.int (i-j)):=zvR fun _ _ _ _ _ _ _ q=>sub_int q
def zr8:OpR X (binaryOp .Mult) (rI zvh fun i j=>.int (i*j)):=opI fun _ _ _ _ _ _ _ hc q=>mul_int q hc.ok
theorem zpD:OpR X (binaryOp .FloorDiv) (rI zx1 fun i j=>.int (i / j)):=opI fun i j _ _ _ _ _ hc q=>by
 have h1:(0:Int)<j:=hc.1;have h2:j<1073741824:=hc.2;exact floordiv_int (by omega) (by rw [Int.fdiv_eq_ediv_of_nonneg i (by omega)];exact q) (.inl (PyProof.noPylong_small (by omega)))
theorem zr9:OpR X (binaryOp .Mod) (rI (fun _ j=>0<j) fun i j=>.int (i % j)):=opI fun i j _ _ _ _ _ hc q=>by
 have h1:(0:Int)<j:=hc;exact mod_int' (by omega) (by rw [Int.fmod_eq_emod_of_nonneg i (by omega)];exact q)
def unI{f:Value->Sem Value}{g:Int->Int}
  (rule:∀(i:Int) (t:Tok) (s:Shared) (Q:Z5) (E:Z5),Q (.int (g i) s.toks) { s with toks:=s.toks+1 }->wpAny (model X.prog X.w) X.A (f (.int i t)) Q E s) :
  UnR X f (rU fun i=>.int (g i)):=by
 intro pins s σ H x v Q I rx h;obtain ⟨i,rfl,q⟩:=h;obtain ⟨t,rfl⟩:=rx;exact rule i t s _ _ ⟨.int (g i),H,I.tok _,⟨_,rfl⟩,q⟩
def zqZ:UnR X (unaryOp .USub) (rU fun i=>.int (-i)):=unI fun _ _ _ _ _ q=>neg_int q
end
section
variable{X:Cx}{a b c:Expr}{ta tb tc:TE}{pos:Pos}
def zs1(I:Inv X pins σ H s)(q:Q (.bl k) H)(e:k=k'):EP X pins σ Q (.bool k') s:=by
 subst e;exact ⟨.bl k,H,I,rfl,q⟩
def zuv:OpR X (compareOp .Lt) (rI0 fun i j=>.bl (decide (i<j))):=ztz fun _ _ _ _ _ _ _ q=>lt_int q
def zuw:OpR X (compareOp .LtE) (rI0 fun i j=>.bl (decide (i<=j))):=ztz fun _ _ _ _ _ _ _ q=>le_int q
def zux:OpR X (compareOp .Gt) (rI0 fun i j=>.bl (decide (j<i))):=ztz fun _ _ _ _ _ _ _ q=>gt_int q
def zuy:OpR X (compareOp .GtE) (rI0 fun i j=>.bl (decide (j<=i))):=ztz fun _ _ _ _ _ _ _ q=>ge_int q
def zsb:OpR X (compareOp .Is) (fun x y H Q=>y=.non/\Q (.bl (decide (x=.non))) H):=by
 intro pins s σ H x y v u Q I rx ry h;obtain ⟨rfl,q⟩:=h;cases ry;refine is_none_gen (zs1 I q ?_)
 cases x<;>first
  | (cases rx;rfl)
  | (obtain ⟨t,rfl⟩:=rx;rfl)
def zpw(ho:OpR X (compareOp op) r)(ha:PE X a ta)(hb:PE X b tb)(hm:behindInMarks op b=false):PE X (.Compare a [op] [b] pos) (tOp r ta tb):=by
 intro pins s σ H Q I h;exact wpAny_Compare1 (zu6 ha hb I h fun v u s2 x y H2 I2 rx ry q=>ho pins s2 σ H2 x y v u Q I2 rx ry q) hm
noncomputable def zoA(t:TE):TT:=fun σ H Q=>t σ H fun x H'=>∃k,x=.bl k/\Q k H'
def zpg(ho:OpR X (compareOp op) r)(ha:PE X a ta)(hb:PE X b tb)(hm:behindInMarks op b=false):PT X (.Compare a [op] [b] pos) (zoA (tOp r ta tb)):=by
 intro pins s σ H Q I h
 refine wpAny_isTrue_Compare1 (thn (ha pins s σ H _ I h) fun v s1 ⟨x,H1,I1,r1,q1⟩=>thn (hb pins s1 σ H1 _ I1 q1) fun u s2 ⟨y,H2,I2,r2,q2⟩ =>
  thn (ho pins s2 σ H2 x y v u _ I2 r1 r2 q2) fun c s3 ⟨z,H3,I3,r3,k,e,q3⟩=>?_) hm
 subst e;cases r3;exact yaT ⟨H3,I3,q3⟩
noncomputable def zj4(r r':R2)(ta tb tc:TE):TE:=fun σ H Q=>ta σ H fun x H1=>tb σ H1 fun y H2=>r x y H2 fun z H3=>∃k,z=.bl k ∧
 (if k=true then tc σ H3 fun w' H4=>r' y w' H4 Q else Q (.bl false) H3)
def zmB{op op':CmpOp}{r r':R2}(ho:OpR X (compareOp op) r)(ho':OpR X (compareOp op') r')(ha:PE X a ta)(hb:PE X b tb)(hc:PE X c tc)
  (hm:autoParam (lastMarks [op,op'] [b,c]=false) yAO):PE X (.Compare a [op,op'] [b,c] pos) (zj4 r r' ta tb tc):=by
 intro pins s σ H Q I h
 refine Compare_chain (thn (ha pins s σ H _ I h) fun v s1 ⟨x,H1,I1,r1,q1⟩=>chain_link (thn (hb pins s1 σ H1 _ I1 q1) fun u s2 ⟨y,H2,I2,r2,q2⟩ =>
  thn (ho pins s2 σ H2 x y v u _ I2 r1 r2 q2) fun d s3 ⟨z,H3,I3,r3,k,e,q3⟩=>?_)) hm
 subst e;cases r3;refine yaT ?_
 cases k with
 | false=>exact ite_ff ⟨.bl false,H3,I3,rfl,q3⟩
 | true=>exact ite_tt (chain_last (thn (hc pins s3 σ H3 _ I3 q3) fun w' s4 ⟨z',H4,I4,r4,q4⟩=>ho' pins s4 σ H4 y z' u w' Q I4 r2 r4 q4))
def zmm{op op':CmpOp}{r r':R2}(ho:OpR X (compareOp op) r)(ho':OpR X (compareOp op') r')(ha:PE X a ta)(hb:PE X b tb)(hc:PE X c tc)
  (hm:autoParam (lastMarks [op,op'] [b,c]=false) yAO):PT X (.Compare a [op,op'] [b,c] pos) (zoA (zj4 r r' ta tb tc)):=by
 intro pins s σ H Q I h
 refine isTrue_chain (thn (ha pins s σ H _ I h) fun v s1 ⟨x,H1,I1,r1,q1⟩=>test_link (thn (hb pins s1 σ H1 _ I1 q1) fun u s2 ⟨y,H2,I2,r2,q2⟩ =>
  thn (ho pins s2 σ H2 x y v u _ I2 r1 r2 q2) fun d s3 ⟨z,H3,I3,r3,k,e,q3⟩=>?_)) hm
 subst e;cases r3;refine yaT ?_
 cases k with
 | false =>
  obtain ⟨k',e',q'⟩:=q3;cases e';exact ite_ff ⟨H3,I3,q'⟩
 | true =>
  refine ite_tt (test_last (thn (hc pins s3 σ H3 _ I3 q3) fun w' s4 ⟨z',H4,I4,r4,q4⟩=>thn (ho' pins s4 σ H4 y z' u w' _ I4 r2 r4 q4) fun d' s5 ⟨z2,H5,I5,r5,k2,e2,q5⟩=>?_));subst e2;cases r5;exact yaT ⟨H5,I5,q5⟩
def ziJ:(sizeLine:Nat)<2 ^ 63:=by rw [ycy];decide
def zjq:OpR X (binaryOp .Add) (fun x y H Q=>∃i j,x=.str i/\y=.str j/\i.length+j.length<=sizeLine/\Q (.str (i++j)) H):=by
 intro pins s σ H x y v u Q I rx ry h;obtain ⟨i,j,rfl,rfl,hz,q⟩:=h;obtain ⟨t,rfl⟩:=rx;obtain ⟨t',rfl⟩:=ry;exact add_str (fun t' tk=>⟨.str (i++j),H,I.tok _,⟨_,rfl⟩,q⟩) hz
def zea(r:Vals [x] us):∃u,us=[u]/\zaX x u:=by
 cases r with
 | cons r1 r2=>cases r2;exact ⟨_,rfl,r1⟩
def zhb:zc8 X (.type "int") (fun xs H Q=>(∃i,xs=[.int i]/\Q (.int i) H)\/∃k,xs=[.bl k]/\Q (.int (if k then 1 else 0)) H):=by
 intro pins s σ H xs us Q I r h
 rcases h with ⟨i,rfl,q⟩ | ⟨k,rfl,q⟩
 ·obtain ⟨u,rfl,t,rfl⟩:=zea r;exact call_int_int ⟨.int i,H,I,⟨_,rfl⟩,q⟩
 ·obtain ⟨u,rfl,r1⟩:=zea r;cases r1;exact call_int_bool ⟨.int (if k then 1 else 0),H,I.tok _,⟨_,rfl⟩,q⟩
end
structure ObjM(h:Heap)(x dx C:Addr)(mA:Z6):Prop where
 obj:h.get? x=some (PySem.W.instObj C dx)
 ns:h.Ns1 dx mA
 ne:dx≠x
def zkV{h:Heap}{mA:Z6}(n:h.Ns1 dx mA):∃od,h.get? dx=some od/\∀name,PySem.W.lookIn name od=some (mA name):=by
 obtain ⟨o,es,ep,ho,hd,hk,_,hm⟩:=n;refine ⟨o,ho,fun name=>?_⟩;have e:=hm name;unfold nsFind findBy at e;rw [<-Array.find?_toList] at e;unfold PySem.W.lookIn;rw [hd];dsimp only;split
 ·rename_i y q;rw [q] at e;exact congrArg some e
 ·rename_i q;rw [q] at e
  have a:es.toList.any (·.refKey)=false:=by
   rw [List.any_eq_false];intro y hy;obtain ⟨z,t,hkey⟩:=hk y (ybp.mp hy);simp [DictEntry.refKey,hkey]
  have a':¬ es.toList.any (·.refKey)=true:=by rw [a];exact yaU
  rw [if_neg a'];exact congrArg some e
def ObjM.look(I:ObjM h x dx C mA):∃od,PySem.W.InstAt h x (PySem.W.instObj C dx) C (some od)/\∀name,PySem.W.lookIn name od=some (mA name) :=
 let ⟨od,ho,hl⟩:=zkV I.ns
 ⟨od,⟨I.obj,rfl,rfl,ho⟩,hl⟩
section
variable{prog:Program}{w:World}{A:Around}{E:Z5}{s:Shared}{K:PySem.W.Frag}{x dx C f:Addr}{mA:Z6}{name:Str}{v:Value}
def zqe{expr:Bool}{Q:Z5}(X:K.In s.heap)(I:ObjM s.heap x dx C mA)(hg:PySem.W.plainGet K C name=true)(hh:PySem.W.hasDictIn K C=true)
  (ha:PySem.W.findIn K (.ref C) name=some none) (hv:mA name=some v) (hv':PySem.W.handedIn v=true) (h:Q v { s with toks:=s.toks+1 }) :
  wpAny (model prog w) A (getAttr (.ref x) name expr) Q E s:=by
 obtain ⟨od,J,hl⟩:=I.look;exact PySem.W.get_value X J (ycz hg).1 (PySem.W.findObj_own hh ha rfl (by rw [hl,hv])) hv' h
def zm0(X:K.In s.heap)(I:ObjM s.heap x dx C mA)(hg:PySem.W.plainGet K C name=true)
  (hf:PySem.W.findIn K (.ref C) name=some (some (.ref f))) (ht:PySem.W.isFn K (.ref f)=true) (hv:mA name=none) (h:Q (.ref f,[.ref x]) s) :
  wpAny (model prog w) A (getMethod (.ref x) name pl) Q E s:=by
 obtain ⟨od,J,hl⟩:=I.look;exact PySem.W.method_fn X J (ycz hg).1 (ycz hg).2 hf (ybP.mp ht) (by show (PySem.W.lookIn name od).map (·.isSome)=some false;rw [hl,hv];rfl) h
theorem zoX{ns:List Str}{Q:Unit->Shared->Prop}(X:K.In s.heap)(I:ObjM s.heap x dx C mA)
  (hs:PySem.W.findIn K (.ref C) "__setattr__" = some (some (.builtin "object.__setattr__"))) (hp:PySem.W.plainOver K C=true) (ht:PySem.W.takerIn K C name=some none) (hh:PySem.W.hasDictIn K C=true)
  (hw:PySem.Within mA ns) (hsz:ns.length<=sizeLine)
  (h:∀h',ObjM h' x dx C (fun y=>if y=name then some v else mA y)->Heap.SameBut dx s.heap h'->Q () { s with heap:=h',toks:=s.toks+2 }) :
  wpAny (model prog w) A (setAttr (.ref x) name v) Q E s:=by
 obtain ⟨od,J,hl⟩:=I.look;refine PySem.W.set_plain X J hs (PySem.W.osa_open (s:={ s with toks:=s.toks+1 }) (r:=none) X J hp ht fun b=>?_);obtain ⟨cd,hc,hd'⟩:=PySem.W.any_some hh;have hx:s.heap.get? x=some ⟨.ref C,some dx,.plain,#[]⟩:=I.obj;refine yab (yam (yab (yab (wpAny_loadPart hx (yab (PySem.W.Looks.here (s:={ s with toks:=s.toks+1 }) (PySem.W.looks_clsIn X hc) ?_))))));rw [hd'];refine yam (a:=some dx) (yab (yam (yab ?_)));refine wpAny_nsSet1 (s:={ s with toks:=s.toks+1 }) I.ns fun h' hn2 hs2=>?_
 obtain ⟨oD,esD,epD,hoD,hdD,hcD⟩:=hn2.count (PySem.Within.cons name v hw);refine yab (wpAny_lookBehind hoD (by rw [hdD];exact pastItsLine_dict (yau hcD (by rw [yaf];omega))) ?_);exact yam (h _ ⟨(hs2.2 _ (Ne.symm I.ne)).trans I.obj,hn2,I.ne⟩ hs2)
def zmP{R:Result->Shared->Prop}{vs:List Value}{kw:List (Str×Value)}(X:K.In s.heap)(hm:PySem.W.makesIn K C=true)
  (hi:PySem.W.findIn K (.ref C) "__init__" = some (some (.ref f))) (hf:PySem.W.typeIn K (.ref f)=some (.type "function"))
  (h:codeAny (model prog w) (A.under (.builtin "type.__call__" ⟨.ref C::vs,kw⟩)) (.call (.ref f) ⟨.ref (s.heap.objs.size+1)::vs,kw⟩) (PySem.W.InitBack (s.heap.objs.size+1) R)
   { s with heap:=(s.heap.push PySem.W.emptyDict).push (PySem.W.instObj C s.heap.objs.size) }) :
  codeAny (model prog w) A (.call (.ref C) ⟨vs,kw⟩) R s:=by
 obtain ⟨hh,g,d,t,os⟩:=s;exact PySem.W.make_core (PySem.W.makes_of X hm) (PySem.W.looks_findIn X hi) (fun self=>PySem.W.bind_fn X self hf) (.inl rfl) h
end
noncomputable def zdq(f:Str)(v:V):List (Str×V)->List (Str×V)
 | []=>[(f,v)]
 | (g,x)::r=>if g=f then (g,v)::r else (g,x)::zdq f v r
theorem zes(f g:Str)(v:V):∀fs:List (Str×V),(zdq f v fs).lookup g=if g=f then some v else fs.lookup g
 | []=>by
  show List.lookup g [(f,v)]=_
  by_cases h:g=f
  ·have hb:(g == f)=true:=ybP.mpr h;simp only [List.lookup,hb,if_pos h]
  ·have hb:(g == f)=false:=yaY.mpr h;simp only [List.lookup,hb,if_neg h]
 | (k,x)::r=>by
  have ih:=zes f g v r;rw [show zdq f v ((k,x)::r)=(if k=f then (k,v)::r else (k,x)::zdq f v r) from rfl]
  by_cases hk:k=f
  ·rw [if_pos hk]
   by_cases h:g=k
   ·have hb:(g == k)=true:=ybP.mpr h;simp only [List.lookup,hb,if_pos (h.trans hk)]
   ·have hb:(g == k)=false:=yaY.mpr h;simp only [List.lookup,hb,if_neg (fun e:g=f=>h (e.trans hk.symm))]
  ·rw [if_neg hk]
   by_cases h:g=k
   ·have hb:(g == k)=true:=ybP.mpr h;simp only [List.lookup,hb,if_neg (fun e:g=f=>hk (h.symm.trans e))]
   ·have hb:(g == k)=false:=yaY.mpr h;simp only [List.lookup,hb];exact ih
theorem zeu(f:Str)(v:V):∀fs:List (Str×V),f∈(zdq f v fs).map (·.1)/\∀g,g∈fs.map (·.1)->g∈(zdq f v fs).map (·.1)
 | []=>⟨by simp [zdq],fun g h=>by simp at h⟩
 | (k,x)::r=>by
  obtain ⟨i1,i2⟩:=zeu f v r;rw [show zdq f v ((k,x)::r)=(if k=f then (k,v)::r else (k,x)::zdq f v r) from rfl]
  by_cases hk:k=f
  ·rw [if_pos hk];subst hk;exact ⟨by simp,fun g h=>by simpa using h⟩
  ·rw [if_neg hk];refine ⟨?_,fun g h=>?_⟩
   ·rw [yaz];exact yar _ i1
   ·rw [yaz] at h ⊢
    rcases yav.mp h with e | e
    ·exact yav.mpr (.inl e)
    ·exact yar _ (i2 g e)
theorem zet(f:Str)(v:V):∀fs:List (Str×V),(zdq f v fs).length<=fs.length+1
 | []=>by simp [zdq]
 | (k,x)::r=>by
  have ih:=zet f v r;rw [show zdq f v ((k,x)::r)=(if k=f then (k,v)::r else (k,x)::zdq f v r) from rfl]
  by_cases hk:k=f
  ·rw [if_pos hk,yaf,yaf];omega
  ·rw [if_neg hk,yaf,yaf];omega
def zfA.some_of(r:zfA (some v) o):∃u,o=some u/\zaX v u:=by
 cases o with
 | none=>exact (show False from r).elim
 | some u=>exact ⟨u,rfl,r⟩
def zfA.none_of(r:zfA none o):o=none:=by
 cases o with
 | none=>rfl
 | some u=>exact (show False from r).elim
def zlg(r:zaX v u):PySem.W.handedIn u=true:=by
 cases v with
 | non=>cases (show u=Value.none from r);rfl
 | bl b=>cases (show u=Value.bool b from r);rfl
 | int i=>obtain ⟨t,e⟩:=(show ∃t,u=Value.int i t from r);cases e;rfl
 | str x=>obtain ⟨t,e⟩:=(show ∃t,u=Value.str x t from r);cases e;rfl
 | byt b=>obtain ⟨t,e⟩:=(show ∃t,u=Value.bytes b t from r);cases e;rfl
 | flt b=>obtain ⟨t,e⟩:=(show ∃t,u=Value.float b t from r);cases e;rfl
 | ref a=>cases (show u=Value.ref a from r);rfl
 | ty n=>cases (show u=Value.type n from r);rfl
section
variable{P:Program}{w:World}{H H':Hp}{h h':Heap}{a C dx:Addr}{fs fs':List (Str×V)}
def zfU(hok:HOk P w H h)(e:H a=some (.ins C dx fs)):∃mA,ObjM h a dx C mA/\(∀f,zfA (fs.lookup f) (mA f))/\PySem.Within mA (fs.map (·.1))/\fs.length<=1000/\H dx=some (.own a):=by
 obtain ⟨d,z,ne,ob,mA,n,r,q⟩:=(show zaY P w H h a (.ins C dx fs) from hok a _ e);exact ⟨mA,⟨ob,n,ne⟩,r,q,z,d⟩
end
structure Cls(K:PySem.W.Frag)(C:Addr):Prop where
 pg:PySem.W.plainGet K C Str.empty=true
 hd:PySem.W.hasDictIn K C=true
 po:PySem.W.plainOver K C=true
 sa:PySem.W.findIn K (.ref C) "__setattr__" = some (some (.builtin "object.__setattr__"))
def Cls.get{K:PySem.W.Frag}(c:Cls K C)(f:Str):PySem.W.plainGet K C f=true:=c.pg
noncomputable def zci(K:PySem.W.Frag)(C:Addr)(f:Str):Prop:=PySem.W.findIn K (.ref C) f=some none
def zci.taker{K:PySem.W.Frag}(n:zci K C f):PySem.W.takerIn K C f=some none:=by
 unfold PySem.W.takerIn;rw [show PySem.W.findIn K (.ref C) f=some none from n];rfl
structure Meth(K:PySem.W.Frag)(C:Addr)(m:Str)(f:Addr):Prop where
 at_:PySem.W.findIn K (.ref C) m=some (some (.ref f))
 fn:PySem.W.isFn K (.ref f)=true
 kp:PySem.W.keepIn K (.ref f)=true
section
variable{X:Cx}{pins:Z3}{σ:St}{H:Hp}{s:Shared}{a C dx:Addr}{fs:List (Str×V)}{f:Str}{v:V}{A:Around}{E:Z5}
def zjz(I:Inv X pins σ H s)(e:H a=some (.ins C dx fs))(c:Cls X.K C)(n:zci X.K C f)(l:fs.lookup f=some v)
  (h:∀u s',Inv X pins σ H s'->zaX v u->Q u s'):wpAny (model X.prog X.w) A (getAttr (.ref a) f b) Q E s:=by
 obtain ⟨mA,O,r,_,_,_⟩:=zfU I.hok e;obtain ⟨u,hu,ru⟩:=zfA.some_of (v:=v) (o:=mA f) (by rw [<-l];exact r f);exact zqe I.kIn O (c.get f) c.hd n hu (zlg ru) (h u _ (I.tok _) ru)
def zfm(I:Inv X pins σ H s)(e:H a=some (.ins C dx fs))(c:Cls X.K C)(k:Meth X.K C m g)(l:fs.lookup m=none)
  (h:Q (.ref g,[.ref a]) s):wpAny (model X.prog X.w) A (getMethod (.ref a) m pl) Q E s:=by
 obtain ⟨mA,O,r,_,_,_⟩:=zfU I.hok e;have hn:mA m=none:=zfA.none_of (by rw [<-l];exact r m);exact zm0 I.kIn O (c.get m) k.at_ k.fn hn h
def zjh(I:Inv X pins σ H s)(e:H a=some (.ins C dx fs))(c:Cls X.K C)(n:zci X.K C f)(hl:fs.length<1000)(ry:zaX y u)
  (h:∀s',Inv X pins σ (upd H a (.ins C dx (zdq f y fs))) s'->Q () s'):wpAny (model X.prog X.w) A (setAttr (.ref a) f u) Q E s:=by
 obtain ⟨mA,O,r,wi,_,ho⟩:=zfU I.hok e
 have hz:(fs.map (·.1)).length<=sizeLine:=by rw [yad,ycy];omega
 refine zoX I.kIn O c.sa c.po n.taker c.hd wi hz fun h' O' sb=>h _ ?_
 have hd:∃o,h'.get? dx=some o:=let ⟨o,_,_,e',_⟩:=O'.ns;⟨o,e'⟩
 refine I.write (x:=a) (e:=dx) (by rw [e];exact True.intro) (.inr ho) (fun b q hb z=>(sb.2 b hb).trans z) hd ?_;refine ⟨by rw [zag O.ne];exact ho,?_,O.ne,O'.obj,_,O'.ns,fun g=>?_,fun g hg=>?_⟩
 ·have:=zet f y fs;omega
 ·show zfA ((zdq f y fs).lookup g) (if g=f then some u else mA g);rw [zes]
  by_cases q:g=f
  ·rw [if_pos q,if_pos q];exact ry
  ·rw [if_neg q,if_neg q];exact r g
 ·by_cases q:g=f
  ·rw [q];exact (zeu f y fs).1
  ·refine (zeu f y fs).2 g (wi g fun z=>hg ?_);show (if g=f then some u else mA g)=none;rw [if_neg q];exact z
def Inv.made(I:Inv X pins σ H s):Inv X pins σ (upd (upd H s.heap.objs.size (.own (s.heap.objs.size+1))) (s.heap.objs.size+1) (.ins C s.heap.objs.size []))
  { s with heap:=(s.heap.push PySem.W.emptyDict).push (PySem.W.instObj C s.heap.objs.size) }:=by
 have e1:(s.heap.push PySem.W.emptyDict).get? s.heap.objs.size=some PySem.W.emptyDict:=yaq s.heap rfl
 have e2:((s.heap.push PySem.W.emptyDict).push (PySem.W.instObj C s.heap.objs.size)).get? (s.heap.objs.size+1)=some (PySem.W.instObj C s.heap.objs.size):=by
  have:=yaq (s.heap.push PySem.W.emptyDict) (o:=PySem.W.instObj C s.heap.objs.size) rfl
  rwa [yaW] at this
 have e3:(s.heap.push PySem.W.emptyDict).Ns s.heap.objs.size (fun _=>none):=⟨PySem.W.emptyDict,#[],_,e1,rfl,(fun e he=>absurd he (by simp)),fun _=>rfl⟩;have I1:=I.laid (a:=s.heap.objs.size) (o:=.own (s.heap.objs.size+1)) (h':=s.heap.push PySem.W.emptyDict) (t':=s.toks) (fun b u q=>yae _ q) (yag _) ⟨_,e1⟩;refine I1.laid (a:=s.heap.objs.size+1) (o:=.ins C s.heap.objs.size []) (t':=s.toks) (fun b u q=>yae _ q) (Nat.le_of_eq (yaW _ _)) ?_;have ne:s.heap.objs.size≠s.heap.objs.size+1:=yas (ybV _);refine ⟨by rw [zag ne,zap],yaK _,ne,e2,fun _=>none,(Heap.Ns1.of_empty e3).at fun o q=>yae _ q,fun _=>True.intro,fun y hy=>absurd rfl hy⟩
def zqx(hb:attributeBase e f env (eval e env)=eval e env)
  (h:wpAny (model prog w) A (eval e env) (fun o s₁=>wpAny (model prog w) A (getAttr o f true) Q E s₁) E s):wpAny (model prog w) A (eval (.Attribute e f pos) env) Q E s :=
 Attribute_any_ h (by rw [arm_eval_Attribute,hb])
end
noncomputable def zt0(K:PySem.W.Frag)(ta:TE)(f:Str):TE:=fun σ H Q=>ta σ H fun x H1=>∃a C dx fs v,x=.ref a/\H1 a=some (.ins C dx fs)/\Cls K C/\zci K C f/\fs.lookup f=some v/\Q v H1
noncomputable def zxb(K:PySem.W.Frag)(ta tv:TE)(f:Str):TS:=fun D σ H=>tv σ H fun y H1=>ta σ H1 fun x H2=>∃a C dx fs,x=.ref a/\H2 a=some (.ins C dx fs)/\Cls K C/\zci K C f/\fs.length<1000 ∧
 D.nx σ (upd H2 a (.ins C dx (zdq f y fs)))
section
variable{X:Cx}{o e value:Expr}{f:Str}{pos pos' tpos:Pos}{ta tv:TE}
def zbQ(he:PE X e ta)(hb:attributeBase e f X.env (eval e X.env)=eval e X.env):PE X (.Attribute e f pos) (zt0 X.K ta f):=by
 intro pins s σ H Q I h;refine zqx hb (thn (he pins s σ H _ I h) fun u s1 ⟨x,H1,I1,rx,a,C,dx,fs,v,ex,ea,c,n,l,q⟩=>?_);subst ex;obtain rfl:u=Value.ref a:=rx;exact zjz I1 ea c n l fun u' s2 I2 ru=>⟨v,H1,I2,ru,q⟩
def zgB(ha:PE X o ta)(hv:PE X value tv)(hs:swapsWith value (some (.Attribute o f pos')) pos.line X.env=pure false):PS X (.Assign [.Attribute o f pos'] value pos) (zxb X.K ta tv f):=by
 intro pins s σ H D I h;refine plainObj_wpAny_Assign_Attribute (thn (hv pins s σ H _ I h) fun u s1 ⟨y,H1,I1,ry,q⟩=>thn (ha pins s1 σ H1 _ I1 q) fun ov s2 ⟨x,H2,I2,rx,a,C,dx,fs,ex,ea,c,n,l,q2⟩=>?_) hs;subst ex;obtain rfl:ov=Value.ref a:=rx;exact zjh I2 ea c n l ry fun s3 I3=>⟨σ,_,I3,q2⟩
end
section
variable{X:Cx}{pins:Z3}{σ:St}{H:Hp}{s:Shared}{A:Around}{E:Z5}{Q:Z5}{c:Value}{b:Bool}
inductive TyOf(K:PySem.W.Frag)(H:Hp):V->Value->Prop where
 | non:TyOf K H .non (.type "NoneType")
 | bl (x:Bool):TyOf K H (.bl x) (.type "bool")
 | int (i:Int):TyOf K H (.int i) (.type "int")
 | str (x:Str):TyOf K H (.str x) (.type "str")
 | flt (x:UInt64):TyOf K H (.flt x) (.type "float")
 | lst {a:Addr} {xs:List V} (e:H a=some (.lst xs)):TyOf K H (.ref a) (.type "list")
 | frz {a:Addr} {o:Obj} {xs:List V} (e:H a=some (.frz o (.lst xs))):TyOf K H (.ref a) (.type "list")
 | tup {a:Addr} {xs:List V} (e:H a=some (.tup xs)):TyOf K H (.ref a) (.type "tuple")
 | dK {a:Addr} {kvs:List (Key×V)} (e:H a=some (.dK kvs)):TyOf K H (.ref a) (.type "dict")
 | dT {a:Addr} {kvs:List (List Key×V)} (e:H a=some (.dT kvs)):TyOf K H (.ref a) (.type "dict")
 | ins {a C dx:Addr} {fs:List (Str×V)} (e:H a=some (.ins C dx fs)) (cl:Cls K C) (ha:PySem.W.findIn K (.ref C) "__class__" = some (some (.builtin "object.__class__")))
   (hn:PySem.W.specialIn K (.builtin "object.__class__") "__get__" = some (some (.builtin "getset_descriptor.__get__"))) (htk:PySem.W.takesIn K (.builtin "object.__class__")=some true)
   (hm:PySem.W.mroIn K C (.type "object")=some true):TyOf K H (.ref a) (.ref C)
def zk8{x:V}{u t:Value}(I:Inv X pins σ H s)(rx:zaX x u)(ty:TyOf X.K H x t)(e:PySem.W.kitOne X.K t c=some b)(h:∀tk,Q (.bool b) { s with toks:=tk }) :
  wpAny (model X.prog X.w) A (call (.builtin "isinstance") [u,c]) Q E s:=by
 cases ty with
 | non=>cases (show u=Value.none from rx);exact yaS PySem.W.kitx_none I.kIn True.intro e (fun z=>nomatch z) h
 | bl y=>cases (show u=Value.bool y from rx);exact yaS PySem.W.kitx_bool I.kIn True.intro e (fun z=>nomatch z) h
 | int i=>obtain ⟨t,q⟩:=(show ∃t,u=Value.int i t from rx);cases q;exact yaS PySem.W.kitx_int I.kIn True.intro e (fun z=>nomatch z) h
 | str y=>obtain ⟨t,q⟩:=(show ∃t,u=Value.str y t from rx);cases q;exact yaS PySem.W.kitx_str I.kIn True.intro e (fun z=>nomatch z) h
 | flt y=>obtain ⟨t,q⟩:=(show ∃t,u=Value.float y t from rx);cases q;exact yaS PySem.W.kitx_float I.kIn True.intro e (fun z=>nomatch z) h
 | @lst a xs ea =>
  cases (show u=Value.ref a from rx);obtain ⟨_,_,n,_,h1⟩:=(show zaY X.prog X.w H s.heap a (.lst xs) from I.hok a _ ea);exact yaS PySem.W.kitx_list I.kIn ⟨_,h1,rfl⟩ e (fun z=>nomatch z) h
 | @frz a ob xs ea =>
  cases (show u=Value.ref a from rx);obtain ⟨_,_,_,n,_,h1⟩:=(show zaY X.prog X.w H s.heap a (.frz ob (.lst xs)) from I.hok a _ ea);exact yaS PySem.W.kitx_list I.kIn ⟨_,h1,rfl⟩ e (fun z=>nomatch z) h
 | @tup a xs ea =>
  cases (show u=Value.ref a from rx);obtain ⟨_,_,_,p⟩:=(show zaY X.prog X.w H s.heap a (.tup xs) from I.hok a _ ea);obtain ⟨o,h1,h2,_⟩:=p;exact yaS PySem.W.kitx_tuple I.kIn ⟨o,h1,h2⟩ e (fun z=>nomatch z) h
 | @dK a kvs ea =>
  cases (show u=Value.ref a from rx);obtain ⟨_,_,vs,_,p⟩:=(show zaY X.prog X.w H s.heap a (.dK kvs) from I.hok a _ ea);obtain ⟨o,es,ep,h1,h2,_⟩:=p;exact yaS PySem.W.kitx_dict I.kIn ⟨o,h1,h2.1⟩ e (fun z=>nomatch z) h
 | @dT a kvs ea =>
  cases (show u=Value.ref a from rx);obtain ⟨_,_,xs,_,o,es,ep,h1,h2,_⟩:=(show zaY X.prog X.w H s.heap a (.dT kvs) from I.hok a _ ea);exact yaS PySem.W.kitx_dict I.kIn ⟨o,h1,h2.1⟩ e (fun z=>nomatch z) h
 | @ins a C dx fs ea cl ha hn htk hm =>
  cases (show u=Value.ref a from rx);obtain ⟨mA,O,_⟩:=zfU I.hok ea;obtain ⟨od,J,_⟩:=O.look;exact yaS (PySem.W.kitx_own (cl.get _) cl.hd ha hn htk hm) I.kIn J e (fun z=>nomatch z) h
end
structure Room(k:Nat)(A:Around):Prop where
 hd:A.handled=none
 dp:A.depth+3*k+5<recursionLimit
 un:A.units+16*k+200<cLine
theorem Room.mono(r:Room k A)(h:j<=k):Room j A:=⟨r.hd,by have:=r.dp;omega,by have:=r.un;omega⟩
theorem Room.deeper(r:Room (k+1) A)(env:Env):Room k (A.deeper env) :=
 ⟨r.hd,by have:=r.dp;show A.depth+1+3*k+5<_;omega,by have:=r.un;show A.units+3+16*k+200<_;omega⟩
def zjt{A:Around}:(A.under (.builtin "type.__call__" ⟨.ref C::us,kw⟩)).depth=A.depth+1:=by
 first | rfl | simp [Around.under,Code.weight,Code.isCreation,Code.isGuard,Code.isCaller,Code.frames,Code.isFrame,guardIds]
def zjs{A:Around}:(A.under (.builtin "type.__call__" ⟨.ref C::us,kw⟩)).units=A.units+1:=by
 first | rfl | simp [Around.under,Code.cUnits,Code.frames,Code.isFrame]
theorem Room.make(r:Room (k+1) A)(C:Addr)(us:List Value)(kw:List (Str×Value)):Room k (A.under (.builtin "type.__call__" ⟨.ref C::us,kw⟩)) :=
 ⟨r.hd,by have:=r.dp;rw [zjt];omega,by have:=r.un;rw [zjs];omega⟩
theorem Room.depth(r:Room k A):A.depth<recursionLimit:=by have:=r.dp;omega
theorem Room.units(r:Room k A):A.units+64<cLine:=by have:=r.un;omega
noncomputable def zty:TA:=fun _ H Q=>Q [] H
noncomputable def zoD(ta:TE)(tr:TA):TA:=fun σ H Q=>ta σ H fun x H1=>tr σ H1 fun xs H2=>Q (x::xs) H2
section
variable{X:Cx}{e:Expr}{es:List Expr}{te:TE}{t:TA}{pos:Pos}
def zbG:PA X [] zty:=fun _ _ _ _ H Q I h=>ycL ⟨[],H,I,.nil,h⟩
def zaU(ha:PE X e te)(hr:PA X es t)(hs:autoParam (starEach (e::es) X.env=(false,eval e X.env)::starEach es X.env) yAW):PA X (e::es) (zoD te t):=by
 intro pos pins s σ H Q I h;rw [hs];show wpAny _ _ (spliced ((false,eval e X.env)::backTo pos (starEach es X.env))) _ _ s;refine yb5 (thn (ha pins s σ H _ I h) fun u s1 ⟨x,H1,I1,r1,q1⟩=>?_);exact thn (hr pos pins s1 σ H1 _ I1 q1) fun us s2 ⟨xs,H2,I2,r2,q2⟩=>⟨x::xs,H2,I2,.cons r1 r2,q2⟩
noncomputable def zw2(t:TA):TE:=fun σ H Q=>t σ H fun xs H1=>xs.length<=sizeLine/\∀p,H1 p=none->Q (.ref p) (upd H1 p (.tup xs))
noncomputable def zw5(t:TA):TE:=fun σ H Q=>t σ H fun xs H1=>xs.length<=sizeLine/\∀p,H1 p=none->Q (.ref p) (upd H1 p (.lst xs))
def znR{x1}(h:PA X es t):PE X (.Tuple es x1 pos) (zw2 t):=by
 intro pins s σ H Q I hq;refine wpAny_Tuple_spliced (thn (h pos pins s σ H _ I hq) fun us s1 ⟨xs,H1,I1,r,z,q⟩=>⟨by rw [<-r.length];exact z,?_⟩);have hf:H1 s1.heap.objs.size=none:=I1.hok.fresh (yag _);refine ⟨.ref s1.heap.objs.size,upd H1 s1.heap.objs.size (.tup xs),I1.laid (t':=s1.toks) (fun b u e=>yae _ e) (yag _) ?_,rfl,q _ hf⟩;exact ⟨z,us,r,⟨_,yaq _ rfl,rfl,_,rfl,rfl⟩⟩
def znT(h:PA X es t):PE X (.List es pos) (zw5 t):=by
 intro pins s σ H Q I hq;refine wpAny_List_spliced (thn (h pos pins s σ H _ I hq) fun us s1 ⟨xs,H1,I1,r,z,q⟩=>⟨by rw [<-r.length];exact z,?_⟩);have hf:H1 s1.heap.objs.size=none:=I1.hok.fresh (yag _);refine ⟨.ref s1.heap.objs.size,upd H1 s1.heap.objs.size (.lst xs),I1.laid (t':=s1.toks) (fun b u e=>yae _ e) (yag _) ?_,rfl,q _ hf⟩;exact ⟨z,us,0,r,yaq _ rfl⟩
end
noncomputable abbrev Sp:=List V->Hp->VK->XK->Prop
noncomputable abbrev CXT:=List Env->Hp->Shared->XK->Value->Shared->Prop
structure Env0(P:Program)(w:World)(K:PySem.W.Frag)(mg:Z6)(base:Heap)(A:Around)(outer:List Env)(s:Shared)(H:Hp):Prop where
 frames:A.frames=some outer
 mod:Mod K mg base
 bs:∀b o,base.get? b=some o->s.heap.get? b=some o/\H b=none
 bsz:base.objs.size<=s.heap.objs.size
 funs:s.heap.FunFrames base outer
 frf:∀b∈frs outer,H b=none
 hok:HOk P w H s.heap
 bare:AllBare s.gens
noncomputable def CE(outer:List Env)(P:Program)(w:World)(H:Hp)(s:Shared)(Q:VK)(u:Value)(s':Shared):Prop :=
 ∃v H',s'.os=s.os/\AllBare s'.gens/\Un (frs outer) [] H H' s.heap s'.heap/\HOk P w H' s'.heap/\zaX v u/\Q v H'
noncomputable def CR(CX:CXT)(outer:List Env)(P:Program)(w:World)(H:Hp)(s:Shared)(Q:VK)(E:XK)(r:Result)(s':Shared):Prop :=
 match r with
 | .ok (.ret u)=>CE outer P w H s Q u s'
 | .ok _=>False
 | .error e=>CX outer H s E e s'
structure FnOk(P:Program)(w:World)(K:PySem.W.Frag)(mg:Z6)(base:Heap)(CX:CXT)(k:Nat)(f:Addr)(fd:FuncData)(ps:List Str)(sp:Sp):Prop where
 len:∀vs H Q E,sp vs H Q E->vs.length=ps.length
 run:∀(A:Around) (outer:List Env) (s:Shared) (H:Hp) (args:Args) (us:List Value) (vs:List V) (Q:VK) (E:XK),Room k A->Env0 P w K mg base A outer s H->BindsTo s fd args (ps.zip us)->Vals vs us->sp vs H Q E →
  codeAny (model P w) A (.call (.ref f) args) (CR CX outer P w H s Q E) s
theorem FnOk.mono{P:Program}{K:PySem.W.Frag}{j k:Nat}(F:FnOk P w K mg base CX j f fd ps sp)(h:j<=k) :
  FnOk P w K mg base CX k f fd ps sp:=⟨F.len,fun A outer s H args us vs Q E hr=>F.run A outer s H args us vs Q E (hr.mono h)⟩
def FnOk.imp{P:Program}{K:PySem.W.Frag}{k:Nat}(F:FnOk P w K mg base CX k f fd ps sp)
  (h:∀vs H Q E,sp' vs H Q E->sp vs H Q E):FnOk P w K mg base CX k f fd ps sp' :=
 ⟨fun vs H Q E q=>F.len vs H Q E (h _ _ _ _ q),fun A outer s H args us vs Q E hr he hb hv hs=>F.run A outer s H args us vs Q E hr he hb hv (h _ _ _ _ hs)⟩
def Env0.make{P:Program}{K:PySem.W.Frag}{A:Around}(e:Env0 P w K mg base A outer s H)(C:Addr)(us:List Value)(kw:List (Str×Value)) :
  Env0 P w K mg base (A.under (.builtin "type.__call__" ⟨.ref C::us,kw⟩)) outer s H:=⟨by first | exact e.frames | (simpa [Around.under,Code.envs,Code.isFrame,pushEnvs] using e.frames),e.mod,e.bs,e.bsz,e.funs,e.frf,e.hok,e.bare⟩
section
variable{X:Cx}{pins:Z3}{σ:St}{H:Hp}{s s':Shared}
def Inv.env0(I:Inv X pins σ H s):Env0 X.prog X.w X.K X.mg X.base X.A X.stack s H :=
 ⟨I.ok.frames,I.ok.mod,I.bs,yau I.ok.bsz I.sz,I.stack,I.stkFree,I.hok,I.bare⟩
def Inv.after(I:Inv X pins σ H s)(h:CE X.stack X.prog X.w H s Q u s'):EP X pins σ Q u s':=by
 obtain ⟨v,H',os,bare,un,hok,r,q⟩:=h;obtain ⟨hh,g,d,t,os'⟩:=s';obtain rfl:os'=s.os:=os;exact ⟨v,H',I.call (h':=hh) (g':=g) (d':=d) (t':=t) (ch:=[]) un hok bare (fun b z=>absurd z (by simp)),r,q⟩
end
noncomputable def zcM(K:PySem.W.Frag)(fd:FuncData)(ps:List Str)(ds:List Value):Prop :=
 ∀(s:Shared) (us:List Value),K.In s.heap->(us++ds).length=ps.length->BindsTo s fd ⟨us,[]⟩ (ps.zip (us++ds))
def zcM.all{K:PySem.W.Frag}{ps:List Str}(h:∀us:List Value,us.length=ps.length->bindArgs fd ⟨us,[]⟩=pure (ps.zip us)):zcM K fd ps []:=fun s us _ hl=>by
 rw [yaQ] at hl ⊢;exact .of_eq (h us hl)
noncomputable def zol(CX:CXT)(X:Cx)(E:XK):Prop:=∀(pins:Z3) (σ:St) (H:Hp) (s:Shared) (e:Value) (s':Shared),Inv X pins σ H s->CX X.stack H s E e s'->X.xe e s'
section
variable{X:Cx}{CX:CXT}{k:Nat}{f C:Addr}{fd:FuncData}{ps:List Str}{sp:Sp}{dvs:List V}{ds:List Value}{E:XK}{x m:Str}{p pos apos:Pos}{e o:Expr}{es:List Expr}{ta:TE}{t:TA}
structure Mk(K:PySem.W.Frag)(C f:Addr):Prop where
 makes:PySem.W.makesIn K C=true
 init:PySem.W.findIn K (.ref C) "__init__" = some (some (.ref f))
 fn:PySem.W.isFn K (.ref f)=true
 kp:PySem.W.keepIn K (.ref C)=true
end
structure FnScope(N P:List Str)(sc:Scope):Prop where
 kind:sc.kind=.function
 co:sc.isCoroutine=false
 gen:sc.isGenerator=false
 nd:N.Nodup
 pre:N.take P.length=P
 par:∀x∈P,sc.names.lookup x=some .local\/sc.names.lookup x=some .cell
 nofree:∀y∈sc.names,y.2≠.free
theorem zhf{kindOf:Str->Option NameKind}:∀{binds:List (Str×Value)} {m:Z6},(∀v,(x,v) ∉ binds)->bindL kindOf binds m x=m x
 | [],_,_=>rfl
 | (n,v)::r,m,h=>by
  unfold bindL;rw [zhf fun w hw=>h w (yar _ hw)];split
  ·have:x≠n:=by rintro rfl;exact h v yaw
   simp [this]
  ·rfl
theorem zhh{kindOf:Str->Option NameKind}:∀{binds:List (Str×Value)} {m:Z6},(∀v,(x,v) ∉ binds)->bindC kindOf binds m x=m x
 | [],_,_=>rfl
 | (n,v)::r,m,h=>by
  unfold bindC;rw [zhh fun w hw=>h w (yar _ hw)];split
  ·rfl
  ·have:x≠n:=by rintro rfl;exact h v yaw
   simp [this]
theorem zhg{kindOf:Str->Option NameKind}:∀{P:List Str} {vs:List Value} {i:Nat} {m:Z6},P.Nodup->P[i]?=some x->vs[i]?=some v->kindOf x=some .local →
  bindL kindOf (P.zip vs) m x=some v
 | [],_,_,_,_,h,_,_=>by simp at h
 | _::_,[],_,_,_,_,h,_=>by simp at h
 | p::P,w::vs,0,m,nd,h1,h2,hk=>by
  simp at h1 h2;subst h1;subst h2;show bindL kindOf ((p,w)::P.zip vs) m p=_;unfold bindL;rw [zhf fun v hv=>(ya6.mp nd).1 (ya7 hv).1,if_pos hk];simp
 | p::P,w::vs,i+1,m,nd,h1,h2,hk=>by
  show bindL kindOf ((p,w)::P.zip vs) m x=_;unfold bindL;exact zhg (i:=i) (ya6.mp nd).2 (by simpa using h1) (by simpa using h2) hk
theorem zhi{kindOf:Str->Option NameKind}:∀{P:List Str} {vs:List Value} {i:Nat} {m:Z6},P.Nodup->P[i]?=some x->vs[i]?=some v->kindOf x≠some .local →
  bindC kindOf (P.zip vs) m x=some v
 | [],_,_,_,_,h,_,_=>by simp at h
 | _::_,[],_,_,_,_,h,_=>by simp at h
 | p::P,w::vs,0,m,nd,h1,h2,hk=>by
  simp at h1 h2;subst h1;subst h2;show bindC kindOf ((p,w)::P.zip vs) m p=_;unfold bindC;rw [zhh fun v hv=>(ya6.mp nd).1 (ya7 hv).1,if_neg hk];simp
 | p::P,w::vs,i+1,m,nd,h1,h2,hk=>by
  show bindC kindOf ((p,w)::P.zip vs) m x=_;unfold bindC;exact zhi (i:=i) (ya6.mp nd).2 (by simpa using h1) (by simpa using h2) hk
noncomputable def zcN(N:List Str)(vs:List V):St:=vs.map some++List.replicate (N.length-vs.length) none
noncomputable def zg5(CX:CXT)(P:Program)(w:World)(K:PySem.W.Frag)(mg:Z6)(base:Heap)(N:List Str)(qual:Str)(scope:Scope)(f:Addr)(cd:Value)(A:Around)(outer:List Env)(s:Shared)(H:Hp)(E:XK):Cx where
 prog:=P
 w:=w
 K:=K
 mg:=mg
 base:=base
 A:=A.deeper (envOfC qual scope s.heap.objs.size f cd)
 N:=N
 s₀:=s
 H₀:=H
 env:=envOfC qual scope s.heap.objs.size f cd
 outer:=outer
 stack:=envOfC qual scope s.heap.objs.size f cd::outer
 ex:=[]
 calm:=true
 fn:=fun _=>true
 pn:=[]
 xe:=fun e s'=>wpAny (model P w) (A.deeper (envOfC qual scope s.heap.objs.size f cd)) (leaving (envOfC qual scope s.heap.objs.size f cd) e) (fun _ s''=>CX outer H s E e s'') (fun e' s''=>CX outer H s E e' s'') s'
def zi2{sc:Scope}(h:sc.names.lookup x=some .cell):∃c,(cellsFrom n sc.names []).lookup x=some c:=by
 have q:=ybC sc.names n [] (.inl h);exact Option.isSome_iff_exists.mp q
theorem zey{P:Program}{K:PySem.W.Frag}{N ps:List Str}{scope:Scope}{A:Around}{s s1:Shared}{vs:List V}
  (S:FnScope N ps scope) (hd:A.handled=none) (e0:Env0 P w K mg base A outer s H) (hl:vs.length=ps.length) (r:Vals vs us)
  (x:InCallC s s.heap.objs.size (bindL (envOfC qual scope s.heap.objs.size f cd).kindOf (ps.zip us) fun _=>none) (cellsFrom (s.heap.objs.size+1) scope.names []) (bindC (envOfC qual scope s.heap.objs.size f cd).kindOf (ps.zip us) fun _=>none) s1) :
  Inv (zg5 CX P w K mg base N qual scope f cd A outer s H E) [] (zcN N vs) H s1:=by
 have hpl:ps.length<=N.length:=by have:=congrArg List.length S.pre;rw [ybh] at this;omega
 obtain ⟨h1,tk,rfl,hk⟩:=x.done;have noA:∀b:Addr,b ∉ (zg5 CX P w K mg base N qual scope f cd A outer s H E).ex:=fun b z=>absurd (show b∈([]:List Addr) from z) (by simp)
 refine ⟨⟨e0.mod,S.kind,rfl,rfl,yag _,fun y z c h1 h2=>?_,fun y hy=>?_,fun y c _ h=>?_,fun _=>hd,Around.frames_deeper e0.frames,.inr ⟨rfl,rfl⟩,fun b z=>absurd z (noA b),e0.bs,e0.bsz,fun b _ _=>noA b,fun b z=>absurd z (noA b),e0.funs,e0.frf⟩,
  rfl,e0.bare,Un.kept hk,⟨_,x.toInCall.ns,fun i y v h1 h2 h3=>?_⟩,fun y c h=>⟨_,x.cell y c h⟩,e0.hok.fresh (yag _),fun y c h=>?_,fun p hp=>absurd (show p∈([]:Z3) from hp) (by simp),e0.hok.kept hk,?_⟩
 ·exact name_of_addr x.apart (yaA h1) (yaA h2)
 ·have hy:scope.names.lookup y=some .cell\/scope.names.lookup y=some .free:=hy
  rcases hy with hy | hy
  ·exact zi2 hy
  ·exact absurd rfl (S.nofree _ (yaA hy))
 ·exact yck (x.above y c (yaA h))
 ·have hi:i<vs.length:=by
   unfold zcN at h2
   by_cases hi:i<vs.length
   ·exact hi
   ·rw [yay (by simpa using hi)] at h2;rw [yba] at h2
    split at h2<;>cases h2
  have ha:vs[i]?=some v:=by
   unfold zcN at h2;rw [yat (by simpa using hi),yao] at h2
   cases e:vs[i]? with
   | none=>rw [e] at h2;cases h2
   | some a=>rw [e] at h2;cases h2;rfl
  obtain ⟨u,hu,rv⟩:=r.get ha
  have hp:ps[i]?=some y:=by
   rw [<-S.pre,yaZ (by omega)];exact h1
  have ndP:ps.Nodup:=by rw [<-S.pre];exact S.nd.sublist (List.take_sublist _ _)
  refine ⟨u,rv,?_⟩
  rcases S.par y (ya8 hp) with k | k
  ·exact .inl ⟨k,zhg ndP hp hu k⟩
  ·obtain ⟨c,e⟩:=zi2 (n:=s.heap.objs.size+1) k;refine .inr ⟨.inl k,c,e,?_⟩;have q:=x.cell y c e;rw [zhi ndP hp hu (by show scope.names.lookup y≠_;rw [k];decide)] at q;exact q
 ·exact e0.hok.fresh (yck (x.above y c (yaA h)))
 ·unfold zcN;show _=N.length;rw [yan,yad,yaI];omega
def zsV{CX:CXT}{P:Program}{w:World}{K:PySem.W.Frag}{mg:Z6}{base:Heap}{k:Nat}{f:Addr}{name qual:Str}{params:Arguments}{body:List Stmt}{scope:Scope}{dV kV doc pm cdv ct oc:Value}{an od:Option Addr}
  {osl:Array (Option Value)} {N ps:List Str} {sp:Sp} (lk:K.lookup f=some ⟨oc,od,.func (PySem.W.fnOf name qual params body scope dV kV doc pm an cdv ct),osl⟩) (hcd:PySem.W.codeIn K cdv qual=true) (S:FnScope N ps scope)
  (len:∀vs H Q E,sp vs H Q E->vs.length=ps.length)
  (hbody:∀(A:Around) (outer:List Env) (s:Shared) (H:Hp) (vs:List V) (Q:VK) (E:XK),Room k (A.deeper (envOfC qual scope s.heap.objs.size f cdv))->sp vs H Q E →
   ∃t,PSs (zg5 CX P w K mg base N qual scope f cdv A outer s H E) body t/\t { nx:=fun _ H'=>Q .non H',rt:=Q } (zcN N vs) H) :
  FnOk P w K mg base CX (k+1) f (PySem.W.fnOf name qual params body scope dV kV doc pm an cdv ct) ps sp:=by
 refine ⟨len,fun A outer s H args us vs Q E hr e0 hb r hsp=>?_⟩;have hl:=len _ _ _ _ hsp;have KX:K.In s.heap:=e0.mod.kin.keeps fun b o e=>(e0.bs b o e).1
 have lim:s.heap.NoLimit:=e0.mod.nolimit.keeps fun b o e=>(e0.bs b o e).1
 have hkind:∀y∈ps.zip us,scope.names.lookup y.1=some .local\/(scope.names.lookup y.1=some .cell/\((cellsFrom (s.heap.objs.size+1) scope.names []).lookup y.1).isSome=true):=fun ⟨n,v⟩ hy=>by
  rcases S.par n (ya7 hy).1 with q | q
  ·exact .inl q
  ·exact .inr ⟨q,ybC _ _ _ (.inl q)⟩
 refine ycl hr.depth (KX _ _ lk) rfl S.co S.gen rfl (ycH KX hcd) (hb _ _ _ _ ?_);refine ybR S.kind hkind fun env he s1 x=>?_
 subst he;refine ⟨lim.keeps x.toInCall.keep,codeAny_func ?_⟩;obtain ⟨t,ht,hq⟩:=hbody A outer s H vs Q E (hr.deeper _) hsp;have I:Inv (zg5 CX P w K mg base N qual scope f cdv A outer s H E) [] (zcN N vs) H s1:=zey S hr.hd e0 hl r x;refine yaR (ht [] s1 (zcN N vs) H _ I hq) (fun fl s' hs=>?_) fun e s' hs=>hs
 have fin:∀{σ':St} {H':Hp} {v:V} {u:Value},Inv (zg5 CX P w K mg base N qual scope f cdv A outer s H E) [] σ' H' s'->zaX v u->Q v H'->CE outer P w H s Q u s' :=
  fun {σ' H' v u} J rv q=>⟨v,H',J.os,J.bare,J.base,J.hok,rv,q⟩
 cases fl with
 | ret u =>
  obtain ⟨v,σ',H',J,rv,q⟩:=hs;exact fin J rv q
 | next =>
  obtain ⟨σ',H',J,q⟩:=hs;exact fin (v:=V.non) (u:=Value.none) J rfl q
 | brk =>
  obtain ⟨_,_,_,q⟩:=hs;exact False.elim q
 | cont =>
  obtain ⟨_,_,_,q⟩:=hs;exact False.elim q
section
variable{X:Cx}{x:Str}{p pos:Pos}{e:Expr}{es:List Expr}{t:TA}{id T:String}{r:List V->Hp->VK->Prop}
noncomputable def tCB(r:List V->Hp->VK->Prop)(t:TA):TE:=fun σ H Q=>t σ H fun vs H1=>r vs H1 Q
def zde(hc:zc8 X (.builtin id) r)(hg:Gl X x)(hm:X.mg x=none)(hv:bootBuiltins x=some (.builtin id))(ha:PA X (e::es) t)(hn:autoParam (x ≠ "__name__") yAR)(hdb:autoParam ((x == ("__debug__":Str))=false) yAR)
  (he:autoParam (starEach (e::es) X.env=(false,eval e X.env)::starEach es X.env) yAW) (hpl:autoParam ((backTo pos (starEach es X.env)).any (·.1)=false) yAW):PE X (.Call (.Name x p) (e::es) [] pos) (tCB r t):=by
 intro pins s σ H Q I h;refine ya0 (zgM I hg hm hv ?_ hn hdb);exact PyProof.Rows.callWith_builtin1 (thn (ha pos pins s σ H _ I h) fun us s1 ⟨vs,H1,I1,r1,q1⟩=>hc pins s1 σ H1 vs us Q I1 r1 q1) he hpl
def zcT(hc:zc8 X (.type T) r)(hg:Gl X x)(hm:X.mg x=none)(hv:bootBuiltins x=some (.type T))(ha:PA X (e::es) t)(hn:autoParam (x ≠ "__name__") yAR)(hdb:autoParam ((x == ("__debug__":Str))=false) yAR)
  (he:autoParam (starEach (e::es) X.env=(false,eval e X.env)::starEach es X.env) yAW) (hpl:autoParam ((backTo pos (starEach es X.env)).any (·.1)=false) yAW):PE X (.Call (.Name x p) (e::es) [] pos) (tCB r t):=by
 intro pins s σ H Q I h;refine ya0 (zgM I hg hm hv ?_ hn hdb);exact ybJ (thn (ha pos pins s σ H _ I h) fun us s1 ⟨vs,H1,I1,r1,q1⟩=>hc pins s1 σ H1 vs us Q I1 r1 q1) he hpl
end
end L2
namespace HT
open PySem PyProof.Rows
section
open PySem.SeqAt
open PySem.AutoSeq1 (wpAny_loadPart')
open PySem.MeetsSeq PySem.MeetsSeq2 PySem.MeetsSeq3
end
section
variable{prog:Program}{w:World}{A:Around}{E:Z5}{s:Shared}
def zqt{t b:Addr}{vs ws:List Value}{Q:Z5}(ht:IsTup s.heap t vs.toArray)(hb:IsTup s.heap b ws.toArray)(hv:vs≠[])
  (h1:ws=[]->Q (.ref t) s) (h2:ws≠[]->Q (.ref s.heap.objs.size) { s with heap:=s.heap.push { cls:=.type "tuple",data:=.seq (vs++ws).toArray } })
  (hsz:vs.length+ws.length<=sizeLine):wpAny (model prog w) A (binaryOp .Add (.ref t) (.ref b)) Q E s:=by
 obtain ⟨⟨cls,dd,data,sl⟩,ho,hc,n,hd⟩:=id ht;obtain ⟨⟨cls2,dd2,data2,sl2⟩,ho2,hc2,n2,hd2⟩:=id hb;simp only at hc hd hc2 hd2;subst hc hd hc2 hd2
 have e:vs.toArray++ws.toArray=(vs++ws).toArray:=by simp
 by_cases hw:ws=[]
 ·exact concat_meets ⟨_,ho,rfl⟩ ⟨_,ho2,rfl⟩ noFill_tuple_add seq_tuple_add yce yb6 (ybZ _ _)
   (tuple_addW1 t b vs.toArray ws.toArray n n2 dd dd2 sl sl2 (by simpa using hv) (by simp [hw])) ⟨ho,ho2,h1 hw⟩
 ·refine concat_meets ⟨_,ho,rfl⟩ ⟨_,ho2,rfl⟩ noFill_tuple_add seq_tuple_add yce yb6 (ybZ _ _)
   (tuple_addW2 t b vs.toArray ws.toArray n n2 dd dd2 sl sl2 (by simpa using hv) (by simpa using hw) (by rw [yak,yak];exact hsz)) ⟨ho,ho2,?_⟩
  rw [e];exact h2 hw
end
end HT
namespace L2
open PySem PySem.Spec PyProof.Rows
noncomputable abbrev TO:=St->Hp->(Option Int->Hp->Prop)->Prop
section
variable{X:Cx}{e:Expr}{te:TE}{lo hi:Option Expr}{tl th:TO}{pos p2:Pos}
noncomputable def zui(K:PySem.W.Frag):R2:=fun x y H Q=>∃a b xs ys,x=.ref a/\y=.ref b/\SqT K H a xs/\SqT K H b ys/\xs≠[]/\xs.length+ys.length<=sizeLine ∧
 (ys=[]->Q (.ref a) H)/\(ys≠[]->∀p,H p=none->Q (.ref p) (upd H p (.tup (xs++ys))))
def Vals.nil_iff(r:Vals xs us):us=[]↔xs=[]:=by
 cases r with
 | nil=>simp
 | cons _ _=>simp
def zpE:OpR X (binaryOp .Add) (zui X.K):=by
 intro pins s σ H x y v u Q I rx ry h;obtain ⟨a,b,xs,ys,rfl,rfl,ha,hb,hx,hz,q1,q2⟩:=h;cases rx;cases ry;obtain ⟨its,r1,p1,_⟩:=I.tuple ha;obtain ⟨its2,r2,p2,_⟩:=I.tuple hb;refine HT.zqt p1 p2 (fun z=>hx (r1.nil_iff.mp z)) (fun z=>⟨.ref a,H,I,rfl,q1 (r2.nil_iff.mp z)⟩) (fun z=>?_) (by rw [<-r1.length,<-r2.length];exact hz);refine ⟨.ref s.heap.objs.size,_,I.laid (t':=s.toks) (o:=.tup (xs++ys)) (fun b ob q=>yae _ q) (yag _) ?_,rfl,q2 (fun w=>z (r2.nil_iff.mpr w)) _ (I.hok.fresh (yag _))⟩;exact ⟨by rw [yan];exact hz,_,r1.append r2,zqI.new _ _⟩
end
noncomputable def ixN(n:Nat)(i:Int):Option Nat:=if 0<=i then (if i<n then some i.toNat else none) else if -(n:Int)<=i then some (i+n).toNat else none
def atI{α:Type}(xs:List α)(i:Int):Option α:=(ixN xs.length i).bind fun j=>xs[j]?
theorem zp4(h:ixN n i=some j):seqIndex? i n=some j/\j<n/\-(n:Int)<=i/\i<n:=by
 unfold ixN at h
 by_cases h0:0<=i
 ·rw [if_pos h0] at h
  by_cases h1:i<n
  ·rw [if_pos h1] at h;have e:i.toNat=j:=Option.some.inj h;exact ⟨by rw [seqIndex_of h0 h1,e],by omega,by omega,h1⟩
  ·rw [if_neg h1] at h;cases h
 ·rw [if_neg h0] at h
  by_cases h1:-(n:Int)<=i
  ·rw [if_pos h1] at h;have e:(i+n).toNat=j:=Option.some.inj h;exact ⟨by rw [seqIndex_neg (by omega) h1,e],by omega,h1,by omega⟩
  ·rw [if_neg h1] at h;cases h
def zlL{α:Type}{xs:List α}{v:α}(h:atI xs i=some v):∃j,seqIndex? i xs.length=some j/\xs[j]?=some v/\j<xs.length/\-(xs.length:Int)<=i/\i<xs.length:=by
 unfold atI at h
 cases e:ixN xs.length i with
 | none=>rw [e] at h;cases h
 | some j =>
  rw [e] at h;obtain ⟨h1,h2,h3,h4⟩:=zp4 e;exact ⟨j,h1,h,h2,h3,h4⟩
noncomputable def zh6(b:Expr):Prop:=∀o i,subscripted b false o i=operate [o,i] (getItem o i)
noncomputable def IxR(X:Cx)(r:R2):Prop :=
 ∀(value slice:Expr) (pins:Z3) (s:Shared) (σ:St) (H:Hp) (x y:V) (v u:Value) (Q:VK),Inv X pins σ H s->zaX x v->zaX y u->r x y H Q →
  subscripted slice false v u=operate [v,u] (getItem v u)->wpAny (model X.prog X.w) X.A (subscriptTail value slice v u) (EP X pins σ Q) X.xe s
noncomputable def MtR(X:Cx)(id:String)(r:V->List V->Hp->VK->Prop):Prop :=
 ∀(pins:Z3) (s:Shared) (σ:St) (H:Hp) (x:V) (xs:List V) (v:Value) (us:List Value) (Q:VK),Inv X pins σ H s->zaX x v->Vals xs us->r x xs H Q →
  wpAny (model X.prog X.w) X.A (call (.builtin id) (v::us)) (EP X pins σ Q) X.xe s
section
variable{X:Cx}{a b:Expr}{ta tb:TE}{pos:Pos}
def zuo(hr:IxR X r)(ha:PE X a ta)(hb:PE X b tb)(hs:zh6 b):PE X (.Subscript a b pos) (tOp r ta tb):=by
 intro pins s σ H Q I h;exact Subscript_ (zu6 ha hb I h fun v u s2 x y H2 I2 rx ry q=>hr a b pins s2 σ H2 x y v u Q I2 rx ry q (hs _ _))
noncomputable def zxf(K:PySem.W.Frag):R2:=fun x y H Q=>∃p xs i v,x=.ref p/\y=.int i/\SqL K H p xs/\atI xs i=some v/\Q v H
noncomputable def zxe(K:PySem.W.Frag):R2:=fun x y H Q=>∃p xs i v,x=.ref p/\y=.int i/\SqT K H p xs/\atI xs i=some v/\Q v H
theorem zk5:IxR X (zxf X.K):=by
 intro value slice pins s σ H x y v u Q I rx ry h hs;obtain ⟨p,xs,i,z,rfl,rfl,hq,he,q⟩:=h;cases rx;obtain ⟨t,rfl⟩:=ry;obtain ⟨its,r,pl,hz⟩:=I.list hq;obtain ⟨j,h1,h2,h3,h4,h5⟩:=zlL he;obtain ⟨w,ew,rw'⟩:=r.get h2;have hl:=r.length;have hn:=ziJ;have fin:EP X pins σ Q w s:=⟨z,H,I,rw',q⟩
 by_cases h0:0<=i
 ·have hj:i.toNat=j:=by
   rw [seqIndex_of h0 h5] at h1;exact Option.some.inj h1
  exact item_listR pl.isList h0 (by omega) (by rw [hj];simpa using ew) fin hs
 ·have hj:(i+(its.toArray.size:Int)).toNat=j:=by
   rw [seqIndex_neg (by omega) h4] at h1;rw [yak,<-hl];exact Option.some.inj h1
  exact subscriptTail_builtinR (x:=w) pl.isList.typeIs slot_list_getitem.lookup
   (wpAny_getItem_list_neg (Q:=fun r s'=>r=w/\EP X pins σ Q r s') pl.isList (by omega) (by rw [yak]<;>omega) (by omega) (by rw [hj];simpa using ew) ⟨rfl,fin⟩) hs
theorem zsN:IxR X (zxe X.K):=by
 intro value slice pins s σ H x y v u Q I rx ry h hs;obtain ⟨p,xs,i,z,rfl,rfl,hq,he,q⟩:=h;cases rx;obtain ⟨t,rfl⟩:=ry;obtain ⟨its,r,pl,hz⟩:=I.tuple hq;obtain ⟨j,h1,h2,h3,h4,h5⟩:=zlL he;obtain ⟨w,ew,rw'⟩:=r.get h2;have hl:=r.length;have hn:=ziJ;have fin:EP X pins σ Q w s:=⟨z,H,I,rw',q⟩
 exact subscriptTail_builtinR (x:=w) pl.typeIs slot_tuple_getitem.lookup
  (getItem_tuple (j:=j) (Q:=fun r s'=>r=w/\EP X pins σ Q r s') pl (by omega) (by omega) (by rw [yak,<-hl];exact h1) (by simpa using ew) ⟨rfl,fin⟩) hs
theorem zcg:zc8 X (.builtin "len") (fun xs H Q=>∃p ys,xs=[.ref p]/\(SqL X.K H p ys\/SqT X.K H p ys)/\Q (.int ys.length) H):=by
 intro pins s σ H xs us Q I r h;obtain ⟨p,ys,rfl,hq,q⟩:=h;obtain ⟨u,rfl,rx⟩:=zea r;cases rx;have hn:=ziJ
 rcases hq with hq | hq
 ·obtain ⟨its,r',pl,hz⟩:=I.list hq;have hlen:=r'.length;exact Calls.call_len_list pl.isList (by simp only [yak]<;>omega) ⟨.int ys.length,H,I.tok _,⟨s.toks+1,by rw [yak,hlen]⟩,q⟩
 ·obtain ⟨its,r',pl,hz⟩:=I.tuple hq;have hlen:=r'.length;exact len_tuple pl (by simp only [yak]<;>omega) ⟨.int ys.length,H,I.tok _,⟨s.toks+1,by rw [yak,hlen]⟩,q⟩
theorem zha:zc8 X (.builtin "len") (fun xs H Q=>∃z,xs=[.str z]/\z.length<=sizeLine/\Q (.int z.length) H):=by
 intro pins s σ H xs us Q I r h;obtain ⟨z,rfl,hz,q⟩:=h;obtain ⟨u,rfl,t,rfl⟩:=zea r;have hn:=ziJ;exact len_str (by omega) ⟨.int z.length,H,I.tok _,⟨_,rfl⟩,q⟩
def zg9:zc8 X (.type "list") (fun xs H Q=>∃p ys,xs=[.ref p]/\(SqL X.K H p ys\/SqT X.K H p ys)/\∀l,H l=none->Q (.ref l) (upd H l (.lst ys))):=by
 intro pins s σ H xs us Q I r h;obtain ⟨p,ys,rfl,hq,q⟩:=h;obtain ⟨u,rfl,rx⟩:=zea r;cases rx
 have fin:∀(its:List Value),Vals ys its->ys.length<=sizeLine->∀(h':Heap) (c':Nat),(∀b o',s.heap.get? b=some o'->h'.get? b=some o') →
   h'.get? s.heap.objs.size=some { cls:=.type "list",dict:=none,data:=.seq its.toArray c',slots:=#[] }->EP X pins σ Q (.ref s.heap.objs.size) { s with heap:=h' }:=fun its r' hz h' c' kp e =>
  ⟨.ref s.heap.objs.size,_,I.laid (t':=s.toks) kp (yag _) (show zaY X.prog X.w _ h' _ (.lst ys) from ⟨hz,its,c',r',e⟩),rfl,q _ (I.hok.fresh (yag _))⟩
 rcases hq with hq | hq
 ·obtain ⟨its,r',pl,hz⟩:=I.list hq;have hlen:=r'.length;obtain ⟨o,ho,hc,n,hd⟩:=pl.isList;exact call_list_seq p (.inl rfl) ho hc hd (fun h' c' kp e=>fin its r' hz h' c' kp e) (by simp only [yak]<;>omega)
 ·obtain ⟨its,r',pl,hz⟩:=I.tuple hq;have hlen:=r'.length;obtain ⟨o,ho,hc,n,hd⟩:=pl;exact call_list_seq p (.inr rfl) ho hc hd (fun h' c' kp e=>fin its r' hz h' c' kp e) (by simp only [yak]<;>omega)
theorem zdP:zc8 X (.type "tuple") (fun xs H Q=>∃p ys,xs=[.ref p]/\((SqL X.K H p ys/\∀l,H l=none->Q (.ref l) (upd H l (.tup ys)))\/(SqT X.K H p ys/\Q (.ref p) H))):=by
 intro pins s σ H xs us Q I r h;obtain ⟨p,ys,rfl,h⟩:=h;obtain ⟨u,rfl,rx⟩:=zea r;cases rx
 rcases h with ⟨hq,q⟩ | ⟨hq,q⟩
 ·obtain ⟨its,r',pl,hz⟩:=I.list hq;have hlen:=r'.length;refine call_tuple_list pl.isList (fun h' kp=>?_) (by simp only [yak]<;>omega);have I1:Inv X pins σ H { s with heap:=h' }:=I.kept (t':=s.toks) kp
  have I2:Inv X pins σ (upd H h'.objs.size (.tup ys)) { s with heap:=h'.push { cls:=.type "tuple",data:=.seq its.toArray } } :=
   I1.laid (t':=s.toks) (fun b o e=>yae _ e) (yag _) (show zaY X.prog X.w _ _ _ (.tup ys) from ⟨hz,its,r',zqI.new _ _⟩)
  exact ⟨.ref h'.objs.size,_,I2,rfl,q _ (I1.hok.fresh (yag _))⟩
 ·obtain ⟨its,r',pl,hz⟩:=I.tuple hq;exact call_tuple_same pl ⟨.ref p,H,I,rfl,q⟩
noncomputable def tyV(K:PySem.W.Frag)(T:String)(x:V)(H:Hp):Prop:=match x with
 | .str _=>T = "str"
 | .int _=>T = "int"
 | .ref p=>(T = "list" /\ ∃xs,SqL K H p xs)\/(T = "tuple" /\ ∃o,K.lookup p=some o/\o.cls=.type "tuple" /\ o.dict=none) ∨
   (T = "dict" /\ ((∃kvs,H p=some (.dK kvs))\/∃kvs,H p=some (.dT kvs)))\/(T = "set" /\ ∃S n,H p=some (.set S n))
 | _=>False
def znz(I:Inv X pins σ H s)(r:zaX x v)(ty:tyV X.K T x H) :
  s.TypeIs v T/\∀a,v=.ref a->∃ob,s.heap.get? a=some ob/\ob.dict=none:=by
 cases x with
 | str z =>
  obtain ⟨t,rfl⟩:=r;cases (show T = "str" from ty);exact ⟨typeIs_str s z t,fun _ e=>nomatch e⟩
 | int i =>
  obtain ⟨t,rfl⟩:=r;cases (show T = "int" from ty);exact ⟨typeIs_int s i t,fun _ e=>nomatch e⟩
 | ref p =>
  cases r
  rcases ty with ⟨rfl,xs,hq⟩ | ⟨rfl,o,hk,hc,hd⟩ | ⟨rfl,hk⟩ | ⟨rfl,S,n,hk⟩
  ·obtain ⟨its,_,pl,_⟩:=I.list hq;refine ⟨pl.isList.typeIs,fun a e=>?_⟩;cases e;obtain ⟨o,n,e,c,hd,_⟩:=pl;exact ⟨o,e,hd⟩
  ·refine ⟨⟨o,I.kIn p o hk,hc⟩,fun a e=>?_⟩;cases e;exact ⟨o,I.kIn _ o hk,hd⟩
  ·have z:∃o,s.heap.get? p=some o/\o.ExactDict:=by
    rcases hk with ⟨kvs,hk⟩ | ⟨kvs,hk⟩
    ·obtain ⟨_,_,_,_,o,_,_,e,ex,_⟩:=I.hok p _ hk;exact ⟨o,e,ex⟩
    ·obtain ⟨_,_,_,_,o,_,_,e,ex,_⟩:=I.hok p _ hk;exact ⟨o,e,ex⟩
   obtain ⟨o,e,ex⟩:=z;refine ⟨⟨o,e,ex.1⟩,fun a e2=>?_⟩;cases e2;exact ⟨o,e,ex.2.1⟩
  ·obtain ⟨o,_,_,_,e,ex,_⟩:=I.hok p _ hk;refine ⟨⟨o,e,ex.1⟩,fun a e2=>?_⟩;cases e2;exact ⟨o,e,ex.2.1⟩
 | _=>exact False.elim ty
noncomputable def zw9(K:PySem.W.Frag)(T:String)(r:V->List V->Hp->VK->Prop)(to:TE):TE:=fun σ H Q=>to σ H fun x H1=>tyV K T x H1/\r x [] H1 Q
noncomputable def tBM(K:PySem.W.Frag)(T:String)(r:V->List V->Hp->VK->Prop)(to:TE)(t:TA):TE:=fun σ H Q=>to σ H fun x H1=>tyV K T x H1/\t σ H1 fun xs H2=>r x xs H2 Q
variable{o e:Expr}{es:List Expr}{to:TE}{t:TA}{name:Str}{apos cpos:Pos}{T id:String}{r:V->List V->Hp->VK->Prop}
def zr2(pa:PlainAttrs T)(slot:Slot T name id)(hty:typeOf (.builtin id)=pure (.type "method_descriptor"))(hm:MtR X id r)(ho:PE X o to)
  (hbase:autoParam (attributeBase o name X.env (eval o X.env)=eval o X.env) yAW) (hline:autoParam ((apos.endLine == cpos.line)=true) yAW):PE X (.Call (.Attribute o name apos) [] [] cpos) (zw9 X.K T r to):=by
 intro pins s σ H Q I h;refine wpAny_Call_method0_late hbase hline (thn (ho pins s σ H _ I h) fun v s1 ⟨x,H1,I1,r1,ty,q1⟩=>?_);obtain ⟨h1,h2⟩:=znz I1 r1 ty;exact ⟨T,id,pa,slot,hty,h1,h2,ybD rfl (PySem.evalArgs_none (hm pins s1 σ H1 x [] v [] Q I1 r1 .nil q1))⟩
def zmD(pa:PlainAttrs T)(slot:Slot T name id)(hty:typeOf (.builtin id)=pure (.type "method_descriptor"))(hm:MtR X id r)(ho:PE X o to)(ha:PA X (e::es) t)
  (hbase:autoParam (attributeBase o name X.env (eval o X.env)=eval o X.env) yAW)
  (hfew:autoParam (((backTo cpos (starEach (e::es) X.env)).all (fun x=>!x.1)&&(backToKw cpos (keywordEach [] X.env)).all (fun x=>x.1.isSome)
   && decide ((e::es).length+([]:List Keyword).length+(if ([]:List Keyword).isEmpty then 0 else 1)<30))=true) yAW)
  (hline:autoParam ((apos.endLine == cpos.line)=true) yAW) (hs:autoParam (starEach (e::es) X.env=(false,eval e X.env)::starEach es X.env) yAW) (hplain:autoParam ((backTo cpos (starEach es X.env)).any (·.1)=false) yAW) :
  PE X (.Call (.Attribute o name apos) (e::es) [] cpos) (tBM X.K T r to t):=by
 intro pins s σ H Q I h;refine wpAny_Call_method_late hbase hfew hline rfl (thn (ho pins s σ H _ I h) fun v s1 ⟨x,H1,I1,r1,ty,q1⟩=>?_);obtain ⟨h1,h2⟩:=znz I1 r1 ty;refine ⟨T,id,pa,slot,hty,h1,h2,?_⟩;have hA:=ha cpos pins s1 σ H1 _ I1 q1;rw [hs] at hA ⊢;refine ybD (by show (false||(backTo cpos (starEach es X.env)).any (·.1))=false;rw [hplain]<;>rfl) (ybT ?_);exact thn hA fun us s2 ⟨vs,H2,I2,r2,q2⟩=>hm pins s2 σ H2 x vs v us Q I2 r1 r2 q2
end
noncomputable def MtM(X:Cx)(id:String)(r:V->List V->Hp->VK->Prop):Prop :=
 ∀(pins:Z3) (s:Shared) (σ:St) (H:Hp) (x:V) (xs:List V) (v:Value) (us:List Value) (Q:VK),Inv X pins σ H s->zaX x v->Vals xs us->r x xs H Q →
  wpAny (model X.prog X.w) X.A (call (.builtin id) (v::us)) (EP X pins σ Q) X.xe s
theorem Vals.one:∀{x:V} {us:List Value},Vals [x] us->∃u,us=[u]/\zaX x u
 | _,_,.cons r .nil=>⟨_,rfl,r⟩
theorem Vals.zero:∀{us:List Value},Vals [] us->us=[]
 | _,.nil=>rfl
theorem Vals.dropLast{xs:List V}{us:List Value}(h:Vals xs us):Vals xs.dropLast us.dropLast:=by
 induction h with
 | nil=>exact .nil
 | cons r t ih =>
  cases t with
  | nil=>exact .nil
  | cons q t'=>exact .cons r ih
theorem Vals.reverse{xs:List V}{us:List Value}(h:Vals xs us):Vals xs.reverse us.reverse:=by
 induction h with
 | nil=>exact .nil
 | cons r t ih=>rw [ybq,ybq];exact Vals.append ih (.cons r .nil)
theorem Vals.rep(h:Vals xs us):∀k:Nat,Vals (List.replicate k xs).flatten (List.replicate k us).flatten
 | 0=>.nil
 | k+1=>by
  rw [ya3,ya3,ybr,ybr];exact Vals.append h (Vals.rep h k)
def zjD{α:Type}(l:List α):l.eraseIdx (l.length-1)=l.dropLast:=by
 induction l with
 | nil=>rfl
 | cons a r ih =>
  cases r with
  | nil=>rfl
  | cons b r =>
   have e:(a::b::r).length-1=((b::r).length-1)+1:=by
    have h1:(a::b::r).length=r.length+2:=rfl;have h2:(b::r).length=r.length+1:=rfl;omega
   rw [e,List.eraseIdx_cons_succ,ih]
   all_goals rfl
theorem zgT(its:List Value):∀(k:Nat) (acc:List Value),
  List.foldl (fun x1 x2=>x1++x2) acc.toArray (List.replicate k its.toArray)=(acc++(List.replicate k its).flatten).toArray
 | 0,acc=>by simp
 | k+1,acc=>by
  have e:acc.toArray++its.toArray=(acc++its).toArray:=by simp
  have e2:(acc++its)++(List.replicate k its).flatten=acc++(List.replicate (k+1) its).flatten:=by
   rw [ya3,ybr,ych]
  rw [<-e2,<-zgT its k (acc++its),<-e,ya3,ybK]
section
variable{X:Cx}{pins:Z3}{σ:St}{H:Hp}{s:Shared}{l b:Addr}{xs ys zs:List V}
def Inv.lset{its its':List Value}{n:Nat}{f:Array Value->Array Value}{t':Nat}(I:Inv X pins σ H s)(hH:H l=some (.lst xs))
  (e:s.heap.get? l=some { cls:=.type "list",data:=.seq its.toArray n }) (hf:f its.toArray=its'.toArray) (hv:Vals ys its') (hz:ys.length<=sizeLine) :
  Inv X pins σ (upd H l (.lst ys)) { s with heap:=s.heap.update l (Obj.mapSeq f),toks:=t' }:=by
 have q:=PySem.IsL.update e f;rw [hf] at q;refine I.write (x:=l) (e:=l) (by rw [hH];exact trivial) (.inl rfl) (fun b' u hb hu=>(Heap.get?_update_other s.heap (Obj.mapSeq f) (Ne.symm hb)).trans hu) ⟨_,q⟩ ?_;exact ⟨hz,its',_,hv,q⟩
def Inv.lnew(I:Inv X pins σ H s)(hv:Vals ys its)(hz:ys.length<=sizeLine) :
  Inv X pins σ (upd H s.heap.objs.size (.lst ys)) { s with heap:=s.heap.push { cls:=.type "list",data:=.seq its.toArray },toks:=t' } :=
 I.laid (fun _ _ q=>yae _ q) (yag _) ⟨hz,its,0,hv,yaq _ rfl⟩
theorem Inv.fresh(I:Inv X pins σ H s):H s.heap.objs.size=none:=I.hok.fresh (yag _)
def Inv.lstM(I:Inv X pins σ H s)(hH:H l=some (.lst xs)):xs.length<=sizeLine/\∃(its:List Value) (n:Nat),Vals xs its/\xs.length=its.length/\s.heap.get? l=some { cls:=.type "list",data:=.seq its.toArray n }:=by
 obtain ⟨z,its,n,r,e⟩:=I.hok l _ hH;exact ⟨z,its,n,r,r.length,e⟩
theorem zmJ(h:n<=sizeLine):Builtin.List.listTooLong n=false:=by
 unfold Builtin.List.listTooLong;exact yaG (by omega)
end
section
variable{X:Cx}
noncomputable def zo7:V->List V->Hp->VK->Prop:=fun x vs H Q=>∃l xs y,x=.ref l/\vs=[y]/\H l=some (.lst xs)/\xs.length<sizeLine/\Q .non (upd H l (.lst (xs++[y])))
theorem zer:MtM X "list.append" zo7:=by
 intro pins s σ H x vs v us Q I rx rv h;obtain ⟨l,xs,y,rfl,rfl,hH,hz,q⟩:=h;cases rx;obtain ⟨u,rfl,ru⟩:=rv.one;obtain ⟨z,its,n,r,hl,e⟩:=I.lstM hH;refine ycv F.slot_list_append ⟨_,e,rfl⟩ F.entry_list_append (F.args_list_append_2 _ _) (PySem.list_append l its.toArray n u (by rw [yak];omega)) ⟨e,?_⟩;refine ⟨.non,_,I.lset (its':=its++[u]) hH e (by simp) (r.append (.cons ru .nil)) ?_,rfl,q⟩;rw [yan,List.length_singleton];omega
noncomputable def zxd:V->List V->Hp->VK->Prop:=fun x vs H Q=>∃l xs y,x=.ref l/\vs=[]/\H l=some (.lst xs)/\xs[xs.length-1]?=some y/\Q y (upd H l (.lst xs.dropLast))
theorem zsw:MtM X "list.pop" zxd:=by
 intro pins s σ H x vs v us Q I rx rv h;obtain ⟨l,xs,y,rfl,rfl,hH,hy,q⟩:=h;cases rx;have hus:=rv.zero;subst hus;obtain ⟨z,its,n,r,hl,e⟩:=I.lstM hH;obtain ⟨u,hu,ru⟩:=r.get hy
 have hy':its.toArray[its.toArray.size-1]?=some u:=by
  show its.toArray[its.length-1]?=some u;rw [<-ybj,<-hl];exact hu
 refine ycv F.slot_list_pop ⟨_,e,rfl⟩ F.entry_list_pop (F.args_list_pop_1 _) (MeetsSeq.list_pop_last l its.toArray n u hy' (by rw [yak];omega)) ⟨e,?_⟩;refine ⟨y,_,I.lset (its':=its.dropLast) hH e ?_ r.dropLast ?_,ru,q⟩
 ·show its.toArray.eraseIdxIfInBounds (its.toArray.size-1)=its.dropLast.toArray;rw [yak,List.eraseIdxIfInBounds_toArray,zjD]
 ·rw [List.length_dropLast];omega
noncomputable def zxg:R2:=fun x y H Q=>∃l b xs zs,x=.ref l/\y=.ref b/\H l=some (.lst xs)/\H b=some (.lst zs)/\xs.length+zs.length<=sizeLine/\∀p,H p=none->Q (.ref p) (upd H p (.lst (xs++zs)))
theorem zsc:OpR X (binaryOp .Add) zxg:=by
 intro pins s σ H x y v u Q I rx ry h;obtain ⟨l,b,xs,zs,rfl,rfl,hH,hB,hz,q⟩:=h;cases rx;cases ry;obtain ⟨z,its,n,r,hl,e⟩:=I.lstM hH;obtain ⟨z2,its2,n2,r2,hl2,e2⟩:=I.lstM hB;refine PySem.P.add_list e e2 ?_ (by rw [yak,yak];omega)
 have ea:its.toArray++its2.toArray=(its++its2).toArray:=by simp
 rw [ea];exact ⟨.ref _,_,I.lnew (t':=s.toks) (r.append r2) (by rw [yan];omega),rfl,q _ I.fresh⟩
noncomputable def zxc:R2:=fun x y H Q=>∃l k xs,x=.ref l/\y=.int k/\H l=some (.lst xs)/\-(2 ^ 63)<=k/\k<2 ^ 63/\xs.length*k.toNat<=sizeLine ∧
 ∀p,H p=none->Q (.ref p) (upd H p (.lst (List.replicate k.toNat xs).flatten))
def zpO{α:Type}(xs:List α)(k:Nat):(List.replicate k xs).flatten.length=k*xs.length:=by
 induction k with
 | zero=>simp
 | succ k ih=>rw [ya3,ybr,yan,ih,Nat.succ_mul,Nat.add_comm]
theorem zr7:OpR X (binaryOp .Mult) zxc:=by
 intro pins s σ H x y v u Q I rx ry h;obtain ⟨l,k,xs,rfl,rfl,hH,h1,h2,hz,q⟩:=h;cases rx;obtain ⟨t,rfl⟩:=ry;obtain ⟨z,its,n,r,hl,e⟩:=I.lstM hH
 have hlen:its.toArray.size*k.toNat<=sizeLine:=by rw [yak,<-hl];exact hz
 have hcap:¬ its.toArray.size*k.toNat > (2 ^ 63-1) / 8:=by
  have:(sizeLine:Nat)<=(2 ^ 63-1) / 8:=by decide
  omega
 have hfit:¬ (!Builtin.List.listFitsIndex k)=true:=by
  rw [fitsIndex_both h1 h2];exact yaU
 have hlong:¬ Builtin.List.listTooLong (its.toArray.size*k.toNat)=true:=by
  rw [zmJ hlen];exact yaU
 have hnew:List.foldl (fun x1 x2=>x1++x2) #[] (List.replicate (if its.toArray.isEmpty=true then 0 else k.toNat) its.toArray)=(List.replicate k.toNat its).flatten.toArray:=by
  have f0:∀m:Nat,List.foldl (fun x1 x2=>x1++x2) #[] (List.replicate m its.toArray)=(List.replicate m its).flatten.toArray:=fun m=>by
   have:=zgT its m [];rwa [List.nil_append] at this
  rw [f0]
  cases its with
  | nil=>simp
  | cons a r'=>rw [if_neg (by simp)]
 refine wpAny_binaryOp_repeat_ref (T:="list") (U:="int") (by decide) ⟨_,e,rfl⟩ (fun s'=>typeIs_int s' k t) noFill_list_mul F.fills_int_mul F.slot_int_rmul repeat_list F.slot_int_index.lookup
  (ycv F.slot_int_rmul (typeIs_int s k t) F.entry_int_rmul (F.args_int_rmul_2 _ _) (int___rmul___int_list k t l its.toArray n)
   ⟨e,rfl,⟨_,e,rfl⟩,ycv F.slot_list_mul ⟨_,e,rfl⟩ F.entry_list_mul (F.args_list_mul_2 _ _) (AutoListH.list___mul___list_int_3 l its.toArray n k t hfit hcap hlong) ⟨e,?_⟩⟩)
 rw [hnew];exact ⟨.ref _,_,I.lnew (t':=s.toks) (r.rep k.toNat) (by rw [zpO,Nat.mul_comm];exact hz),rfl,q _ I.fresh⟩
end
end L2
namespace Att
open PySem PySem.W PySem.Calls PyProof.Rows
def zez:∀(ns:List Int) (vs:List Value),WellAll P h vs (ns.map WData.int)->IntsAre vs ns:=by
 intro ns
 induction ns with
 | nil =>
  intro vs w;rw [List.map_nil] at w;cases w;exact .nil
 | cons n ns ih =>
  intro vs w;rw [yaz] at w
  cases w with
  | cons a b =>
   cases a;exact .cons _ _ (ih _ b)
theorem zkh{l:OpenLaw}(hn:l.most=some n){P:Params}{h:Heap}
  (hpre:l.row.toRowW.claim.pre args=true) (hwl:WellAll P h vals args) :
  ∃a vs ns,vals=[Value.ref a]/\args=[WData.list (ns.map WData.int)]/\h.get? a=some { cls:=.type "list",data:=.seq vs.toArray }/\IntsAre vs ns/\ns.length<=n:=by
 have hsh:WShape.hasAll [] args [.list .int]=true:=(pre_splitW hpre).1;have hc:l.pre.holds [] { args:=args }=true:=(pre_splitW hpre).2;obtain ⟨d,r,rfl,h1,h2⟩:=hasAllW_cons hsh;obtain rfl:=hasAllW_nil h2;obtain ⟨xs,rfl,h3⟩:=hasW_list h1;obtain ⟨ns,rfl⟩:=items_int h3
 have hlen:ns.length<=n:=by
  unfold OpenLaw.pre at hc
  have h4:(WTm.not (.lt (.lit (.int (n:Int))) (.len (.arg 0)))).holds [] { args:=[.list (ns.map .int)] }=true:=by
   have h4:=(holds_andW hc).1;rwa [hn] at h4
  have h5:=condW_of h4 (w_not (w_lt w_lit (w_len_list (w_arg rfl))));rw [yad] at h5;refine Nat.le_of_not_lt fun q=>?_
  have q':(n:Int)<((ns.length:Nat):Int):=by omega
  first
   | (rw [yaE q'] at h5;exact absurd h5 (by decide))
   | (simp at h5;omega)
 cases hwl with
 | cons w1 w2 =>
  cases w2
  cases w1 with
  | list ho hall=>exact ⟨_,_,ns,rfl,rfl,ho,zez ns _ hall,hlen⟩
def zkF(l:OpenLaw)(args:List WData):l.row.toRowW.claim.post args (.bool true) args=true :=
 postW_of (r:=l.row.toRowW) (X:=(true == true))
  (show WShape.has [] (.bool true) .bool=true by first | rfl | decide | simp [WShape.has,WShape.arms,WShape.armsAll])
  (show (WTm.eq .res (.lit (.bool true))).value [] { args:=args,res:=some (.bool true),after:=args }=some (.bool (true == true)) from w_eq_bool (w_res rfl) w_lit) rfl
def zh3{l:OpenLaw}{n:Nat}{q:Program}{loose:List Str}{XP:(Str->Option Value)->Heap->Prop}{YP:World->Heap->Prop}{d:DefRec}
  (hn:l.most=some n) (hdf:d.params.defaults=[])
  (call:∀(w:World) (s₀ s₁:Shared) (mg mb:Z6) (fa:Addr) (o:Obj) (pm cd doc:Value) (a:Addr) (vs:List Value) (ns:List Int),
   Ground q loose [] XP w s₀ mg mb s₁.heap->YP w s₁.heap →
   s₁.heap.get? fa=some o->o.data=.func (docDef d.name d.params d.body d.scope pm cd doc)->s₁.heap.CodeRec cd d.name->mg d.name=some (.ref fa) →
   s₁.heap.get? a=some { cls:=.type "list",data:=.seq vs.toArray }->IntsAre vs ns->ns.length<=n->s₁.gens=#[] →
   codeAny (model l.prog w) callerA (.call (.ref fa) ⟨[.ref a],[]⟩) (fun r s'=>r=.ok (.ret (.bool true))/\OldK s₁.heap s'.heap/\s'.os=s₁.os/\AllBare s'.gens) s₁) :
  WalkO q loose XP YP l.row.toRowW d [] (fun f vs=>PySem.call f vs):=by
 intro w s₀ s₁ mg mb G Y fa o pm cd doc dV kV ho hd hcd hD hmg hg args vals as hpre hlay hrd hwl hlo;obtain rfl:dV=.none:=Dflts.none hD hdf;obtain rfl:kV=.none:=Dflts.noKw hD;obtain ⟨a,vs,ns,rfl,rfl,hobj,hints,hlen⟩:=zkh hn hpre hwl;refine enter_call (ybu (call w s₀ s₁ mg mb fa o pm cd doc a vs ns G Y ho (fd_plain hd) hcd hmg hobj hints hlen hg) fun r s' hq=>?_);obtain ⟨rfl,h2,h3,h4⟩:=hq;exact ⟨.inl ⟨.bool true,.bool true,[],rfl,fun _=>rfl,.bool true,zkF l _,fun _=>⟨List.Pairwise.nil,fun _ hm=>(nomatch hm)⟩⟩,h2,h3,h4⟩
end Att
namespace L2
open PySem PySem.Spec PyProof.Rows
theorem zgj:∀{vs:List Value} {ns:List Int},IntsAre vs ns->Vals (ns.map V.int) vs
 | _,_,.nil=>.nil
 | _,_,.cons n t h=>.cons ⟨t,rfl⟩ (zgj h)
noncomputable def za4(s:Stmt):Arguments:=match s with
 | .FunctionDef _ a _ _ _ _ _ _ _ _=>a
 | _=>{ posonlyargs:=[],args:=[],vararg:=none,kwonlyargs:=[],kw_defaults:=[],kwarg:=none,defaults:=[] }
noncomputable def zaS(s:Stmt):List Stmt:=match s with
 | .FunctionDef _ _ b _ _ _ _ _ _ _=>b
 | _=>[]
noncomputable def zak(s:Stmt):Scope:=match s with
 | .FunctionDef _ _ _ _ _ _ sc _ _ _=>sc
 | _=>{ kind:=.function,names:=[],isGenerator:=false,isCoroutine:=false }
noncomputable abbrev E0:XK:=fun _ _ _=>False
structure Fun(K:PySem.W.Frag)(x qual:Str)(st:Stmt)(f:Addr)(fd:FuncData):Prop where
 ex:∃(oc:Value) (od:Option Addr) (kV doc pm:Value) (an:Option Addr) (cdv ct:Value) (osl:Array (Option Value)),
  fd=PySem.W.fnOf x qual (za4 st) (zaS st) (zak st) .none kV doc pm an cdv ct/\K.lookup f=some ⟨oc,od,.func fd,osl⟩/\PySem.W.codeIn K cdv qual=true
 kp:PySem.W.keepIn K (.ref f)=true
section
variable{P:Program}{w:World}{K:PySem.W.Frag}{mg:Z6}{base:Heap}
def Fun.binds{x qual:Str}{st:Stmt}{f:Addr}{fd:FuncData}{ps:List Str}(F:Fun K x qual st f fd)
  (h:∀(kV doc pm:Value) (an:Option Addr) (cdv ct:Value) (us:List Value),us.length=ps.length->bindArgs (PySem.W.fnOf x qual (za4 st) (zaS st) (zak st) .none kV doc pm an cdv ct) ⟨us,[]⟩=pure (ps.zip us)):zcM K fd ps []:=by
 obtain ⟨oc,od,kV,doc,pm,an,cdv,ct,osl,rfl,lk,hcd⟩:=F.ex;exact .all (h kV doc pm an cdv ct)
def ziU{x qual:Str}{st:Stmt}{f:Addr}{oc:Value}{od an:Option Addr}{osl:Array (Option Value)}{kV doc pm cdv ct:Value}(l:K.lookup f=some ⟨oc,od,.func (PySem.W.fnOf x qual (za4 st) (zaS st) (zak st) .none kV doc pm an cdv ct),osl⟩)
  (c:PySem.W.codeIn K cdv qual=true) (k:PySem.W.keepIn K (.ref f)=true):Fun K x qual st f (PySem.W.fnOf x qual (za4 st) (zaS st) (zak st) .none kV doc pm an cdv ct):=⟨⟨oc,od,kV,doc,pm,an,cdv,ct,osl,rfl,l,c⟩,k⟩
end
def zn5{A B:Prop}(h:B):if false=true then A else B:=by
 rw [if_neg yaU];exact h
def zn4{A B:Prop}(h:A):if true=true then A else B:=by
 rw [if_pos rfl];exact h
noncomputable def Its(x:Str):It:=⟨fun i _=>i<x.cps.size,fun i H v H'=>H'=H/\∃c,x.cps[i]?=some c/\v=.str ⟨#[c]⟩,fun i _=>i=x.cps.size⟩
def zih{P:Program}{w:World}{K:PySem.W.Frag}{tg:Expr}(it:Addr)(x:Str)(t:Tok)(ty:String)(ht:["enumerate","zip","dict_itemiterator","dict_reverseitemiterator","odict_iterator","itertools.zip_longest","itertools.pairwise"].contains ty=false)
  (W:∀A:Around,A.handled=none->Walks P w A it [it] [it] x.cps.size (SignAt x) (fun i h=>h.IsStrIter it ty x t i))
  (Ws:∀(A:Around) (i:Nat) (s:Shared) (Q:Z5) (E:Z5),s.heap.IsStrIter it ty x t i->Q (.ref it) s->wpAny (model P w) A (pyIter (.ref it)) Q E s):Turn P w K tg (Its x) [it] it (fun i h=>h.IsStrIter it ty x t i) where
 mem:=by simp
 obj:=fun i h st b hb=>by
  have e:b=it:=by simpa using hb
  subst e;obtain ⟨o,e,c,d⟩:=st;exact ⟨o,e,fun v z=>by rw [d] at z;cases z⟩
 keep:=fun i h h' st k=>by
  obtain ⟨o,e,r⟩:=st;exact ⟨o,k it (by simp) o e,r⟩
 item:=by
  intro X hP hw hK hc i pins s σ H E I hf st hg;subst hP hw hK;obtain ⟨f0,f1,f2,f3,f4,f5⟩:=hf it (by simp);refine (W X.A (I.ok.hd hc)).item i s _ _ hg st fun v h' tk hv st' kk=>?_
  obtain ⟨c,u,hx,rfl⟩:=hv;have I1:Inv X pins σ H { s with heap:=h',toks:=tk }:=I.turned (fun b o hb e=>kk b o (by simpa using hb) e) f0 f1 f3 f4 f5;obtain ⟨o,e,c',d⟩:=id st';exact ⟨_,rfl,zlh (s:={ s with heap:=h',toks:=tk }) e c' d ht ⟨.str ⟨#[c]⟩,H,I1,⟨u,rfl⟩,⟨rfl,c,hx,rfl⟩,st',fun b hb=>(hf b hb).1⟩⟩
 done:=by
  intro X hP hw hK hc i pins s σ H E I hf st hg;subst hP hw hK;obtain ⟨f0,f1,f2,f3,f4,f5⟩:=hf it (by simp);have hi:i=x.cps.size:=hg;subst hi;exact (W X.A (I.ok.hd hc)).done s _ _ st fun h' tk kk=>⟨rfl,I.turned (fun b o hb e=>kk b o (by simpa using hb) e) f0 f1 f3 f4 f5⟩
 self:=fun A i s Q E st h=>Ws A i s Q E st h
noncomputable def zxM(tl:TE):TI:=fun σ H R=>tl σ H fun v H1=>∃x,v=.str x/\R (Its x) H1
def zrV{X:Cx}{tg l:Expr}{tl:TE}(hl:PE X l tl):PI X tg l (zxM tl):=by
 intro pins s σ H R I h;refine thn (hl pins s σ H _ I h) fun v s1 ⟨x,H1,I1,r1,q1⟩=>?_
 obtain ⟨z,e,q⟩:=q1;subst e;obtain ⟨t,rfl⟩:=r1
 have fp:∀b∈[s1.heap.objs.size],zlQ X pins H1 b:=fun b hb=>by
  have e:b=s1.heap.objs.size:=by simpa using hb
  subst e;exact I1.fpOk (yag _) (I1.hok.fresh (yag _))
 cases ha:z.cps.all (·<128)
 ·exact wpAny_pyIter_wide ha ⟨s1.heap.objs.size,[s1.heap.objs.size],_,_,H1,rfl,I1.kept (t':=s1.toks) fun b o e=>yae _ e,zih _ z t "str_iterator" (by decide) (fun A hA=>Walks.strWide hA _ z t) (fun A i s Q E st h=>wpAny_pyIter_striter_wide st h),⟨_,yaq _ rfl,rfl,rfl⟩,fp,q⟩
 ·exact wpAny_pyIter_ascii ha ⟨s1.heap.objs.size,[s1.heap.objs.size],_,_,H1,rfl,I1.kept (t':=s1.toks) fun b o e=>yae _ e,zih _ z t "str_ascii_iterator" (by decide) (fun A hA=>Walks.strAscii hA _ z t) (fun A i s Q E st h=>wpAny_pyIter_striter_ascii st h),⟨_,yaq _ rfl,rfl,rfl⟩,fp,q⟩
def zsa{X:Cx}:OpR X (compareOp .LtE) (fun x y H Q=>∃a b,x=.str a/\y=.str b/\Q (.bl (!decide (b.cps.toList<a.cps.toList))) H):=by
 intro pins s σ H x y v u Q I rx ry h;obtain ⟨a,b,rfl,rfl,q⟩:=h;obtain ⟨t,rfl⟩:=rx;obtain ⟨t',rfl⟩:=ry;exact PySem.P.le_str ⟨.bl (!decide (b.cps.toList<a.cps.toList)),H,I,rfl,q⟩
def zft(h:∀y∈scope.names,y.2=.free->∃c,env.cells.lookup y.1=some c) :
  ∃cl,closureFor scope env=pure cl/\(∀y c,cl.lookup y=some c->env.cells.lookup y=some c)/\∀y,(y,NameKind.free)∈scope.names->∃c,cl.lookup y=some c:=by
 unfold closureFor
 have key:∀(l:List (Str×NameKind)) (cs:List (Str×Addr)),(∀y∈l,y.2=.free->∃c,env.cells.lookup y.1=some c)->(∀y c,cs.lookup y=some c->env.cells.lookup y=some c) →
   ∃cl,(forIn l cs fun (x:Str×NameKind) (r:List (Str×Addr))=>(if (x.2 == NameKind.free)=true then (do let c ← cellOf env x.1;pure (ForInStep.yield ((x.1,c)::r))) else pure (ForInStep.yield r):Sem (ForInStep (List (Str×Addr)))))=pure cl ∧
    (∀y c,cl.lookup y=some c->env.cells.lookup y=some c)/\(∀y,(y,NameKind.free)∈l->∃c,cl.lookup y=some c)/\(∀y c,cs.lookup y=some c->∃c',cl.lookup y=some c'):=by
  intro l
  induction l with
  | nil=>intro cs _ hc;exact ⟨cs,rfl,hc,fun y hy=>by simp at hy,fun y c e=>⟨c,e⟩⟩
  | cons p l ih =>
   intro cs hl hc;obtain ⟨n,k⟩:=p
   by_cases hk:(k == NameKind.free)=true
   ·have ek:k=.free:=eq_of_beq hk;obtain ⟨c,ec⟩:=hl (n,k) yaw ek
    obtain ⟨cl,e1,e2,e3,e4⟩:=ih ((n,c)::cs) (fun y hy=>hl y (yar _ hy)) (fun y c' e=>by
     rw [yaB] at e
     cases hq:y == n with
     | true=>rw [hq] at e;cases e;rw [eq_of_beq hq];exact ec
     | false=>rw [hq] at e;exact hc y c' e)
    refine ⟨cl,?_,e2,fun y hy=>?_,fun y c' e=>?_⟩
    ·rw [ybL];show ((if (k == NameKind.free)=true then _ else _) >>= _)=_;rw [if_pos hk]
     have ecell:cellOf env n=pure c:=by unfold cellOf;rw [ec]
     show (cellOf env n >>= _) >>= _=_;rw [ecell];simpa using e1
    ·rcases yav.mp hy with z | hy
     ·cases z;exact e4 n c (by rw [yaB];simp)
     ·exact e3 y hy
    ·cases hq:y == n with
     | true=>exact e4 y c (by rw [yaB,hq])
     | false=>exact e4 y c' (by rw [yaB,hq];exact e)
   ·obtain ⟨cl,e1,e2,e3,e4⟩:=ih cs (fun y hy=>hl y (yar _ hy)) hc;refine ⟨cl,?_,e2,fun y hy=>?_,e4⟩
    ·rw [ybL];show ((if (k == NameKind.free)=true then _ else _) >>= _)=_;rw [if_neg hk];simpa using e1
    ·rcases yav.mp hy with z | hy
     ·cases z;exact absurd rfl hk
     ·exact e3 y hy
 obtain ⟨cl,e1,e2,e3,_⟩:=key scope.names [] h (fun y c e=>by simp at e);refine ⟨cl,?_,e2,e3⟩;show ((forIn scope.names [] _:Sem (List (Str×Addr))) >>= _)=_;have e1':=congrArg (fun m=>m >>= (pure:List (Str×Addr)->Sem (List (Str×Addr)))) e1;simpa using e1
noncomputable def PIf(X:Cx)(ifs:List Expr)(t:TT):Prop :=
 ∀(pins:Z3) (s:Shared) (σ:St) (H:Hp) (Q:Bool->Hp->Prop),Inv X pins σ H s->t σ H Q →
  wpAny (model X.prog X.w) X.A (forIn ifs true fun c r=>if r=true then do let ok ← isTrue c X.env (eval c X.env);pure (ForInStep.yield ok) else pure (ForInStep.yield r)) (TP X pins σ Q) X.xe s
noncomputable def zw1:TT:=fun _ H Q=>Q true H
def zpq:PIf X [] zw1:=fun _ _ _ H _ I h=>wpAny_tests_nil ⟨H,I,h⟩
def zpp(h:PT X c t):PIf X [c] t:=fun pins s σ H Q I hw=>wpAny_tests_one (h pins s σ H Q I hw)
theorem zd5{scope:Scope}{env:Env}:∀{names:List (Str×NameKind)} {y:Str},(y,NameKind.free)∈names->(∀z∈names,z.1=y->z.2=.free) →
  (names.map fun (n,k)=>if (k == NameKind.free&&env.scope.kind == .function&&env.kindOf n == some .cell) then (n,NameKind.cell) else (n,k)).lookup y=some .cell ∨
  (names.map fun (n,k)=>if (k == NameKind.free&&env.scope.kind == .function&&env.kindOf n == some .cell) then (n,NameKind.cell) else (n,k)).lookup y=some .free
 | [],_,h,_=>by simp at h
 | (n,k)::r,y,h,u=>by
  rw [yaz];show List.lookup y ((if (k == NameKind.free&&env.scope.kind == .function&&env.kindOf n == some .cell)=true then (n,NameKind.cell) else (n,k))::_)=_\/List.lookup y ((if (k == NameKind.free&&env.scope.kind == .function&&env.kindOf n == some .cell)=true then (n,NameKind.cell) else (n,k))::_)=_
  cases hq:y == n with
  | true =>
   have e:n=y:=(eq_of_beq hq).symm;have ek:k=.free:=u (n,k) yaw e
   by_cases hc:(k == NameKind.free&&env.scope.kind == .function&&env.kindOf n == some .cell)=true
   ·rw [if_pos hc];left;simp [yaB,hq]
   ·rw [if_neg hc];right;simp [yaB,hq,ek]
  | false =>
   have hy:(y,NameKind.free)∈r:=by
    rcases yav.mp h with z | z
    ·cases z;simp at hq
    ·exact z
   have ih:=zd5 (scope:=scope) (env:=env) hy fun z hz=>u z (yar _ hz)
   by_cases hc:(k == NameKind.free&&env.scope.kind == .function&&env.kindOf n == some .cell)=true
   ·rw [if_pos hc];simpa [yaB,hq] using ih
   ·rw [if_neg hc];simpa [yaB,hq] using ih
def Inv.track(I:Inv X pins σ H s)(hn:H D=none)(h1:X.s₀.heap.objs.size<=D)(h2:D≠X.env.locals)(h3:∀x c,X.env.cells.lookup x=some c->c≠D)(h4:∀p∈X.pn++pins,p.1≠D)
  (new:zaY X.prog X.w (upd H D o) s.heap D o):Inv X pins σ (upd H D o) s:=by
 have nD:∀b u,H b=some u->b≠D:=fun b u e=>zaw e hn
 obtain ⟨h',g',d',t',o'⟩:=s;refine I.step (h':=h') (g':=g') (d':=d') (t':=t') (ch:=[D]) (fun b hb=>?_) (fun b o _ _ _ e _=>e) (fun b o _ _ _ e _=>⟨o.slots,e⟩) (fun b o hc e n=>?_) (fun b o _ e=>⟨o,e⟩) (fun b xs e=>?_) (fun b o u e=>?_) (fun b ps e=>?_) (fun m hm=>hm) (fun b u e=>?_) I.bare
 ·have e:b=D:=by simpa using hb
  subst e;exact ⟨.inr h1,h2,h3,h4⟩
 ·rw [zag (fun z=>hc (by simp [z]))];exact n
 ·rw [zag (nD _ _ e)];exact e
 ·rw [zag (nD _ _ e)];exact e
 ·exact ⟨#[],by rw [zag (nD _ _ e),e];simp⟩
 ·by_cases hb:b=D
  ·subst hb;rw [zap] at e;cases e;exact new
  ·rw [zag hb] at e
   exact (I.hok b u e).stay (fun _ _ _ q=>q) (fun c q=>by rw [zag (nD _ _ q)];exact q) fun c xs q=>by rw [zag (nD _ _ q)];exact q
section
variable{X:Cx}{elt iter:Expr}{x:Str}{px pos:Pos}{ifs:List Expr}{scope:Scope}{caps:List (Str×Nat)}{wi:TI}{tt:TT}{te:TE}
noncomputable abbrev lob(its:List Value)(k:Nat):Obj:={ cls:=.type "list",data:=.seq its.toArray k }
end
section
variable{prog:Program}{w:World}{A:Around}{R:Result->Shared->Prop}{s:Shared}
theorem zmQ(I:Nat->Shared->Prop)
  (turn:∀n s,I n s->wpAny (model prog w) A (pyNext it) (fun r s₁=>match r with
   | none=>R (.ok .next) s₁
   | some v=>wpAny (model prog w) A (letOwnedTupleGo target it v) (fun _ s₀=>wpAny (model prog w) A (assign target env v) (fun _ s₂ =>
     wpAny (model prog w) A (forIn ifs true fun c r=>if r=true then do let ok ← isTrue c env (eval c env);pure (ForInStep.yield ok) else pure (ForInStep.yield r)) (fun ok s₃ =>
      if ok=true then wpAny (model prog w) A (eval elt env) (fun x s₄ =>
       wpAny (model prog w) A (call (.builtin "list.append") [acc,x]) (fun _ s₅=>∃m,m<n/\I m s₅) (notedBy (model prog w) A env fun e s'=>R (.error e) s') s₄) (notedBy (model prog w) A env fun e s'=>R (.error e) s') s₃
      else ∃m,m<n/\I m s₃) (notedBy (model prog w) A env fun e s'=>R (.error e) s') s₂) (notedBy (model prog w) A env fun e s'=>R (.error e) s') s₀) (notedBy (model prog w) A env fun e s'=>R (.error e) s') s₁) (notedBy (model prog w) A env fun e s'=>R (.error e) s') s)
  (n:Nat) (h:I n s):codeAny (model prog w) A (.compLoop (.ListComp elt [⟨target,iter,ifs,0⟩] scope pos) 0 it acc env) R s:=by
 refine codeAny_loop rfl I (fun n s hI=>?_) n h;show wpAny _ A ((compTurn (.ListComp elt [⟨target,iter,ifs,0⟩] scope pos) 0 it acc env).onRaise (fun x=>do noteFrame x env;theTreesLotGoes x)) _ _ s;refine wpAny_noted ?_;rw [compTurn_list];refine yab (ycR (yab (yaR (turn n s hI) (fun r s₁ h₁=>?_) fun _ _ h'=>h')))
 cases r with
 | none=>exact yam h₁
 | some v =>
  refine yab (yaR h₁ (fun _ s₀ h₀=>?_) fun _ _ h'=>h');refine yab (yaR h₀ (fun _ s₂ h₂=>yab (yaR h₂ (fun ok s₃ h₃=>?_) fun _ _ h'=>h')) fun _ _ h'=>h')
  cases ok with
  | false=>exact yam ⟨rfl,h₃⟩
  | true =>
   exact yab (yab (yaR h₃ (fun x s₄ h₄=>yab (yaR h₄ (fun _ s₅ h₅=>yam (yam ⟨rfl,h₅⟩)) fun _ _ h'=>h')) fun _ _ h'=>h'))
end
theorem za9:∀(names:List (Str×NameKind)) (n:Nat) (acc:List (Str×Addr)),cellsFrom n names acc=cellsFrom n names []++acc
 | [],_,_=>rfl
 | (x,k)::r,n,acc=>by
  unfold cellsFrom;split
  ·rw [za9 r (n+1) ((x,n)::acc),za9 r (n+1) [(x,n)]];simp
  ·exact za9 r n acc
theorem zcI:∀(names:List (Str×NameKind)) (n:Nat) {x:Str} {c:Addr},(x,c)∈cellsFrom n names []->(x,NameKind.cell)∈names
 | [],_,_,_,h=>by cases h
 | (y,k)::r,n,x,c,h=>by
  unfold cellsFrom at h;split at h
  ·rename_i hk;rw [za9] at h
   rcases yaV.mp h with h | h
   ·exact yar _ (zcI r _ h)
   ·rw [yaF] at h;cases h;rw [ybP.mp hk];exact yaw
  ·exact yar _ (zcI r _ h)
theorem zbY{α:Type}:∀{l m:List (Str×α)},(l++m).lookup x=(l.lookup x).or (m.lookup x)
 | [],m=>rfl
 | (y,a)::l,m=>by
  rw [List.cons_append,yaB,yaB]
  cases x == y with
  | true=>rfl
  | false=>exact zbY
theorem zbW:∀(names:List (Str×NameKind)) (n:Nat) {x:Str},(x,NameKind.cell)∈names->∃c,(cellsFrom n names []).lookup x=some c
 | [],_,_,h=>by cases h
 | (y,k)::r,n,x,h=>by
  unfold cellsFrom;split
  ·rename_i hk;rw [za9,zbY]
   rcases yav.mp h with e | h
   ·cases e
    cases hq:(cellsFrom (n+1) r []).lookup y with
    | some c=>exact ⟨c,rfl⟩
    | none=>exact ⟨n,by simp [yaB]⟩
   ·obtain ⟨c,e⟩:=zbW r (n+1) h;rw [e];exact ⟨c,rfl⟩
  ·rename_i hk
   rcases yav.mp h with e | h
   ·cases e;exact absurd rfl hk
   ·exact zbW r n h
def zcj{M:Model}{A:Around}{E:Z5}{s:Shared}{scope:Scope}{globals:Addr}{closure:List (Str×Addr)}{qual:Str}{func:Option Addr}{code:Value}{outer:Env}{builtins:Addr}{Q:Env->Shared->Prop}
  (hQ:∀h',h'.Ns s.heap.objs.size (fun _=>none)->(∀b o,s.heap.get? b=some o->h'.get? b=some o)->CellsOk h' (s.heap.objs.size+1) (cellsFrom (s.heap.objs.size+1) scope.names []) →
   Q (newEnv scope s.heap.objs.size globals (cellsFrom (s.heap.objs.size+1) scope.names []++closure) qual func code (some outer) builtins) { s with heap:=h' }) :
  wpAny M A (newFunctionEnv scope globals closure [] qual func code (some outer) builtins) Q E s:=by
 simp only [newFunctionEnv,ycI,ycT];refine yab (wpAny_alloc ?_);refine yab (wpAny_layCells _ (fun name kind cells=>by cases hkc:kind == NameKind.cell<;>simp [hkc]) _ _ _ _ ?_);have ok:=cellsFrom_ok scope.names (s.heap.push { cls:=.type "dict",data:=.dict #[] }) (s.heap.objs.size+1) [] ⟨fun _ _ hm=>(nomatch hm),List.Pairwise.nil⟩ (by rw [yaW];exact yag _);rw [yaW] at ok;rw [show ({ s with heap:=s.heap.push { cls:=.type "dict",data:=.dict #[] } }:Shared).heap.objs.size=s.heap.objs.size+1 from yaW ..];rw [za9];simp only [List.forIn_nil];refine yab (yam (yam ?_));exact hQ _ ((Heap.Ns.new s.heap (.type "dict")).keeps (pushCells_keeps _ _)) (fun b o e=>pushCells_keeps _ _ b o (yae _ e)) ok
structure CompScopeG(sc scope:Scope)(N:List Str)(xs:List Str)(caps:List (Str×Nat)):Prop where
 nd:(scope.names.map (·.1)).Nodup
 kind:scope.kind=.function
 names:∀y∈scope.names,y.2=.local->scope.names.lookup y.1=some .local
 free:∀y∈scope.names,y.2=.free->sc.names.lookup y.1=some .cell\/sc.names.lookup y.1=some .free
 cap:∀p∈caps,N[p.2]?=some p.1/\(p.1,NameKind.free)∈scope.names/\sc.names.lookup p.1≠some .local
 uniq:∀p∈caps,∀z∈scope.names,z.1=p.1->z.2=.free
noncomputable def zbd(X:Cx)(xs:List Str)(caps:List (Str×Nat))(scope:Scope)(cl:List (Str×Addr))(C:Addr)(s:Shared)(H:Hp)(ex:List Addr):Cx :=
 { X with N:=xs++caps.map (·.1),s₀:=s,H₀:=H,env:=compEnvC scope cl C X.env,outer:=X.stack,ex:=ex,fn:=fun x=>decide (scope.names.lookup x=some .cell),pn:=[],xe:=fun _ _=>False }
noncomputable abbrev capσ(σ:St)(n:Nat)(caps:List (Str×Nat)):St:=List.replicate n none++caps.map fun p=>(σ[p.2]?).join
noncomputable def zil(wi:TI)(g:TG)(tt:TT)(te:TE)(n:Nat)(caps:List (Str×Nat)):TE:=fun σ H Q=>wi σ H fun J H1=>∃W:Nat->Nat->List V->St->Hp->Prop,(∃m,W 0 m [] (capσ σ n caps) H1)/\∀i m ys σ' H,W i m ys σ' H →
 ys.length<=sizeLine/\((J.stop i H/\∀p,H p=none->Q (.ref p) (upd H p (.lst ys))) ∨
 (J.go i H/\∀x H',J.yld i H x H'->g x σ' H' fun σ2 H2=>tt σ2 H2 fun ok H3=>if ok=true then te σ2 H3 fun y H4=>∃m',m'<m/\W (i+1) m' (ys++[y]) σ2 H4 else ∃m',m'<m/\W (i+1) m' ys σ2 H3))
section
variable{X:Cx}{elt iter tg:Expr}{xs:List Str}{pos:Pos}{ifs:List Expr}{scope:Scope}{caps:List (Str×Nat)}{wi:TI}{g:TG}{tt:TT}{te:TE}
structure OwnC(X:Cx)(scope:Scope)(lo:Nat)(h:Heap)(cl:List (Str×Addr)):Prop where
 sort:∀y c,cl.lookup y=some c->X.env.cells.lookup y=some c\/(h.IsCell c none/\lo<=c)
 inj:∀y z c,cl.lookup y=some c->cl.lookup z=some c->y=z
 has:∀y,((y,NameKind.free)∈scope.names\/(y,NameKind.cell)∈scope.names)->∃c,cl.lookup y=some c
 own:∀y c,scope.names.lookup y=some .cell->cl.lookup y=some c->lo<=c
 free:∀y,(y,NameKind.free)∈scope.names->∃c,cl.lookup y=some c/\X.env.cells.lookup y=some c
def zgx(h:(relabel scope env).names.lookup y=some .cell\/(relabel scope env).names.lookup y=some .free):(y,NameKind.free)∈scope.names\/(y,NameKind.cell)∈scope.names:=by
 have go:∀k,(relabel scope env).names.lookup y=some k->(k=.cell\/k=.free)->(y,NameKind.free)∈scope.names\/(y,NameKind.cell)∈scope.names:=fun k e hk=>by
  have hm:=yaA e;obtain ⟨⟨n,k0⟩,hp,e2⟩:=yax.mp hm
  by_cases hq:(k0 == .free&&env.scope.kind == .function&&env.kindOf n == some .cell)=true
  ·have e3:(n,NameKind.cell)=(y,k):=by rw [<-e2];show _=if _ then _ else _;rw [if_pos hq]
   cases e3
   have:k0=.free:=by simp only [yaa] at hq;exact eq_of_beq hq.1.1
   subst this;exact .inl hp
  ·have e3:(n,k0)=(y,k):=by rw [<-e2];show _=if _ then _ else _;rw [if_neg hq]
   cases e3
   rcases hk with rfl | rfl
   ·exact .inr hp
   ·exact .inl hp
 rcases h with h | h
 ·exact go _ h (.inl rfl)
 ·exact go _ h (.inr rfl)
theorem zgG:∀{l:List (Str×NameKind)},(l.map (·.1)).Nodup->∀{x:Str} {a b:NameKind},(x,a)∈l->(x,b)∈l->a=b
 | [],_,_,_,_,h,_=>by cases h
 | p::l,nd,x,a,b,h,h'=>by
  rw [yaz,ya6] at nd
  rcases yav.mp h with h | h<;>rcases yav.mp h' with h' | h'
  ·rw [<-h'] at h;exact (Prod.mk.inj h).2
  ·exact absurd (yax.mpr ⟨_,h',by rw [<-h]⟩) nd.1
  ·exact absurd (yax.mpr ⟨_,h,by rw [<-h']⟩) nd.1
  ·exact zgG nd.2 h h'
def zkM{X:Cx}{scope:Scope}{lo n:Nat}{h:Heap}{cl:List (Str×Addr)}(nd:(scope.names.map (·.1)).Nodup)(hn:lo<=n)(hinj:∀x y c,X.env.cells.lookup x=some c->X.env.cells.lookup y=some c->x=y)
  (hcl:∀y c,cl.lookup y=some c->X.env.cells.lookup y=some c) (hlo:∀y c,X.env.cells.lookup y=some c->c<lo) (hhas:∀y,(y,NameKind.free)∈scope.names->∃c,cl.lookup y=some c) (ok:CellsOk h n (cellsFrom n scope.names [])) :
  OwnC X scope lo h (cellsFrom n scope.names []++cl):=by
 have sort:∀y c,(cellsFrom n scope.names []++cl).lookup y=some c->((cellsFrom n scope.names []).lookup y=some c)\/((cellsFrom n scope.names []).lookup y=none/\cl.lookup y=some c):=fun y c e=>by
  rw [zbY] at e
  cases hq:(cellsFrom n scope.names []).lookup y with
  | some c'=>rw [hq] at e;exact .inl e
  | none=>rw [hq] at e;exact .inr ⟨rfl,e⟩
 refine ⟨fun y c e=>?_,fun y z c e e'=>?_,fun y hy=>?_,fun y c hy e=>?_,fun y hy=>?_⟩
 ·rcases sort y c e with z | ⟨_,z⟩
  ·have:=ok.empty y c (yaA z);exact .inr ⟨this.1,yau hn this.2⟩
  ·exact .inl (hcl y c z)
 ·rcases sort y c e with a | ⟨_,a⟩<;>rcases sort z c e' with b | ⟨_,b⟩
  ·exact name_of_addr ok.apart (yaA a) (yaA b)
  ·have h1:=(ok.empty y c (yaA a)).2;have h2:=hlo z c (hcl z c b);exact absurd (yah h2 (yau hn h1)) (yaN _)
  ·have h1:=(ok.empty z c (yaA b)).2;have h2:=hlo y c (hcl y c a);exact absurd (yah h2 (yau hn h1)) (yaN _)
  ·exact hinj y z c (hcl y c a) (hcl z c b)
 ·rw [zbY]
  cases hq:(cellsFrom n scope.names []).lookup y with
  | some c=>exact ⟨c,rfl⟩
  | none =>
   rcases hy with hy | hy
   ·exact hhas y hy
   ·obtain ⟨c,e⟩:=zbW scope.names n hy;rw [hq] at e;cases e
 ·obtain ⟨c',e'⟩:=zbW scope.names n (yaA hy);rw [zbY,e'] at e;have:c'=c:=Option.some.inj e;subst this;exact yau hn (ok.empty y c' (yaA e')).2
 ·obtain ⟨c,e⟩:=hhas y hy;refine ⟨c,?_,hcl y c e⟩;rw [zbY]
  cases hq:(cellsFrom n scope.names []).lookup y with
  | some c' =>
   have:=zcI scope.names n (yaA hq);cases zgG nd hy this
  | none=>exact e
theorem zlC(S:CompScopeG X.env.scope scope X.N xs caps)(hu:∀p∈caps,∀z∈scope.names,z.1=p.1->z.2=.free)
  (I:Inv X pins σ H s) (hcl:OwnC X scope s.heap.objs.size s'.heap cl)
  (hf:∀b∈fp,zlQ X pins H b) (hlt:∀b∈fp,b<s.heap.objs.size) (hC:s.heap.objs.size<=C) (ho:s'.os=s.os) (hg:s'.gens=s.gens) (hk:∀b o,s.heap.get? b=some o->s'.heap.get? b=some o) (hn:s'.heap.Ns C (fun _=>none)) :
  Inv (zbd X xs caps scope cl C s H fp) [] (capσ σ xs.length caps) H s':=by
 have cellK:∀y c,cl.lookup y=some c->∃v,s'.heap.IsCell c v:=fun y c e=>by
  rcases hcl.sort y c e with z | z
  ·obtain ⟨v,o,q,d⟩:=I.cell y c z;exact ⟨v,o,hk _ _ q,d⟩
  ·exact ⟨none,z.1⟩
 refine ⟨⟨I.ok.mod,S.kind,I.ok.glob,I.ok.blt,hC,hcl.inj,fun y hy=>hcl.has y (zgx hy),fun y c z e=>hcl.own y c (yaj z) e,I.ok.hd,I.ok.frames,.inl rfl,fun b hb=>⟨yas (yah (hlt b hb) hC),fun y c e=>(hcl.sort y c e).elim (fun z=>(hf b hb).2.2.2.2.1 y c z) fun z=>yaP (yah (hlt b hb) z.2)⟩,
  I.bs,yau I.ok.bsz I.sz,fun b o e hb=>?_,fun b hb hm=>?_,I.stack,I.stkFree⟩,ho,by rw [hg];exact I.bare,Un.kept hk,⟨_,hn,fun i y v h1 h2 h3=>?_⟩,fun y c e=>cellK y c e,I.hok.fresh hC,fun y c e=>(hcl.sort y c e).elim (I.freeC y c) fun z=>I.hok.fresh z.2,fun p hp=>absurd (show p∈([]:Z3) from hp) (by simp),I.hok.kept hk,?_⟩
 ·rcases (hf b hb).2.2.2.1 with z | z
  ·exact I.ok.noex b o e z
  ·exact absurd (yah (yal e) (yau I.ok.bsz z)) (yaN _)
 ·rcases yav.mp (I.stkSub b hm) with z | z
  ·exact (hf b hb).2.1 z
  ·exact (hf b hb).2.2.1 z
 ·have hi:¬ i<xs.length:=fun hi=>by
   have h2':(capσ σ xs.length caps)[i]?=some (some v):=h2;rw [yat (by rw [yaI];exact hi),yba] at h2'
   split at h2'<;>cases h2'
  ·have h1':(caps.map (·.1))[i-xs.length]?=some y:=by
    have h1':(xs++caps.map (·.1))[i]?=some y:=h1;rwa [yay (by omega)] at h1'
   rw [yao] at h1'
   have h2':(caps.map fun p=>(σ[p.2]?).join)[i-xs.length]?=some (some v):=by
    have h2':(capσ σ xs.length caps)[i]?=some (some v):=h2;rw [yay (by rw [yaI];omega),yaI] at h2';exact h2'
   rw [yao] at h2'
   cases hp:caps[i-xs.length]? with
   | none=>rw [hp] at h1';cases h1'
   | some p =>
    rw [hp] at h1' h2';have ey:p.1=y:=Option.some.inj h1';have ev:(σ[p.2]?).join=some v:=Option.some.inj h2';subst ey;have hmem:p∈caps:=ya8 hp;obtain ⟨c1,c2,c3⟩:=S.cap p hmem
    have eσ:σ[p.2]?=some (some v):=by
     cases q:σ[p.2]? with
     | none=>rw [q] at ev;cases ev
     | some w=>rw [q] at ev;have:w=some v:=ev;rw [this]
    have hfr:=S.free _ c2 rfl;have hv:Vis X.env.scope p.1:=hfr.elim (fun z=>.inr (.inl z)) (fun z=>.inr (.inr z));obtain ⟨m,_,hl⟩:=I.loc;obtain ⟨u,r,l⟩:=hl p.2 p.1 v c1 eσ hv;refine ⟨u,r,.inr ⟨zd5 (scope:=scope) (env:=X.env) c2 (hu p hmem),?_⟩⟩;obtain ⟨c,ec,ec2⟩:=hcl.free p.1 c2;refine ⟨c,ec,?_⟩
    rcases l with ⟨z,_⟩ | ⟨_,c',ec',hcell⟩
    ·exact absurd z c3
    ·have:c'=c:=by rw [ec2] at ec';exact (Option.some.inj ec').symm
     subst this;obtain ⟨o,q,d⟩:=hcell;exact ⟨o,hk _ _ q,d⟩
 ·simp [zbd,capσ]
theorem zg7{use:Option (Value->Sem Unit)}{Qf:Z5}{R:VK}{pins:Z3}{s:Shared}{σ:St}{H:Hp}(hc:X.calm=true)(S:CompScopeG X.env.scope scope X.N xs caps)(hi:PI X tg iter wi)(hg:∀cl C s H fp,PG (zbd X xs caps scope cl C s H fp) tg g)
  (ht:∀cl C s H fp,PIf (zbd X xs caps scope cl C s H fp) ifs tt) (he:∀cl C s H fp,PE (zbd X xs caps scope cl C s H fp) elt te)
  (hs:∀v,foldedSetIterable iter X.env v=pure v) (I:Inv X pins σ H s) (h:zil wi g tt te xs.length caps σ H R)
  (fin:∀(D C:Addr) (s4:Shared) (m4:Z6) (H6:Hp) (r:Flow),s4.heap.Ns C m4->(∀{σ':St} {H7:Hp} {s5:Shared} {h':Heap},Inv X pins σ' H7 s5->Heap.SameBut C s5.heap h'->H7 C=none->Inv X pins σ' H7 { s5 with heap:=h' })->H6 C=none->C≠X.env.locals->(∀y c,X.env.cells.lookup y=some c->C≠c)->Inv X pins σ H6 s4->R (.ref D) H6->compPost (model X.prog X.w) X.A X.xe use Qf (.ref D) C (.ok r) s4) :
  wpAny (model X.prog X.w) X.A (comprehension (.ListComp elt [⟨tg,iter,ifs,0⟩] scope pos) scope X.env (firstIterPos [⟨tg,iter,ifs,0⟩] pos) (newList []) false (eval iter X.env) use) Qf X.xe s:=by
 obtain ⟨cl,hclos,hcl,hhas⟩:=zft (scope:=scope) (env:=X.env) fun y hy hf=>I.ok.has y.1 (S.free y hy hf)
 refine wpAny_comprehension_free (use:=use) rfl hs hclos S.kind S.names (thn (hi pins s σ H _ I h) fun v s1 h1=>thn h1 fun itv s2 h2=>?_);obtain ⟨it,fp,tn,J,H2,rfl,I2,T,st2,f2,W,⟨m0,w0⟩,turn⟩:=h2;refine ycg (zcj (fun h₁ hns₁ hsb₁ hok₁=>?_));dsimp only at hns₁ hsb₁ hok₁ ⊢;generalize hHp:s2.heap.push { cls:=.type "list",dict:=none,data:=.seq ([]:List Value).toArray }=Hq at hns₁ hsb₁ hok₁ ⊢
 have hCe:Hq.objs.size=s2.heap.objs.size+1:=by rw [<-hHp,yaW]
 have hDC:s2.heap.objs.size≠Hq.objs.size:=by rw [hCe];exact yas (ybV _)
 have hC:s2.heap.objs.size<=Hq.objs.size:=by rw [hCe];exact ya4 _
 have old:∀b o,s2.heap.get? b=some o->h₁.get? b=some o:=fun b o e=>hsb₁ b o (hHp ▸ yae _ e)
 have hacc:h₁.get? s2.heap.objs.size=some (lob [] 0):=hsb₁ _ _ (hHp ▸ yaq _ rfl)
 have cellX:∀y c,X.env.cells.lookup y=some c->c<s2.heap.objs.size:=fun y c e=>by obtain ⟨v,q⟩:=I2.cell y c e;exact q.lt
 have oc:=zkM (X:=X) (lo:=s2.heap.objs.size+1) S.nd (by rw [hCe];exact ya4 _) I.ok.inj hcl (fun y c e=>ybs (cellX y c e)) hhas hok₁;generalize hcl2:cellsFrom (Hq.objs.size+1) scope.names []++cl=cl2 at oc ⊢;have oc':OwnC X scope s2.heap.objs.size h₁ cl2:=⟨fun y c e=>(oc.sort y c e).imp id fun z=>⟨z.1,ycM z.2⟩,oc.inj,oc.has,fun y c a e=>ycM (oc.own y c a e),oc.free⟩
 have hlt:∀b∈fp,b<s2.heap.objs.size:=fun b hb=>by obtain ⟨o,e,_⟩:=T.obj 0 _ st2 b hb;exact yal e
 generalize hY:zbd X xs caps scope cl2 Hq.objs.size s2 H2 fp=Y;have PEY:PE Y elt te:=hY ▸ he cl2 _ s2 H2 fp;have PIY:PIf Y ifs tt:=hY ▸ ht cl2 _ s2 H2 fp;have PGY:PG Y tg g:=hY ▸ hg cl2 _ s2 H2 fp
 have I3:Inv Y [] (capσ σ xs.length caps) H2 { s2 with heap:=h₁ }:=by
  rw [<-hY];exact zlC S S.uniq I2 oc' f2 hlt hC rfl rfl old hns₁
 have eYenv:Y.env=compEnvC scope cl2 Hq.objs.size X.env:=by rw [<-hY];rfl
 have eYloc:Y.env.locals=Hq.objs.size:=by rw [eYenv];rfl
 have eYfs:Y.fs=frs X.stack:=by rw [<-hY];rfl
 have eYprog:Y.prog=X.prog:=by rw [<-hY];rfl
 have eYw:Y.w=X.w:=by rw [<-hY];rfl
 have eYK:Y.K=X.K:=by rw [<-hY];rfl
 have eYA:Y.A=X.A:=by rw [<-hY];rfl
 have eYc:Y.calm=true:=by rw [<-hY];exact hc
 have eYex:Y.ex=fp:=by rw [<-hY];rfl
 have eYs:Y.s₀=s2:=by rw [<-hY];rfl
 have eYH:Y.H₀=H2:=by rw [<-hY];rfl
 have eYpn:Y.pn=[]:=by rw [<-hY];rfl
 have eYcell:∀y c,Y.env.cells.lookup y=some c->X.env.cells.lookup y=some c\/s2.heap.objs.size+1<=c:=fun y c e=>(oc.sort y c (by rwa [eYenv] at e)).imp id (·.2)
 have eYxe:∀e s',¬ Y.xe e s':=fun e s' z=>by rwa [<-hY] at z
 have stkX:∀b∈frs X.stack,b<s2.heap.objs.size:=fun b hb=>by
  rcases yav.mp (I2.stkSub b hb) with z | z
  ·rw [z];exact I2.lt
  ·refine Nat.not_le.mp fun hle=>I2.nofs hle z
 have pinX:∀p∈X.pn++pins,p.1<s2.heap.objs.size:=fun p hp=>yal (I2.pin p hp).1
 have fpY:∀{H':Hp} {its:List Value} {k:Nat},(∀b∈fp,H' b=none)->∀b∈fp,zlQ Y [(s2.heap.objs.size,lob its k)] H' b:=fun {H' its k} hn b hb=>by
  refine ⟨hn b hb,by rw [eYloc];exact yas (yah (hlt b hb) hC),?_,.inl (by rw [eYex];exact hb),fun y c e=>(eYcell y c e).elim (fun z=>(f2 b hb).2.2.2.2.1 y c z) fun z=>yaP (yah (hlt b hb) (ycM z)),fun p hp=>?_⟩
  ·rw [eYfs];intro hm
   rcases yav.mp (I2.stkSub b hm) with z | z
   ·exact (f2 b hb).2.1 z
   ·exact (f2 b hb).2.2.1 z
  ·rw [eYpn] at hp
   have e:p=(s2.heap.objs.size,lob its k):=by simpa using hp
   rw [e];exact yaP (hlt b hb)
 have pinD:∀{H':Hp} {σ':St} {s':Shared} {its:List Value} {k:Nat},Inv Y [] σ' H' s'->s'.heap.get? s2.heap.objs.size=some (lob its k)->H' s2.heap.objs.size=none->Inv Y [(s2.heap.objs.size,lob its k)] σ' H' s':=fun {H' σ' s' its k} I' e n =>
  I'.pins_of fun p hp=>by
   have ep:p=(s2.heap.objs.size,lob its k):=by simpa using hp
   subst ep;refine ⟨e,n,by rw [eYloc];exact hDC,?_,fun v z=>?_⟩
   ·rw [eYfs];exact fun hm=>yaN _ (stkX _ hm)
   ·have z':Data.seq its.toArray k=Data.cell v:=z;cases z'
 have loop:codeAny (model X.prog X.w) X.A (.compLoop (.ListComp elt [⟨tg,iter,ifs,0⟩] scope pos) 0 (.ref it) (.ref s2.heap.objs.size) (compEnvC scope cl2 Hq.objs.size X.env))
   (compPost (model X.prog X.w) X.A X.xe use Qf (.ref s2.heap.objs.size) Hq.objs.size) { s2 with heap:=h₁ }:=by
  refine zmQ (fun n s'=>∃i σx H' ys its k,Inv Y [(s2.heap.objs.size,lob its k)] σx H' s'/\tn i s'.heap/\(∀b∈fp,H' b=none)/\Vals ys its/\W i n ys σx H') ?_ m0
   ⟨0,capσ σ xs.length caps,H2,[],[],0,pinD I3 hacc (I2.hok.fresh (yag _)),T.keep _ _ _ st2 fun b hb o e=>old b o e,fun b hb=>(f2 b hb).1,.nil,w0⟩
  rintro n s3 ⟨i,σx,H3,ys,its,k,J3,st3,fr3,rv,w3⟩;obtain ⟨hz,hcase⟩:=turn i n ys σx H3 w3
  rcases hcase with ⟨stop,q⟩ | ⟨go,step⟩
  ·have hd:=T.done Y eYprog eYw eYK eYc i _ s3 _ H3 (notedBy (model X.prog X.w) X.A (compEnvC scope cl2 Hq.objs.size X.env) fun e s'=>compPost (model X.prog X.w) X.A X.xe use Qf (.ref s2.heap.objs.size) Hq.objs.size (.error e) s') J3 (fpY fr3) st3 stop;rw [eYA] at hd;refine thn hd fun r s4 ⟨hr,J4⟩=>?_
   subst hr;obtain ⟨m4,hn4,_⟩:=J4.loc
   have hn4':s4.heap.Ns Hq.objs.size m4:=by rw [<-eYloc];exact hn4
   have hnC:H3 Hq.objs.size=none:=by rw [<-eYloc];exact J4.free
   have hk5:HOk X.prog X.w H3 s4.heap:=by rw [<-eYprog,<-eYw];exact J4.hok
   have u5:Un (frs X.stack) fp H2 H3 s2.heap s4.heap:=by
    have ub:=J4.base;rwa [eYfs,eYex,eYH,eYs] at ub
   have J5:Inv X pins σ H3 s4:=I2.call' (s':=s4) (ch:=fp) (by have:=J4.os;rwa [eYs] at this) u5 hk5 J4.bare fun b hb=>⟨(f2 b hb).2.2.2.1,(f2 b hb).2.1,(f2 b hb).2.2.2.2.1,(f2 b hb).2.2.2.2.2⟩
   have hp4:=J4.pin (s2.heap.objs.size,lob its k) (yaH _ yaw);have hD5:s4.heap.get? s2.heap.objs.size=some (lob its k):=hp4.1;have J6:Inv X pins σ (upd H3 s2.heap.objs.size (.lst ys)) s4:=J5.track hp4.2.1 I2.sz (yaP I2.lt) (fun y c e=>yas (cellX y c e)) (fun p hp=>yas (pinX p hp)) (show zaY X.prog X.w _ s4.heap _ (.lst ys) from ⟨hz,its,k,rv,hD5⟩);have hCloc:Hq.objs.size≠X.env.locals:=yaP (yah I2.lt hC);exact fin _ Hq.objs.size s4 m4 _ _ hn4' (fun {σ'} {H7} {s5} {h'} J sb' hn=>J.turned (t':=s5.toks) (it:=Hq.objs.size) (fun b o hb e=>(sb'.2 b hb).trans e) hn hCloc (.inr (yau I2.sz hC)) (fun y c e=>yas (yah (cellX y c e) hC)) (fun p hp=>yas (yah (pinX p hp) hC))) (by rw [zag (Ne.symm hDC)];exact hnC) hCloc (fun y c e=>yaP (yah (cellX y c e) hC)) J6 (q _ hp4.2.1)
  ·have hd:=T.item Y eYprog eYw eYK eYc i _ s3 _ H3 (notedBy (model X.prog X.w) X.A (compEnvC scope cl2 Hq.objs.size X.env) fun e s'=>compPost (model X.prog X.w) X.A X.xe use Qf (.ref s2.heap.objs.size) Hq.objs.size (.error e) s') J3 (fpY fr3) st3 go;rw [eYA] at hd;refine thn hd fun r s4 ⟨u,hr,h4⟩=>?_
   subst hr;refine thn h4 fun _ s5 ⟨v4,H4,J4,r4,y4,st5,fr4⟩=>?_
   have J4':=J4.pinned (fp:=fp) (fpY fr4) (T.obj _ _ st5);have ha:=PGY _ s5 σx H4 v4 u _ J4' r4 (step v4 H4 y4);rw [eYprog,eYw,eYA,eYenv] at ha;refine yaR ha (fun _ s5' ⟨σ5,H5,J5',q5⟩=>?_) fun e s' z=>(eYxe _ _ z).elim
   have ht5:=PIY _ s5' σ5 H5 _ J5' q5;rw [eYprog,eYw,eYA,eYenv] at ht5;refine yaR ht5 (fun ok s6 ⟨H6,J6,q6⟩=>?_) fun e s' z=>(eYxe _ _ z).elim
   have back:∀{H7:Hp} {s7:Shared},Inv Y ([(s2.heap.objs.size,lob its k)]++zgD fp s5.heap) σ5 H7 s7->tn (i+1) s7.heap/\∀b∈fp,H7 b=none:=fun {H7 s7} J7 =>
    ⟨T.keep _ _ _ st5 fun b hb o e=>(J7.pin (b,o) (yaH _ (yaH _ (zdf hb e)))).1,fun b hb=>by
     obtain ⟨o,e,d⟩:=T.obj _ _ st5 b hb
     exact (J7.pin (b,o) (yaH _ (yaH _ (zdf hb e)))).2.1⟩
   cases ok with
   | false =>
    rw [if_neg yaU] at q6;rw [if_neg yaU];obtain ⟨m',hm',w6⟩:=q6;exact ⟨m',hm',i+1,σ5,H6,ys,its,k,J6.unpinned,(back J6).1,(back J6).2,rv,w6⟩
   | true =>
    rw [if_pos rfl] at q6;rw [if_pos rfl];have he6:=PEY _ s6 _ H6 _ J6 q6;rw [eYprog,eYw,eYA,eYenv] at he6;refine yaR he6 (fun u7 s7 ⟨v7,H7,J7,r7,m',hm',w7⟩=>?_) fun e s' z=>(eYxe _ _ z).elim
    obtain ⟨st7,fr7⟩:=back J7;have hp7:=(J7.unpinned).pin (s2.heap.objs.size,lob its k) (yaH _ yaw);have hl:=rv.length;refine append_at (hsz:=by show its.toArray.size<=sizeLine;rw [yak];omega) hp7.1 fun h8 sb8 hD8=>?_
    have J7':Inv Y [] σ5 H7 s7:=J7.unpinned.pins_of fun p hp=>absurd hp (by simp)
    have J8:Inv Y [] σ5 H7 { s7 with heap:=h8 }:=J7'.turned (t':=s7.toks) (it:=s2.heap.objs.size) (fun b o hb e=>(sb8.2 b hb).trans e) hp7.2.1 (by rw [eYloc];exact hDC) (.inr (by rw [eYs];exact yag _)) (fun y c e=>(eYcell y c e).elim (fun z=>yas (cellX y c z)) fun z=>yaP z) (fun p hp=>by rw [eYpn] at hp;simp at hp)
    have hD8':h8.get? s2.heap.objs.size=some (lob (its++[u7]) (k+1)):=by rw [hD8];simp [lob]
    exact ⟨m',hm',i+1,σ5,H7,ys++[v7],its++[u7],k+1,pinD J8 hD8' hp7.2.1,T.keep _ _ _ st7 fun b hb o e=>(sb8.2 b (yas (hlt b hb))).trans e,fr7,rv.append (.cons r7 .nil),w7⟩
 exact codeAny_compStart_list loop (T.self X.A 0 _ _ _ (T.keep _ _ _ st2 fun b hb o e=>old b o e) loop)
def zmA(hc:X.calm=true)(S:CompScopeG X.env.scope scope X.N xs caps)(hi:PI X tg iter wi)(hg:∀cl C s H fp,PG (zbd X xs caps scope cl C s H fp) tg g)
  (ht:∀cl C s H fp,PIf (zbd X xs caps scope cl C s H fp) ifs tt) (he:∀cl C s H fp,PE (zbd X xs caps scope cl C s H fp) elt te)
  (hs:autoParam (∀v,foldedSetIterable iter X.env v=pure v) yAU):PE X (.ListComp elt [⟨tg,iter,ifs,0⟩] scope pos) (zil wi g tt te xs.length caps):=by
 intro pins s σ H Q I h;rw [eval_ListComp];exact zg7 (use:=none) hc S hi hg ht he hs I h fun D C s4 m4 H6 r hn tr hC _ _ J6 q=>⟨m4,hn,fun h5 sb=>⟨.ref D,H6,tr J6 sb hC,rfl,q⟩⟩
def zmo(hc:X.calm=true)(S:CompScopeG X.env.scope scope X.N xs caps)(hN0:X.N.Nodup)(hi0:X.N[k0]?=some y0)(hx0:Loc X.env.scope y0)(hi:PI X tg iter wi)(hg:∀cl C s H fp,PG (zbd X xs caps scope cl C s H fp) tg g)
  (ht:∀cl C s H fp,PIf (zbd X xs caps scope cl C s H fp) ifs tt) (he:∀cl C s H fp,PE (zbd X xs caps scope cl C s H fp) elt te)
  (hsw:swapsWith (.ListComp elt [⟨tg,iter,ifs,0⟩] scope pos) (some (.Name y0 py)) spos.line X.env=pure true)
  (hf0:X.fn y0=true\/X.env.scope.names.lookup y0=some .local)
  (hs:∀v,foldedSetIterable iter X.env v=pure v):PS X (.Assign [.Name y0 py] (.ListComp elt [⟨tg,iter,ifs,0⟩] scope pos) spos) (zqN (zil wi g tt te xs.length caps) (zli k0)):=by
 intro pins s σ H DD I h;rw [exec_Assign_Name_used _ _ _ _ hsw];refine yab (ycR (yab ?_));show wpAny _ X.A (do let _ ← comprehension (.ListComp elt [⟨tg,iter,ifs,0⟩] scope pos) scope X.env _ (newList []) false (eval iter X.env) (some (assign (.Name y0 py) X.env))) _ _ s;refine yab (yaR (zg7 (use:=some (assign (.Name y0 py) X.env)) (Qf:=fun _ s'=>SP X pins DD .next s') hc S hi hg ht he hs I h fun D C s4 m4 H6 r hn tr hC hl hce J6 q=>?_) (fun _ s' hq=>yam (yam hq)) fun _ _ e=>e);show wpAny _ X.A (assign (.Name y0 py) X.env (.ref D)) _ X.xe s4;refine wpAny_assign_Name (zgo (i:=k0) J6 hN0 hi0 hx0 (v:=.ref D) rfl (fun s5 J7 ⟨a,sb,ha⟩=>?_) hf0);have haC:C≠a:=ha.elim (fun z=>by rw [z];exact hl) fun z=>hce _ _ z
 exact ⟨m4,hn.sameBut sb haC,fun h' sb'=>⟨_,_,tr J7 sb' hC,q⟩⟩
end
section
variable{κ:Type}[DecidableEq κ]
noncomputable def zeg(kvs:List (κ×V))(k:κ):Option V:=(kvs.find? fun kv=>decide (kv.1=k)).map (·.2)
noncomputable def zen(kvs:List (κ×V))(k:κ)(v:V):List (κ×V) :=
 if (kvs.any fun kv=>decide (kv.1=k))=true then kvs.map (fun kv=>if kv.1=k then (kv.1,v) else kv) else kvs++[(k,v)]
noncomputable def zeN(kvs:List (κ×V))(k:κ):List (κ×V):=kvs.filter fun kv=>decide (kv.1≠k)
def zc9{p:κ×V}{r:List (κ×V)}{k:κ}(e:p.1=k):zeg (p::r) k=some p.2:=by simp [zeg,ybM,e]
def zda{p:κ×V}{r:List (κ×V)}{k:κ}(e:¬ p.1=k):zeg (p::r) k=zeg r k:=by simp [zeg,ybM,e]
theorem zeb(k:κ):∀kvs:List (κ×V),(kvs.any fun kv=>decide (kv.1=k))=(zeg kvs k).isSome
 | []=>rfl
 | p::r=>by
  rw [ycS]
  by_cases e:p.1=k
  ·simp only [zc9 e,yaE e,Bool.true_or,ycI]
  ·rw [zda e,yaG e,Bool.false_or];exact zeb k r
theorem zcD(kvs:List (κ×V))(k:κ)(v:V):(zen kvs k v).length<=kvs.length+1:=by
 unfold zen;split
 ·rw [yad];omega
 ·rw [yan,yaf,List.length_nil];omega
def zml{kvs:List (κ×V)}{k:κ}(v:V)(h:zeg kvs k=none):zen kvs k v=kvs++[(k,v)]:=by
 unfold zen;rw [zeb,h];exact if_neg (by decide)
def zfA.isSome_eq{o:Option V}{u:Option Value}(r:zfA o u):o.isSome=u.isSome:=by
 cases o with
 | none=>cases u with
  | none=>rfl
  | some _=>exact (show False from r).elim
 | some _=>cases u with
  | none=>exact (show False from r).elim
  | some _=>rfl
theorem zfA.getD{o:Option V}{u:Option Value}{d:V}{d':Value}(r:zfA o u)(rd:zaX d d'):zaX (o.getD d) (u.getD d'):=by
 cases o with
 | none=>cases u with
  | none=>exact rd
  | some _=>exact (show False from r).elim
 | some _=>cases u with
  | none=>exact (show False from r).elim
  | some _=>exact r
def KV.val{kvs:List (κ×V)}{vs:List (κ×Value)}(r:KV kvs vs)(k:κ):zfA (zeg kvs k) (valueAt vs k):=by
 unfold KV at r
 induction r with
 | nil=>exact True.intro
 | @cons p q ps qs h t ih =>
  obtain ⟨h1,h2⟩:=h
  by_cases e:p.1=k
  ·have e':q.1=k:=h1.symm.trans e
   have b:valueAt (q::qs) k=some q.2:=by simp [valueAt,ybM,e']
   rw [zc9 e,b];exact h2
  ·have e':¬ q.1=k:=fun z=>e (h1.trans z)
   have b:valueAt (q::qs) k=valueAt qs k:=by simp [valueAt,ybM,e']
   rw [zda e,b];exact ih
theorem KV.any{kvs:List (κ×V)}{vs:List (κ×Value)}(r:KV kvs vs)(k:κ):(kvs.any fun kv=>decide (kv.1=k))=vs.any fun kv=>decide (kv.1=k):=by
 unfold KV at r
 induction r with
 | nil=>rfl
 | cons h t ih=>rw [ycS,ycS,ih,h.1]
def KV.repl{kvs:List (κ×V)}{vs:List (κ×Value)}(r:KV kvs vs)(k:κ){y:V}{u:Value}(ry:zaX y u) :
  KV (kvs.map fun kv=>if kv.1=k then (kv.1,y) else kv) (vs.map fun kv=>if kv.1=k then (kv.1,u) else kv):=by
 unfold KV at r ⊢
 induction r with
 | nil=>exact .nil
 | @cons p q ps qs h t ih =>
  rw [yaz,yaz];refine .cons ?_ ih;obtain ⟨h1,h2⟩:=h
  by_cases e:p.1=k
  ·rw [if_pos e,if_pos (h1.symm.trans e)];exact ⟨h1,ry⟩
  ·rw [if_neg e,if_neg (fun z=>e (h1.trans z))];exact ⟨h1,h2⟩
def KV.put{kvs:List (κ×V)}{vs:List (κ×Value)}(r:KV kvs vs)(k:κ){y:V}{u:Value}(ry:zaX y u):KV (zen kvs k y) (stored vs k u):=by
 unfold zen stored;rw [r.any k]
 by_cases e:(vs.any fun kv=>decide (kv.1=k))=true
 ·rw [if_pos e,if_pos e];exact r.repl k ry
 ·rw [if_neg e,if_neg e];exact Paired.snoc r ⟨rfl,ry⟩
def KV.drop{kvs:List (κ×V)}{vs:List (κ×Value)}(r:KV kvs vs)(k:κ):KV (zeN kvs k) (without vs k):=by
 unfold KV at r ⊢;unfold zeN without
 induction r with
 | nil=>exact .nil
 | @cons p q ps qs h t ih =>
  obtain ⟨h1,h2⟩:=h;rw [ybW,ybW]
  by_cases e:p.1=k
  ·have a:¬ decide (p.1≠k)=true:=by simp [e]
   have b:¬ decide (q.1≠k)=true:=by simp [h1.symm.trans e]
   rw [if_neg a,if_neg b];exact ih
  ·have e':¬ q.1=k:=fun z=>e (h1.trans z)
   have a:decide (p.1≠k)=true:=by simp [e]
   have b:decide (q.1≠k)=true:=by simp [e']
   rw [if_pos a,if_pos b];exact .cons ⟨h1,h2⟩ ih
def KV.keys{kvs:List (κ×V)}{vs:List (κ×Value)}(r:KV kvs vs):kvs.map (·.1)=vs.map (·.1):=by
 unfold KV at r
 induction r with
 | nil=>rfl
 | cons h t ih=>rw [yaz,yaz,ih,h.1]
theorem KV.length{kvs:List (κ×V)}{vs:List (κ×Value)}(r:KV kvs vs):kvs.length=vs.length:=Paired.length r
def zna(kvs:List (κ×V))(k:κ):(zeN kvs k).length<=kvs.length:=List.length_filter_le _ _
end
def ze3{P:Program}{w:World}{k:Key}{u:Value}(r:zaX (kV k) u):(zaB P w).is k u=true:=by
 cases k with
 | inl i=>obtain ⟨t,e⟩:=(show ∃t,u=Value.int i t from r);subst e;exact zhM P w i t
 | inr x=>obtain ⟨t,e⟩:=(show ∃t,u=Value.str x t from r);subst e;exact zhL P w x t
theorem zgP{P:Program}{w:World}:∀{ks:List Key} {us:List Value},Vals (ks.map kV) us->ItemsAre (zaB P w) ks us
 | [],_,r=>by rw [List.map_nil] at r;cases r;exact .nil
 | k::ks,_,r=>by
  rw [yaz] at r
  cases r with
  | cons h t=>exact .cons (ze3 h) (zgP t)
noncomputable abbrev KT(H:Hp):List (List Key×V)->List (List Key×Addr×Value)->Prop:=Paired fun p q=>p.1=q.1/\H q.2.1=some (.tup (p.1.map kV))/\zaX p.2 q.2.2
def KT.val{H:Hp}{kvs:List (List Key×V)}{xs:List (List Key×Addr×Value)}(r:KT H kvs xs)(k:List Key):zfA (zeg kvs k) ((atKey xs k).map (·.2)):=by
 induction r with
 | nil=>exact True.intro
 | @cons p q ps qs h t ih =>
  obtain ⟨h1,_,h2⟩:=h
  by_cases e:p.1=k
  ·have e':q.1=k:=h1.symm.trans e
   have b:atKey (q::qs) k=some q.2:=by simp [atKey,ybM,e']
   rw [zc9 e,b];exact h2
  ·have e':¬ q.1=k:=fun z=>e (h1.trans z)
   have b:atKey (q::qs) k=atKey qs k:=by simp [atKey,ybM,e']
   rw [zda e,b];exact ih
def KT.repl{H:Hp}{kvs:List (List Key×V)}{xs:List (List Key×Addr×Value)}(r:KT H kvs xs)(k:List Key){y:V}{u:Value}(ry:zaX y u) :
  KT H (kvs.map fun kv=>if kv.1=k then (kv.1,y) else kv) (xs.map (putAt k u)):=by
 induction r with
 | nil=>exact .nil
 | @cons p q ps qs h t ih =>
  rw [yaz,yaz];refine .cons ?_ ih;obtain ⟨h1,h2,h3⟩:=h;unfold putAt
  by_cases e:p.1=k
  ·rw [if_pos e,if_pos (h1.symm.trans e)];exact ⟨h1,h2,ry⟩
  ·rw [if_neg e,if_neg (fun z=>e (h1.trans z))];exact ⟨h1,h2,h3⟩
def KT.put{H:Hp}{kvs:List (List Key×V)}{xs:List (List Key×Addr×Value)}(r:KT H kvs xs)(k:List Key){b:Addr}{y:V}{u:Value}(hb:H b=some (.tup (k.map kV)))(ry:zaX y u) :
  KT H (zen kvs k y) (storedH xs k b u):=by
 have e:(kvs.any fun kv=>decide (kv.1=k))=(atKey xs k).isSome:=by
  rw [zeb,(r.val k).isSome_eq,ycN]
 unfold zen storedH;rw [e]
 by_cases q:(atKey xs k).isSome=true
 ·rw [if_pos q,if_pos q];exact r.repl k ry
 ·rw [if_neg q,if_neg q];exact Paired.snoc r ⟨rfl,hb,ry⟩
def KT.keeps{H H':Hp}{kvs:List (List Key×V)}{xs:List (List Key×Addr×Value)}(r:KT H kvs xs)(ht:∀b ys,H b=some (.tup ys)->H' b=some (.tup ys)):KT H' kvs xs :=
 Paired.mapP r fun _ _ z=>⟨z.1,ht _ _ z.2.1,z.2.2⟩
section
variable{P:Program}{w:World}{H:Hp}{h:Heap}{a:Addr}
def zrG{u:HO}(ok:HOk P w H h)(e:Rd H a u):zaY P w H h a u:=e.ok ok
def zeO{kvs:List (Key×V)}(ok:HOk P w H h)(e:Rd H a (.dK kvs)):kvs.length<=sizeLine/\(a == sysModules)=false/\∃vs,KV kvs vs/\h.DictOf (zaB P w) a vs :=
 show zaY P w H h a (.dK kvs) from zrG ok e
def znb{kvs:List (Key×V)}(ok:HOk P w H h)(e:H a=some (.dK kvs)):kvs.length<=sizeLine/\(a == sysModules)=false/\∃vs,KV kvs vs/\h.DictOf (zaB P w) a vs:=zeO ok (.inl e)
def zfi{ks:List Key}(ok:HOk P w H h)(e:H a=some (.tup (ks.map kV))):(tupleKind (zaB P w)).is h ks a:=by
 obtain ⟨_,its,r,o,h1,h2,n,h3,_⟩:=(show zaY P w H h a (.tup (ks.map kV)) from ok a _ e);exact ⟨o,its.toArray,n,h1,h2,h3,by simpa using zgP r⟩
def zhV{kvs:List (List Key×V)}(ok:HOk P w H h)(e:Rd H a (.dT kvs)):kvs.length<=sizeLine/\(a == sysModules)=false ∧
  ∃xs,KT H kvs xs/\h.DictOfH (tupleKind (zaB P w)) a xs:=by
 obtain ⟨z,y,xs,r,o,es,ep,h1,h2,h3,h4,h5⟩:=(show zaY P w H h a (.dT kvs) from zrG ok e);refine ⟨z,y,xs,r,o,es,ep,h1,h2,h3,h4,fun x hx=>?_,h5⟩
 have all:∀{l:List (List Key×V)} {m:List (List Key×Addr×Value)},KT H l m->∀x∈m,(tupleKind (zaB P w)).is h x.1 x.2.1:=by
  intro l m q
  induction q with
  | nil=>intro x hx;exact nomatch hx
  | @cons p q ps qs hq t ih =>
   intro x hx
   rcases yav.mp hx with e | hx
   ·subst e;exact zfi ok (by rw [<-hq.1];exact hq.2.1)
   ·exact ih x hx
 exact all r x hx
def zu2{kvs:List (List Key×V)}(ok:HOk P w H h)(e:H a=some (.dT kvs)):kvs.length<=sizeLine/\(a == sysModules)=false ∧
  ∃xs,KT H kvs xs/\h.DictOfH (tupleKind (zaB P w)) a xs:=zhV ok (.inl e)
end
noncomputable def zh8(H:Hp)(a:Addr)(y:V)(r:Option V):Prop :=
 (∃kvs k,Rd H a (.dK kvs)/\y=kV k/\r=zeg kvs k)\/∃kvs k b,Rd H a (.dT kvs)/\y=.ref b/\H b=some (.tup (k.map kV))/\r=zeg kvs k
noncomputable def zqJ(H:Hp)(a:Addr)(y v:V)(H':Hp):Prop :=
 (∃kvs k,H a=some (.dK kvs)/\y=kV k/\kvs.length<sizeLine/\H'=upd H a (.dK (zen kvs k v))) ∨
 ∃kvs k b,H a=some (.dT kvs)/\y=.ref b/\H b=some (.tup (k.map kV))/\kvs.length<sizeLine/\H'=upd H a (.dT (zen kvs k v))
theorem zh8.k{H:Hp}{a:Addr}{kvs:List (Key×V)}{k:Key}(e:H a=some (.dK kvs)):zh8 H a (kV k) (zeg kvs k):=.inl ⟨kvs,k,.inl e,rfl,rfl⟩
theorem zqJ.k{H:Hp}{a:Addr}{kvs:List (Key×V)}{k:Key}{v:V}(e:H a=some (.dK kvs))(hl:kvs.length<sizeLine):zqJ H a (kV k) v (upd H a (.dK (zen kvs k v))):=.inl ⟨kvs,k,e,rfl,hl,rfl⟩
section
variable{X:Cx}{pins:Z3}{σ:St}{H:Hp}{s:Shared}{a:Addr}{y v:V}{u r:Value}{o:Option V}{A:Around}{E:Z5}
def Inv.big(I:Inv X pins σ H s):sysModules<s.heap.objs.size:=by
 have h:mainGlobals<s.heap.objs.size:=(I.mod.glob.keeps I.bk).lt;exact Nat.lt_trans (by decide) h
def zg4{Q:Z5}(hu:A.units+1<cLine)(I:Inv X pins σ H s)(g:zh8 H a y (some v))(ry:zaX y u)(h:∀w' s',Inv X pins σ H s'->zaX v w'->Q w' s') :
  wpAny (model X.prog X.w) A (getItem (.ref a) u) Q E s:=by
 rcases g with ⟨kvs,k,e,ey,l⟩ | ⟨kvs,k,b,e,ey,eb,l⟩
 ·subst ey;obtain ⟨z,hd,vs,rel,dd⟩:=zeO I.hok e;obtain ⟨w',hw,rw'⟩:=zfA.some_of (v:=v) (o:=valueAt vs k) (by rw [l];exact rel.val k);exact wpAny_getItem_of (ze3 ry) dd.mapOf hw (h w' _ (I.tok _) rw')
 ·subst ey;cases (show u=Value.ref b from ry);obtain ⟨z,hd,xs,rel,dd⟩:=zhV I.hok e;obtain ⟨w',hw,rw'⟩:=zfA.some_of (v:=v) (o:=(atKey xs k).map (·.2)) (by rw [l];exact rel.val k);obtain ⟨p,hp,hp2⟩:=yap.mp hw;refine wpAny_getItem_heap (ybE hu) (zfi I.hok eb) dd hp ?_;rw [hp2];exact h w' _ (I.tok _) rw'
def zwx{Q:Z5}(hu:A.units+1<cLine)(I:Inv X pins σ H s)(g:zh8 H a y o)(ry:zaX y u)(h:∀s',Inv X pins σ H s'->Q (.bool o.isSome) s') :
  wpAny (model X.prog X.w) A (compareOp .In u (.ref a)) Q E s:=by
 rcases g with ⟨kvs,k,e,ey,l⟩ | ⟨kvs,k,b,e,ey,eb,l⟩
 ·subst ey;obtain ⟨z,hd,vs,rel,dd⟩:=zeO I.hok e;refine wpAny_in_of (ze3 ry) hd dd.mapOf ?_;rw [<-(rel.val k).isSome_eq,<-l];exact h _ (I.tok _)
 ·subst ey;cases (show u=Value.ref b from ry);obtain ⟨z,hd,xs,rel,dd⟩:=zhV I.hok e;refine wpAny_in_heap (ybE hu) (zfi I.hok eb) hd dd ?_;have q:=(rel.val k).isSome_eq;rw [ycN] at q;rw [<-q,<-l];exact h _ (I.tok _)
def zlz{Q:Z5}(hu:A.units+1<cLine)(I:Inv X pins σ H s)(g:zh8 H a y o)(ry:zaX y u)(h:∀s',Inv X pins σ H s'->Q (.bool (!o.isSome)) s') :
  wpAny (model X.prog X.w) A (compareOp .NotIn u (.ref a)) Q E s:=by
 rcases g with ⟨kvs,k,e,ey,l⟩ | ⟨kvs,k,b,e,ey,eb,l⟩
 ·subst ey;obtain ⟨z,hd,vs,rel,dd⟩:=zeO I.hok e;refine wpAny_notIn_of (ze3 ry) hd dd.mapOf ?_;rw [<-(rel.val k).isSome_eq,<-l];exact h _ (I.tok _)
 ·subst ey;cases (show u=Value.ref b from ry);obtain ⟨z,hd,xs,rel,dd⟩:=zhV I.hok e;refine wpAny_notIn_heap (ybE hu) (zfi I.hok eb) hd dd ?_;have q:=(rel.val k).isSome_eq;rw [ycN] at q;rw [<-q,<-l];exact h _ (I.tok _)
def zf7{h':Heap}{t':Nat}{ob:HO}(I:Inv X pins σ H s)(mu:Mut (H a))(hs:Heap.SameBut a s.heap h')(he:∃q,h'.get? a=some q)(new:zaY X.prog X.w (upd H a ob) h' a ob) :
  Inv X pins σ (upd H a ob) { s with heap:=h',toks:=t' } :=
 I.write (x:=a) (e:=a) mu (.inl rfl) (fun b q hb z=>(hs.2 b hb).trans z) he new
def ziZ{P:Program}{w:World}{H':Hp}{h':Heap}{kvs:List (Key×V)}{vs:List (Key×Value)}(z:kvs.length<=sizeLine)(hd:(a == sysModules)=false)(rel:KV kvs vs)(dd:h'.DictOf (zaB P w) a vs) :
  zaY P w H' h' a (.dK kvs):=⟨z,hd,vs,rel,dd⟩
def zg3{H':Hp}{Q:Unit->Shared->Prop}(hu:A.units+1<cLine)(I:Inv X pins σ H s)(g:zqJ H a y v H')(ry:zaX y u)(rv:zaX v r)(h:∀s',Inv X pins σ H' s'->Q () s') :
  wpAny (model X.prog X.w) A (setItem (.ref a) u r) Q E s:=by
 rcases g with ⟨kvs,k,e,ey,l,eH⟩ | ⟨kvs,k,b,e,ey,eb,l,eH⟩
 ·subst ey eH;obtain ⟨z,hd,vs,rel,dd⟩:=znb I.hok e
  have hz:vs.length<=sizeLine:=by rw [<-rel.length];exact z
  have hl:(zen kvs k v).length<=sizeLine:=by have:=zcD kvs k v;omega
  refine wpAny_setItem_pairs (hsz:=hz) (ze3 ry) dd fun h' dd' hs=>h _ ?_
  have he:∃q,h'.get? a=some q:=let ⟨q,_,_,hq,_⟩:=dd';⟨q,hq⟩
  exact zf7 I (by rw [e];exact True.intro) hs he (ziZ hl hd (rel.put k rv) dd')
 ·subst ey eH;cases (show u=Value.ref b from ry);obtain ⟨z,hd,xs,rel,dd⟩:=zu2 I.hok e
  have hz:xs.length<=sizeLine:=by rw [<-Paired.length rel];exact z
  have hl:(zen kvs k v).length<=sizeLine:=by have:=zcD kvs k v;omega
  refine wpAny_setItem_heap (hsz:=hz) (ybE hu) (zfi I.hok eb) dd fun h' dd' hs=>h _ ?_
  obtain ⟨q,es,ep,hq,h2,h3,h4,_,h5⟩:=dd';refine zf7 I (by rw [e];exact True.intro) hs ⟨q,hq⟩ ⟨hl,hd,_,(rel.put k eb rv).keeps fun c ys ec=>?_,q,es,ep,hq,h2,h3,h4,h5⟩;rw [zag (zuD ec e (fun z=>nomatch z))];exact ec
end
section
variable{X:Cx}{pins:Z3}{σ:St}{H:Hp}{s:Shared}{a:Addr}{kvs:List (Key×V)}{k:Key}{u:Value}{A:Around}{E:Z5}
def zu3{v:V}{more:List Value}{Q:Z5}(I:Inv X pins σ H s)(e:H a=some (.dK kvs))(ry:zaX (kV k) u)(l:zeg kvs k=some v)(hm:more=[]\/∃x,more=[x])
  (h:∀w' s',Inv X pins σ (upd H a (.dK (zeN kvs k))) s'->zaX v w'->Q w' s'):wpAny (model X.prog X.w) A (call (.builtin "dict.pop") (.ref a::u::more)) Q E s:=by
 obtain ⟨z,hd,vs,rel,dd⟩:=znb I.hok e;obtain ⟨w',hw,rw'⟩:=zfA.some_of (v:=v) (o:=valueAt vs k) (by rw [<-l];exact rel.val k)
 have hp:(keyPart u).isSome=true:=by
  cases k with
  | inl i=>obtain ⟨t,q⟩:=(show ∃t,u=Value.int i t from ry);subst q;rfl
  | inr x=>obtain ⟨t,q⟩:=(show ∃t,u=Value.str x t from ry);subst q;rfl
 have ha:argsOk "dict.pop" ⟨.ref a::u::more,[]⟩:=by
  rcases hm with q | ⟨x,q⟩
  ·subst q;exact PySem.F.args_dict_pop_2 _ _
  ·subst q;exact PySem.F.args_dict_pop_3 _ _ _
 refine call_meetsIn ycm dd.typeIs PySem.F.entry_dict_pop ha (meets_dict_pop_there (zaB X.prog X.w) a (ze3 ry) more hm hp)
  ⟨vs,w',dd,by rw [<-rel.length];exact z,hw,fun h' dd' hs=>h w' _ ?_ rw'⟩
 have he:∃q,h'.get? a=some q:=let ⟨q,_,_,hq,_⟩:=dd';⟨q,hq⟩
 exact zf7 I (by rw [e];exact True.intro) hs he (ziZ (yau (zna kvs k) z) hd (rel.drop k) dd')
def zs8{r:Value}{Q:Z5}(I:Inv X pins σ H s)(e:H a=some (.dK kvs))(ry:zaX (kV k) u)(l:zeg kvs k=none)(h:∀s',Inv X pins σ H s'->Q r s') :
  wpAny (model X.prog X.w) A (call (.builtin "dict.pop") [.ref a,u,r]) Q E s:=by
 obtain ⟨z,hd,vs,rel,dd⟩:=znb I.hok e;have hn:valueAt vs k=none:=zfA.none_of (by rw [<-l];exact rel.val k)
 have hp:(keyPart u).isSome=true:=by
  cases k with
  | inl i=>obtain ⟨t,q⟩:=(show ∃t,u=Value.int i t from ry);subst q;rfl
  | inr x=>obtain ⟨t,q⟩:=(show ∃t,u=Value.str x t from ry);subst q;rfl
 exact call_meetsIn ycm dd.typeIs PySem.F.entry_dict_pop (PySem.F.args_dict_pop_3 _ _ _) (meets_dict_pop_default (zaB X.prog X.w) a (ze3 ry) hd hp r) ⟨vs,dd,hn,h _ (I.tok _)⟩
end
noncomputable def zvg(i:Expr):Prop:=∀ov iv,subscripted i false ov iv=operate [ov,iv] (getItem ov iv)
def zoG{prog:Program}{w:World}{A:Around}{E:Z5}{s:Shared}{env:Env}{value slice:Expr}{pos:Pos}{T id:String}{Q:Z5}
  (hl:typeLookup (.type T) "__getitem__" = pure (some (.builtin id))) (hs:zvg slice)
  (h:wpAny (model prog w) A (eval value env) (fun o s₁=>wpAny (model prog w) A (eval slice env) (fun i s₂=>s₂.TypeIs o T/\wpAny (model prog w) A (getItem o i) Q E s₂) E s₁) E s) :
  wpAny (model prog w) A (eval (.Subscript value slice pos) env) Q E s:=by
 refine Subscript_ (yaR h (fun o s₁ h₁=>yaR h₁ (fun i s₂ h₂=>?_) fun _ _ x=>x) fun _ _ x=>x);obtain ⟨hT,h₂⟩:=h₂;unfold subscriptTail;refine yab ?_;rw [getitemInPython_of_ne hT.not_modules];refine yab (wpAny_specialOf hT hl ?_)
 have fin:wpAny (model prog w) A (subscripted slice false o i) (fun r s₃=>wpAny (model prog w) A (letTemporaryGo value o r >>= fun _=>pure r) Q E s₃) E s₂:=by
  rw [hs o i];exact wpAny_operating (yaR h₂ (fun r s₃ h₃=>yab (wpAny_letTemporaryGo (yam h₃))) fun _ _ x=>x)
 first
  | exact yam (yab fin)
  | exact yab (yam (yab fin))
  | exact yab fin
def zeP{X:Cx}{pins:Z3}{σ:St}{H:Hp}{s:Shared}{a:Addr}{y:V}{o:Option V}(I:Inv X pins σ H s)(g:zh8 H a y o):s.TypeIs (.ref a) "dict":=by
 rcases g with ⟨kvs,k,e,_,_⟩ | ⟨kvs,k,b,e,_,_,_⟩
 ·obtain ⟨_,_,vs,_,dd⟩:=zeO I.hok e;exact dd.typeIs
 ·obtain ⟨_,_,xs,_,dd⟩:=zhV I.hok e;exact dd.typeIs
noncomputable def zt4(td ty:TE):TE:=fun σ H Q=>td σ H fun x H1=>ty σ H1 fun y H2=>∃a v,x=.ref a/\zh8 H2 a y (some v)/\Q v H2
noncomputable def zvK(ty td:TE):TE:=fun σ H Q=>ty σ H fun y H1=>td σ H1 fun x H2=>∃a o,x=.ref a/\zh8 H2 a y o/\Q (.bl o.isSome) H2
noncomputable def zj3(ty td:TE):TE:=fun σ H Q=>ty σ H fun y H1=>td σ H1 fun x H2=>∃a o,x=.ref a/\zh8 H2 a y o/\Q (.bl (!o.isSome)) H2
noncomputable def zuf(td ty tv:TE):TS:=fun D σ H=>tv σ H fun v H1=>td σ H1 fun x H2=>ty σ H2 fun y H3=>∃a H4,x=.ref a/\zqJ H3 a y v H4/\D.nx σ H4
section
variable{X:Cx}{o i e value:Expr}{pos pos' tpos:Pos}{td ty tv:TE}
def zpv(hu:X.A.units+1<cLine)(ho:PE X o td)(hi:PE X i ty)(hs:zvg i):PE X (.Subscript o i pos) (zt4 td ty):=by
 intro pins s σ H Q I h;refine zoG PySem.F.slot_dict_getitem.lookup hs (thn (ho pins s σ H _ I h) fun u s1 ⟨x,H1,I1,rx,q1⟩=>thn (hi pins s1 σ H1 _ I1 q1) fun iv s2 ⟨y,H2,I2,ry,a,v,ex,g,q2⟩=>?_);subst ex;obtain rfl:u=Value.ref a:=rx;exact ⟨zeP I2 g,zg4 hu I2 g ry fun w' s3 I3 rw'=>⟨v,H2,I3,rw',q2⟩⟩
def znW(hu:X.A.units+1<cLine)(hi:PE X i ty)(ho:PE X o td):PC X .In i o (zvK ty td):=by
 intro pins s σ H Q I h;refine thn (hi pins s σ H _ I h) fun iv s1 ⟨y,H1,I1,ry,q1⟩=>thn (ho pins s1 σ H1 _ I1 q1) fun u s2 ⟨x,H2,I2,rx,a,ov,ex,g,q2⟩=>?_
 subst ex;obtain rfl:u=Value.ref a:=rx;exact zwx hu I2 g ry fun s3 I3=>⟨.bl ov.isSome,H2,I3,rfl,q2⟩
def zgE(hu:X.A.units+1<cLine)(hi:PE X i ty)(ho:PE X o td):PC X .NotIn i o (zj3 ty td):=by
 intro pins s σ H Q I h;refine thn (hi pins s σ H _ I h) fun iv s1 ⟨y,H1,I1,ry,q1⟩=>thn (ho pins s1 σ H1 _ I1 q1) fun u s2 ⟨x,H2,I2,rx,a,ov,ex,g,q2⟩=>?_
 subst ex;obtain rfl:u=Value.ref a:=rx;exact zlz hu I2 g ry fun s3 I3=>⟨.bl (!ov.isSome),H2,I3,rfl,q2⟩
def zpk(hu:X.A.units+1<cLine)(ho:PE X o td)(hi:PE X i ty)(hv:PE X value tv)(hs:swapsWith value (some (.Subscript o i pos')) pos.line X.env=pure false) :
  PS X (.Assign [.Subscript o i pos'] value pos) (zuf td ty tv):=by
 intro pins s σ H D I h;refine wpAny_Assign_Subscript (thn (hv pins s σ H _ I h) fun r s1 ⟨v,H1,I1,rv,q1⟩=>thn (ho pins s1 σ H1 _ I1 q1) fun u s2 ⟨x,H2,I2,rx,q2⟩=>thn (hi pins s2 σ H2 _ I2 q2) fun iv s3 ⟨y,H3,I3,ry,a,H4,ex,g,q3⟩=>?_) hs;subst ex;obtain rfl:u=Value.ref a:=rx;exact zg3 hu I3 g ry rv fun s4 I4=>⟨σ,H4,I4,q3⟩
end
def zi0{P:Program}{w:World}{H:Hp}(h:Heap)(hb:sysModules<h.objs.size):zaY P w H (h.push { cls:=.type "dict",data:=.dict #[] }) h.objs.size (.dK []) :=
 ⟨yaK _,yaY.mpr (Ne.symm (yas hb)),[],.nil,Heap.DictOf.new h⟩
noncomputable def zq8:TE:=fun _ H Q=>∀p,H p=none->Q (.ref p) (upd H p (.dK []))
section
variable{X:Cx}{pos:Pos}
def ziB:PE X (.Dict [] [] pos) zq8:=fun pins s σ H Q I h =>
 wpAny_Dict_empty ⟨.ref s.heap.objs.size,_,I.laid (a:=s.heap.objs.size) (o:=.dK []) (t':=s.toks) (fun _ _ q=>yae _ q) (yag _) (zi0 s.heap I.big),rfl,h _ (I.hok.fresh (yag _))⟩
end
noncomputable def zj1:List (TE×TE)->St->Hp->(List (V×V)->Hp->Prop)->Prop
 | [],_,H,Q=>Q [] H
 | (tk,tv)::r,σ,H,Q=>tk σ H fun x H1=>tv σ H1 fun y H2=>zj1 r σ H2 fun ps H3=>Q ((x,y)::ps) H3
noncomputable abbrev VV:List (V×V)->List (Value×Value)->Prop:=Paired fun p q=>zaX p.1 q.1/\zaX p.2 q.2
noncomputable def PPs(X:Cx)(pos:Pos)(keys:List (Option Expr))(values:List Expr)(trs:List (TE×TE)):Prop :=
 ∀(pins:Z3) (s:Shared) (σ:St) (H:Hp) (Q:List (V×V)->Hp->Prop),Inv X pins σ H s->zj1 trs σ H Q →
  wpAny (model X.prog X.w) X.A (evalPairs (pairTrees keys values X.env pos)) (fun vs s'=>∃ps H',Inv X pins σ H' s'/\VV ps vs/\Q ps H') X.xe s
def zpm{X:Cx}{pos:Pos}:PPs X pos [] [] []:=fun pins s σ H Q I h=>pairTrees_nil_walk ⟨[],H,I,.nil,h⟩
def zmq{X:Cx}{pos:Pos}{k v:Expr}{ks:List (Option Expr)}{vs:List Expr}{tk tv:TE}{trs:List (TE×TE)}(hk:PE X k tk)(hv:PE X v tv)(hr:PPs X pos ks vs trs) :
  PPs X pos (some k::ks) (v::vs) ((tk,tv)::trs):=fun pins s σ H Q I h =>
 pairTrees_cons_walk (thn (hk pins s σ H _ I h) fun u s1 ⟨x,H1,I1,rx,q1⟩=>thn (hv pins s1 σ H1 _ I1 q1) fun w2 s2 ⟨y,H2,I2,ry,q2⟩ =>
  thn (hr pins s2 σ H2 _ I2 q2) fun ws s3 ⟨ps,H3,I3,rel,q3⟩=>⟨(x,y)::ps,H3,I3,.cons ⟨rx,ry⟩ rel,q3⟩)
noncomputable def zfg(kvs more:List (Key×V)):List (Key×V):=more.foldl (fun acc kv=>zen acc kv.1 kv.2) kvs
def KV.merge:∀{more:List (Key×V)} {rs:List (Key×Value)} {kvs:List (Key×V)} {vs:List (Key×Value)},KV more rs->KV kvs vs->KV (zfg kvs more) (merged vs rs):=by
 intro more rs kvs vs r;unfold KV at r
 induction r generalizing kvs vs with
 | nil=>intro q;exact q
 | @cons p q ps qs h t ih =>
  intro r0
  have e:KV (zen kvs p.1 p.2) (stored vs q.1 q.2):=by
   have:=r0.put p.1 h.2;rw [<-h.1];exact this
  exact ih e
theorem zdI:∀(more kvs:List (Key×V)),(zfg kvs more).length<=kvs.length+more.length
 | [],kvs=>by show kvs.length<=kvs.length+0;omega
 | p::r,kvs=>by
  have h1:=zdI r (zen kvs p.1 p.2);have h2:=zcD kvs p.1 p.2;show (zfg (zen kvs p.1 p.2) r).length<=_;rw [yaf];omega
theorem zfv{P:Program}{w:World}:∀{kvs:List (Key×V)} {ws:List (Value×Value)},VV (kvs.map fun kv=>(kV kv.1,kv.2)) ws->∃rs,Carries (zaB P w) ws rs/\KV kvs rs
 | [],_,r=>by rw [List.map_nil] at r;cases r;exact ⟨[],True.intro,.nil⟩
 | p::kvs,_,r=>by
  rw [yaz] at r
  cases r with
  | @cons a b as bs h t =>
   obtain ⟨rs,c,q⟩:=zfv (P:=P) (w:=w) t;obtain ⟨b1,b2⟩:=b;exact ⟨(p.1,b2)::rs,⟨ze3 h.1,rfl,c⟩,.cons ⟨rfl,h.2⟩ q⟩
noncomputable def zt3(trs:List (TE×TE)):TE:=fun σ H Q=>∀p,H p=none->zj1 trs σ (upd H p (.dK [])) fun ps H2=>H2 p=some (.dK [])/\∃kvs:List (Key×V),ps=kvs.map (fun kv=>(kV kv.1,kv.2))/\kvs.length<=15/\Q (.ref p) (upd H2 p (.dK (zfg [] kvs)))
def zpu{X:Cx}{pos:Pos}{keys:List (Option Expr)}{values:List Expr}{trs:List (TE×TE)}(h:PPs X pos keys values trs)(hall:keys.all (·.isSome)=true)(hl:keys.length=values.length)(h0:keys≠[])
  (h15:keys.length<=15):PE X (.Dict keys values pos) (zt3 trs):=by
 intro pins s σ H Q I q;have hn:=I.hok.fresh (yag s.heap.objs.size);have I1:=I.laid (a:=s.heap.objs.size) (o:=.dK []) (h':=s.heap.push { cls:=.type "dict",data:=.dict #[] }) (t':=s.toks) (fun _ _ q=>yae _ q) (yag _) (zi0 s.heap I.big);refine wpAny_Dict_walk (knd:=zaB X.prog X.w) hall hl h0 h15 (thn (h pins _ σ _ _ I1 (q _ hn)) fun ws s2 ⟨ps,H2,I2,rel,e,kvs,ep,lk,q2⟩=>?_);subst ep;obtain ⟨rs,c,rk⟩:=zfv (P:=X.prog) (w:=X.w) rel;obtain ⟨z,hd,vs0,r0,dd⟩:=znb I2.hok e;cases r0;refine ⟨rs,c,dd,fun h' dd' hs=>⟨.ref s.heap.objs.size,_,?_,rfl,q2⟩⟩
 have hz:(zfg [] kvs).length<=sizeLine:=by
  have h1:=zdI kvs [];rw [List.length_nil] at h1;rw [ycy];omega
 have he:∃q,h'.get? s.heap.objs.size=some q:=let ⟨q,_,_,hq,_⟩:=dd';⟨q,hq⟩
 exact zf7 I2 (by rw [e];exact True.intro) hs he (ziZ hz hd (rk.merge .nil) dd')
structure M1(X:Cx)(o:Expr)(m:Str)(apos:Pos)(e:Expr)(cpos:Pos):Prop where
 base:attributeBase o m X.env (eval o X.env)=eval o X.env
 few:((backTo cpos (starEach [e] X.env)).all (fun x=>!x.1)&&(backToKw cpos (keywordEach [] X.env)).all (fun x=>x.1.isSome)
  && decide (([e]:List Expr).length+([]:List Keyword).length+(if ([]:List Keyword).isEmpty then 0 else 1)<30))=true
 line:(apos.endLine == cpos.line)=true
 trees:backTo cpos (starEach [e] X.env)=[(false,eval e X.env)]
structure M2(X:Cx)(o:Expr)(m:Str)(apos:Pos)(e f:Expr)(cpos:Pos):Prop where
 base:attributeBase o m X.env (eval o X.env)=eval o X.env
 few:((backTo cpos (starEach [e,f] X.env)).all (fun x=>!x.1)&&(backToKw cpos (keywordEach [] X.env)).all (fun x=>x.1.isSome)
  && decide (([e,f]:List Expr).length+([]:List Keyword).length+(if ([]:List Keyword).isEmpty then 0 else 1)<30))=true
 line:(apos.endLine == cpos.line)=true
 trees:backTo cpos (starEach [e,f] X.env)=[(false,eval e X.env),(false,eval f X.env)]
noncomputable def IsD(H:Hp)(a:Addr):Prop:=(∃kvs,Rd H a (.dK kvs))\/∃kvs,Rd H a (.dT kvs)
def zn6{X:Cx}{pins:Z3}{σ:St}{H:Hp}{s:Shared}{a:Addr}(I:Inv X pins σ H s)(d:IsD H a) :
  s.TypeIs (.ref a) "dict" /\ (∀b,Value.ref a=.ref b->∃ob,s.heap.get? b=some ob/\ob.dict=none)/\(a == sysModules)=false:=by
 rcases d with ⟨kvs,e⟩ | ⟨kvs,e⟩
 ·obtain ⟨_,hd,vs,_,dd⟩:=zeO I.hok e;refine ⟨dd.typeIs,fun b q=>?_,hd⟩;cases q;obtain ⟨ob,_,_,h1,h2,_⟩:=dd;exact ⟨ob,h1,h2.2.1⟩
 ·obtain ⟨_,hd,xs,_,dd⟩:=zhV I.hok e;refine ⟨dd.typeIs,fun b q=>?_,hd⟩;cases q;obtain ⟨ob,_,_,h1,h2,_⟩:=dd;exact ⟨ob,h1,h2.2.1⟩
section
variable{X:Cx}{pins:Z3}{σ:St}{H:Hp}{s:Shared}{a:Addr}{y d:V}{u r:Value}{o:Option V}{A:Around}{E:Z5}
def zs9{Q:Z5}(hu:A.units+1<cLine)(I:Inv X pins σ H s)(g:zh8 H a y o)(ry:zaX y u)(h:∀w' s',Inv X pins σ H s'->zaX (o.getD .non) w'->Q w' s') :
  wpAny (model X.prog X.w) A (call (.builtin "dict.get") [.ref a,u]) Q E s:=by
 rcases g with ⟨kvs,k,e,ey,l⟩ | ⟨kvs,k,b,e,ey,eb,l⟩
 ·subst ey;obtain ⟨z,hd,vs,rel,dd⟩:=zeO I.hok e;refine call_meetsIn ycn dd.typeIs PySem.F.entry_dict_get (PySem.F.args_dict_get_2 _ _) (meets_dict_get (zaB X.prog X.w) a (ze3 ry) hd) ⟨_,dd.mapOf,h _ _ (I.tok _) ?_⟩;rw [l];exact (rel.val k).getD rfl
 ·subst ey;cases (show u=Value.ref b from ry);obtain ⟨z,hd,xs,rel,dd⟩:=zhV I.hok e;refine call_meetsIn ycn dd.typeIs PySem.F.entry_dict_get (PySem.F.args_dict_get_2 _ _) (meetsH_dict_get (tupleKind (zaB X.prog X.w)) a b hd) ⟨ybE hu,k,xs,zfi I.hok eb,dd,h _ _ (I.tok _) ?_⟩;rw [l];exact (rel.val k).getD rfl
end
noncomputable def zq9(td ty:TE):TE:=fun σ H Q=>td σ H fun x H1=>∃a,x=.ref a/\IsD H1 a/\ty σ H1 fun y H2=>∃o,zh8 H2 a y o/\Q (o.getD .non) H2
noncomputable def zq7(td ty tx:TE):TE:=fun σ H Q=>td σ H fun x H1=>∃a,x=.ref a/\IsD H1 a/\ty σ H1 fun y H2=>tx σ H2 fun z H3=>∃kvs k,H3 a=some (.dK kvs)/\y=kV k ∧
 (∀v,zeg kvs k=some v->Q v (upd H3 a (.dK (zeN kvs k))))/\(zeg kvs k=none->Q z H3)
section
variable{X:Cx}{o e f:Expr}{apos cpos:Pos}{td ty tx:TE}
def zmy(hu:X.A.units+1<cLine)(ho:PE X o td)(he:PE X e ty)(m:M1 X o "get" apos e cpos):PE X (.Call (.Attribute o "get" apos) [e] [] cpos) (zq9 td ty):=by
 intro pins s σ H Q I h;refine wpAny_Call_method m.base m.few m.line PySem.F.plainAttrs_dict ycn PySem.F.type_dict_get (thn (ho pins s σ H _ I h) fun u s1 ⟨x,H1,I1,rx,a,ex,d,q1⟩=>?_);subst ex;obtain rfl:u=Value.ref a:=rx;obtain ⟨t1,t2,_⟩:=zn6 I1 d;refine ⟨t1,t2,?_⟩;rw [m.trees];refine ybD rfl (ybT (yb5 (thn (he pins s1 σ H1 _ I1 q1) fun iv s2 ⟨y,H2,I2,ry,ov,g,q2⟩=>ycL ?_)));exact zs9 hu I2 g ry fun w' s3 I3 rw'=>⟨_,H2,I3,rw',q2⟩
def zmx(ho:PE X o td)(he:PE X e ty)(hf:PE X f tx)(m:M2 X o "pop" apos e f cpos):PE X (.Call (.Attribute o "pop" apos) [e,f] [] cpos) (zq7 td ty tx):=by
 intro pins s σ H Q I h;refine wpAny_Call_method m.base m.few m.line PySem.F.plainAttrs_dict ycm PySem.F.type_dict_pop (thn (ho pins s σ H _ I h) fun u s1 ⟨x,H1,I1,rx,a,ex,d,q1⟩=>?_);subst ex;obtain rfl:u=Value.ref a:=rx;obtain ⟨t1,t2,_⟩:=zn6 I1 d;refine ⟨t1,t2,?_⟩;rw [m.trees]
 refine ybD rfl (ybT (yb5 (thn (he pins s1 σ H1 _ I1 q1) fun iv s2 ⟨y,H2,I2,ry,q2⟩ =>
  yb5 (thn (hf pins s2 σ H2 _ I2 q2) fun fv s3 ⟨z,H3,I3,rz,kvs,k,ea,ey,q3,q4⟩=>ycL ?_))))
 subst ey
 cases l:zeg kvs k with
 | some v=>exact zu3 I3 ea ry l (.inr ⟨fv,rfl⟩) fun w' s4 I4 rw'=>⟨v,_,I4,rw',q3 v l⟩
 | none=>exact zs8 I3 ea ry l fun s4 I4=>⟨z,H3,I4,rz,q4 l⟩
end
section
variable{X:Cx}{pins:Z3}{σ:St}{H:Hp}{s:Shared}{a:Addr}{kvs:List (Key×V)}{A:Around}{E:Z5}
def zni{Q:Z5}(I:Inv X pins σ H s)(e:Rd H a (.dK kvs))(h:∀p s',H p=none->Inv X pins σ (upd H p (.dK kvs)) s'->Q (.ref p) s'):wpAny (model X.prog X.w) A (call (.type "dict") [.ref a]) Q E s:=by
 obtain ⟨z,hd,vs,rel,dd⟩:=zeO I.hok e;refine kt_call_dict hd dd (by rw [<-rel.length];exact z) fun h' dd' hs=>?_
 refine h _ _ (I.hok.fresh (yag _)) (I.laid (a:=s.heap.objs.size) (o:=.dK kvs) (t':=s.toks) (fun b q hq=>?_) (yag _) (ziZ z (yaY.mpr (Ne.symm (yas I.big))) rel dd'));exact (hs.2 b (yas (yal hq))).trans (yae _ hq)
end
noncomputable def zg6(CX:CXT)(P:Program)(w:World)(K:PySem.W.Frag)(mg:Z6)(base:Heap)(N:List Str)(qual:Str)(scope:Scope)(f:Addr)(cd:Value)(clos:List (Str×Addr))(A:Around)(outer:List Env)(s:Shared)(H:Hp)(E:XK):Cx where
 prog:=P
 w:=w
 K:=K
 mg:=mg
 base:=base
 A:=A.deeper (PySem.W.envX qual scope s.heap.objs.size f cd clos)
 N:=N
 s₀:=s
 H₀:=H
 env:=PySem.W.envX qual scope s.heap.objs.size f cd clos
 outer:=outer
 stack:=PySem.W.envX qual scope s.heap.objs.size f cd clos::outer
 ex:=[]
 calm:=true
 fn:=fun _=>false
 pn:=[]
 xe:=fun e s'=>wpAny (model P w) (A.deeper (PySem.W.envX qual scope s.heap.objs.size f cd clos)) (leaving (PySem.W.envX qual scope s.heap.objs.size f cd clos) e) (fun _ s''=>CX outer H s E e s'') (fun e' s''=>CX outer H s E e' s'') s'
structure LamSc(N:List Str)(sc:Scope):Prop where
 kind:sc.kind=.function
 co:sc.isCoroutine=false
 gen:sc.isGenerator=false
 nocell:∀y∈sc.names,y.2≠.cell
 free:∀x∈N,sc.names.lookup x=some .free
structure LamAt(h:Heap)(H:Hp)(f:Addr)(params:Arguments)(qual:Str)(body:Expr)(sc:Scope)(N:List Str)(vs:List V)(clos:List (Str×Addr))(c:Addr)(pm ctv:Value):Prop where
 fn:h.get? f=some (PySem.W.kla_obj "<lambda>" qual params body sc clos pm c ctv)
 code:h.CodeRec (.ref c) qual
 inj:∀x y a,clos.lookup x=some a->clos.lookup y=some a->x=y
 has:∀x,sc.names.lookup x=some .free->∃a,clos.lookup x=some a
 cell:∀x a,clos.lookup x=some a->H a=none/\∃v,h.IsCell a v
 val:∀(i:Nat) (x:Str) (v:V),N[i]?=some x->vs[i]?=some v->∃u a,zaX v u/\clos.lookup x=some a/\h.IsCell a (some u)
 len:vs.length=N.length
def LamAt.keep{h h':Heap}{H H':Hp}{f:Addr}{params:Arguments}{qual:Str}{body:Expr}{sc:Scope}{N:List Str}{vs:List V}{clos:List (Str×Addr)}{c:Addr}{pm ctv:Value}
  (L:LamAt h H f params qual body sc N vs clos c pm ctv) (kf:∀o,h.get? f=some o->h'.get? f=some o) (kc:∀o,h.get? c=some o->h'.get? c=some o) (k:∀x a o,clos.lookup x=some a->h.get? a=some o->h'.get? a=some o/\H' a=none):LamAt h' H' f params qual body sc N vs clos c pm ctv:=by
 obtain ⟨f1,⟨c',oc,us,t,ec,c1,c2⟩,i,hs,ce,vl,ln⟩:=L;cases ec;refine ⟨kf _ f1,⟨_,oc,us,t,rfl,kc _ c1,c2⟩,i,hs,fun x a e=>?_,fun j x v e1 e2=>?_,ln⟩
 ·obtain ⟨h1,v,o,h3,h4⟩:=ce x a e;exact ⟨(k _ _ _ e h3).2,v,o,(k _ _ _ e h3).1,h4⟩
 ·obtain ⟨u,a,r,e,o,h3,h4⟩:=vl j x v e1 e2;exact ⟨u,a,r,e,o,(k _ _ _ e h3).1,h4⟩
def zkY{CX:CXT}{P:Program}{w:World}{K:PySem.W.Frag}{mg:Z6}{base:Heap}{N:List Str}{qual:Str}{params:Arguments}{body:Expr}{sc:Scope}{f c:Addr}{clos:List (Str×Addr)}{A:Around}{outer:List Env}{s:Shared}{h1:Heap}{tk:Nat}{H:Hp}{E:XK}{vs:List V}{pm ctv:Value}
  (S:LamSc N sc) (hd:A.handled=none) (e0:Env0 P w K mg base A outer s H) (L:LamAt s.heap H f params qual body sc N vs clos c pm ctv) (hn:h1.Ns s.heap.objs.size (fun _=>none)) (hk:∀b o,s.heap.get? b=some o->h1.get? b=some o) :
  Inv (zg6 CX P w K mg base N qual sc f (.ref c) clos A outer s H E) [] (vs.map some) H { s with heap:=h1,toks:=tk }:=by
 have noA:∀b:Addr,b ∉ (zg6 CX P w K mg base N qual sc f (.ref c) clos A outer s H E).ex:=fun b z=>absurd (show b∈([]:List Addr) from z) (by simp)
 refine ⟨⟨e0.mod,S.kind,rfl,rfl,yag _,fun y z a h1 h2=>L.inj y z a h1 h2,fun y hy=>?_,(fun y a h _=>by cases h),fun _=>hd,Around.frames_deeper e0.frames,.inr ⟨rfl,rfl⟩,fun b z=>absurd z (noA b),e0.bs,e0.bsz,fun b _ _=>noA b,fun b z=>absurd z (noA b),e0.funs,e0.frf⟩,
  rfl,e0.bare,Un.kept hk,⟨_,hn,fun i y v h1 h2 h3=>?_⟩,fun y a h=>?_,e0.hok.fresh (yag _),fun y a h=>(L.cell y a h).1,fun p hp=>absurd (show p∈([]:Z3) from hp) (by simp),e0.hok.kept hk,?_⟩
 ·rcases (hy:sc.names.lookup y=some .cell\/sc.names.lookup y=some .free) with hy | hy
  ·exact absurd rfl (S.nocell _ (yaA hy))
  ·exact L.has y hy
 ·rw [yao] at h2
  cases e:vs[i]? with
  | none=>rw [e] at h2;cases h2
  | some x =>
   rw [e] at h2;cases h2;obtain ⟨u,a,r,e1,o,h3,h4⟩:=L.val i y v h1 e;exact ⟨u,r,.inr ⟨.inr (S.free y (ya8 h1)),a,e1,o,hk _ _ h3,h4⟩⟩
 ·obtain ⟨_,v,o,h3,h4⟩:=L.cell y a h;exact ⟨v,o,hk _ _ h3,h4⟩
 ·show (vs.map some).length=N.length;rw [yad,L.len]
def zpQ{CX:CXT}{P:Program}{w:World}{K:PySem.W.Frag}{mg:Z6}{base:Heap}{k:Nat}{N:List Str}{qual:Str}{params:Arguments}{body:Expr}{sc:Scope}{f c:Addr}{clos:List (Str×Addr)}{A:Around}{outer:List Env}{s:Shared}{H:Hp}{E:XK}{Q:VK}{vs:List V}{pm ctv:Value}{te:TE}
  (S:LamSc N sc) (hr:Room (k+1) A) (e0:Env0 P w K mg base A outer s H) (L:LamAt s.heap H f params qual body sc N vs clos c pm ctv) (hb:bindArgs (PySem.W.kla_fn "<lambda>" qual params body sc clos pm (.ref c) ctv) ⟨[],[]⟩=pure [])
  (hp:Room k (A.deeper (PySem.W.envX qual sc s.heap.objs.size f (.ref c) clos))->PE (zg6 CX P w K mg base N qual sc f (.ref c) clos A outer s H E) body te) (hq:te (vs.map some) H Q) :
  codeAny (model P w) A (.call (.ref f) ⟨[],[]⟩) (CR CX outer P w H s Q E) s:=by
 have lim:s.heap.NoLimit:=e0.mod.nolimit.keeps fun b o e=>(e0.bs b o e).1
 refine PySem.W.kla_callFunE hr.depth L.fn rfl S.co S.gen rfl L.code ?_;rw [hb];refine yam (wpAny_newFunctionEnv S.nocell (fun _ z=>by cases z) (fun h₁ hns hsb=>⟨lim.fresh _ hsb,?_⟩) S.kind);have hk:∀b o,s.heap.get? b=some o->h₁.get? b=some o:=fun b o e=>hsb.extBut b o (yas (yal e)) (yae _ e)
 show codeAny _ _ (.expr body (PySem.W.envX qual sc s.heap.objs.size f (.ref c) clos)) _ _;have I:=zkY (CX:=CX) (E:=E) (tk:=s.toks+0) S hr.hd e0 L hns hk;refine PySem.W.kla_codeExpr (yaR (hp (hr.deeper _) [] _ _ H Q I hq) (fun u s' ⟨v,H',J,rv,q⟩=>?_) fun e s' hs=>hs);exact ⟨v,H',J.os,J.bare,J.base,J.hok,rv,q⟩
section
variable{X:Cx}{CX:CXT}{k:Nat}{N:List Str}{qual x:Str}{params:Arguments}{body:Expr}{sc:Scope}{f c:Addr}{clos:List (Str×Addr)}{E:XK}{vs:List V}{pm ctv:Value}{of oc:Obj}{uf uc:HO}{te:TE}{p pos:Pos}{i:Nat}
def Inv.lamAt{pins:Z3}{σ:St}{H:Hp}{s:Shared}(I:Inv X pins σ H s)(L:LamAt X.s₀.heap X.H₀ f params qual body sc N vs clos c pm ctv)(hf:X.H₀ f=some (.frz of uf))(hc:X.H₀ c=some (.frz oc uc))(h0:HOk X.prog X.w X.H₀ X.s₀.heap)
  (hx:∀x a,clos.lookup x=some a->a ∉ X.fs/\a ∉ X.ex):LamAt s.heap H f params qual body sc N vs clos c pm ctv:=by
 have fz:∀b ob u,X.H₀ b=some (.frz ob u)->∀o,X.s₀.heap.get? b=some o->s.heap.get? b=some o:=fun b ob u e o g=>by
  have e1:=(h0 b _ e).1;have e2:=(I.hok b _ (I.base.frzs b ob u e)).1;rw [e1] at g;cases g;exact e2
 exact L.keep (fz f of uf hf) (fz c oc uc hc) fun y a o e g=>⟨I.base.keep a o g (L.cell y a e).1 (hx y a e).1 (hx y a e).2,I.base.free a o g (L.cell y a e).1 (hx y a e).2⟩
end
section
variable{X:Cx}{pins:Z3}{σ:St}{H:Hp}{s:Shared}{P c:Addr}{ps more:Array Value}{h':Heap}{t':Nat}
def Inv.tblUp(I:Inv X pins σ H s)(hP:H P=some (.tbl ps))(hx:Heap.ExtBut P s.heap h')(ht:h'.get? P=some (PySem.W.tabObj (ps++more))):Inv X pins σ (upd H P (.tbl (ps++more))) { s with heap:=h',toks:=t' }:=by
 have ne:∀b,H b=none->b≠P:=fun b e z=>by rw [z,hP] at e;cases e
 refine I.un ⟨fun b o e n _ _=>hx b o (ne b n) e,fun b o e n _ _=>⟨o.slots,hx b o (ne b n) e⟩,fun b o e n _=>by rw [zag (ne b n)];exact n,fun b o e _=>?_,fun b xs e=>?_,fun b o u e=>?_,fun b qs e=>?_⟩ fun b u q=>?_
 ·by_cases hb:b=P
  ·exact ⟨_,hb ▸ ht⟩
  ·exact ⟨o,hx b o hb e⟩
 ·rw [zag (fun z=>by rw [z,hP] at e;cases e)];exact e
 ·rw [zag (fun z=>by rw [z,hP] at e;cases e)];exact e
 ·by_cases hb:b=P
  ·subst hb;rw [hP] at e;cases e;exact ⟨more,zap⟩
  ·exact ⟨#[],by rw [zag hb,e];simp⟩
 ·by_cases hb:b=P
  ·subst hb;rw [zap] at q;cases q;exact ht
  ·rw [zag hb] at q
   refine (I.hok b u q).stay (fun d v hd r=>hx d v ?_ r) (fun d r=>by rw [zag (fun z=>by rw [z,hP] at r;cases r)];exact r) fun d xs r=>by rw [zag (fun z=>by rw [z,hP] at r;cases r)];exact r
   rcases hd with rfl | hd
   ·exact hb
   ·exact fun z=>by rw [z,hP] at hd;cases hd
end
noncomputable def zjb(qual:Str)(oc:Obj):Prop:=∃us t,oc.data=.fields us/\us[1]?=some (.str qual t)
noncomputable def zny(mg:Z6)(h:Heap):Prop:=∃bm ob,mg "__builtins__" = some (.ref bm)/\bm≠builtinsNs/\h.get? bm=some ob/\ob.cls=.type "module" /\ ob.dict=some builtinsNs/\ob.data=.plain
noncomputable def zw6(P:Addr)(pos:Pos)(fo:Addr->Value->Obj)(qual:Str):TE:=fun σ H Q=>∃ps,H P=some (.tbl ps)/\TriplesOk ps.toList ∧
 (codeAmong pos ps.toList=none->∀f c oc ctv,H f=none->H c=none->f≠c->zjb qual oc →
  Q (.ref f) (upd (upd (upd H P (.tbl (ps++#[rawInt pos.line,rawInt pos.col,.ref c]))) c (.frz oc (.own c))) f (.frz (fo c ctv) (.own f)))) ∧
 ∀cv,codeAmong pos ps.toList=some cv->∃c oc,cv=.ref c/\H c=some (.frz oc (.own c))/\zjb qual oc/\∀f ctv,H f=none->Q (.ref f) (upd H f (.frz (fo c ctv) (.own f)))
def zr1{X:Cx}{params:Arguments}{body:Expr}{sc:Scope}{pos:Pos}{cd P:Addr}{clos:List (Str×Addr)}(hcd:X.env.code=.ref cd)(hC:PySem.W.CodeHd X.base cd P)(hB:zny X.mg X.base)(hcl:closureFor sc X.env=pure clos)(hdef:defaultsOf params X.env=([],[])) :
  PE X (.Lambda params body sc pos) (zw6 P pos (fun c ctv=>PySem.W.kla_obj "<lambda>" (X.env.qual ++ "<lambda>") params body sc clos ((X.mg "__name__").getD .none) c ctv) (X.env.qual ++ "<lambda>")):=by
 intro pins s σ H Q I h;obtain ⟨ps,hP,ht,hmiss,hhit⟩:=h;have gP:s.heap.get? P=some (PySem.W.tabObj ps):=I.hok P _ hP;have hg:s.heap.Ns mainGlobals X.mg:=I.mod.glob.keeps I.bk;obtain ⟨bm,ob,b1,b2,b3,b4,b5,b6⟩:=hB
 have hgP:mainGlobals≠P:=fun q=>by
  obtain ⟨o,es,ep,e,hd,_⟩:=hg;rw [q,gP] at e;cases e;cases hd
 have hbP:bm≠P:=fun q=>by
  have e:=I.bk _ _ b3;rw [q,gP] at e;cases e;cases b4
 have hbG:bm≠mainGlobals:=fun q=>by
  obtain ⟨o,es,ep,e,hd,_⟩:=hg;have e':=I.bk _ _ b3;rw [q,e] at e';cases e';rw [hd] at b6;cases b6
 have bb:s.heap.BuiltinsAt X.mg P:=⟨bm,ob,b1,b2,hbG,hbP,I.bk _ _ b3,b4,b5,b6⟩;refine PySem.W.kla_eval hdef ?_
 cases hca:codeAmong pos ps.toList with
 | none =>
  refine PySem.W.kla_makeFunction (mg:=X.mg) hcl I.ok.glob hg hcd (hC.keeps I.bk) gP ht hca hgP bb fun c' ctv h1 tk hx hge hlt hrec htb=>?_
  obtain ⟨c2,oc,vs,t,e2,hoc,hd,hv⟩:=hrec;cases e2;have I1:=I.tblUp (t':=tk) hP hx htb;have hcP:c'≠P:=fun z=>absurd (yah (yal gP) hge) (by rw [z];exact yaN _)
  have hcN:H c'=none:=I.hok.fresh hge
  have hcN1:upd H P (.tbl (ps++#[rawInt pos.line,rawInt pos.col,.ref c'])) c'=none:=by rw [zag hcP];exact hcN
  have I2:=I1.track (D:=c') (o:=.frz oc (.own c')) hcN1 (yau I.sz hge) (fun z=>absurd (yah I.lt hge) (by rw [z];exact yaN _)) (fun x a e z=>by
    obtain ⟨v,q⟩:=I.cell x a e
    exact absurd (yah q.lt hge) (by rw [z];exact yaN _)) (fun p hp z=>absurd (yah (yal (I.pin p hp).1) hge) (by rw [z];exact yaN _)) ⟨hoc,oc,hoc⟩
  have fne:h1.objs.size≠c':=yaP hlt;have fP:h1.objs.size≠P:=yaP (yal htb);refine ⟨.ref h1.objs.size,_,I2.laid (t':=tk) (a:=h1.objs.size) (o:=.frz (PySem.W.kla_obj "<lambda>" (X.env.qual ++ "<lambda>") params body sc clos ((X.mg "__name__").getD .none) c' ctv) (.own h1.objs.size)) (fun b u e=>yae _ e) (yag _) ⟨yaq _ rfl,_,yaq _ rfl⟩,rfl,?_⟩;refine hmiss hca _ c' oc ctv ?_ hcN fne ⟨vs,t,hd,hv⟩;have:=I2.hok.fresh (a:=h1.objs.size) (yag _);rwa [zag fne,zag fP] at this
 | some cv =>
  obtain ⟨c,oc,rfl,hc,⟨us,t,hd,hv⟩,hq⟩:=hhit cv hca;refine PySem.W.kla_makeFunctionHit (mg:=X.mg) hcl I.ok.glob hg hcd (hC.keeps I.bk) gP ht hca bb fun ctv h1 tk hk hsz=>?_
  have I1:=I.kept (t':=tk) hk;refine ⟨.ref h1.objs.size,_,I1.laid (t':=tk) (a:=h1.objs.size) (o:=.frz (PySem.W.kla_obj "<lambda>" (X.env.qual ++ "<lambda>") params body sc clos ((X.mg "__name__").getD .none) c ctv) (.own h1.objs.size)) (fun b u e=>yae _ e) (yag _) ⟨yaq _ rfl,_,yaq _ rfl⟩,rfl,?_⟩;exact hq _ ctv (I1.hok.fresh (a:=h1.objs.size) (yag _))
def zlX{H:Hp}{a:Addr}{o:HO}(h:H a=some o):upd H a o=H:=by
 funext b
 by_cases e:b=a
 ·rw [e,zap,h]
 ·rw [zag e]
def Inv.fz{X:Cx}{pins:Z3}{σ:List (Option V)}{H:Hp}{s:Shared}{a:Addr}{kvs:List (Key×V)}(I:Inv X pins σ H s)(e:H a=some (.dK kvs)):∃ob,Inv X pins σ (upd H a (.frz ob (.dK kvs))) s:=by
 have x:zaY X.prog X.w H s.heap a (.dK kvs):=I.hok a _ e;obtain ⟨z,y,vs,r,ob,es,ep,g,c⟩:=id x
 have ne:∀(b:Addr) (u:HO),H b=some u->u≠.dK kvs->upd H a (.frz ob (.dK kvs)) b=some u:=fun b u hb hn=>by
  rw [zag (fun q=>hn (by rw [q,e] at hb;cases hb;rfl))];exact hb
 refine ⟨ob,I.un (t':=s.toks) ⟨fun _ _ g _ _ _=>g,fun _ o g _ _ _=>⟨o.slots,g⟩,fun b o _ n _=>?_,fun _ o g _=>⟨o,g⟩,fun b xs h=>ne b _ h (by simp),fun b o u h=>ne b _ h (by simp),fun b ps h=>⟨#[],by rw [Array.append_empty];exact ne b _ h (by simp)⟩⟩
  (HOk.write I.hok (x:=a) (by rw [e];trivial) (.inl rfl) (fun _ _ _ g=>g) ⟨ob,g⟩ ⟨g,?_⟩)⟩
 ·rw [zag (fun q=>by rw [q,e] at n;cases n)];exact n
 ·exact x.stay (fun _ _ _ g=>g) (fun b h=>ne b _ h (by simp)) fun b xs h=>ne b _ h (by simp)
end L2
namespace S2
open PySem PySem.Spec PyProof.Rows L2
noncomputable abbrev St:=L2.St
inductive D where
 | non | bl (b:Bool) | int (i:Int) | str (x:Str) | tup (l:List D) | lst (l:List D) | dic (l:List (D×D)) | ref (n:Nat) | exc (c:Str) | scr (l:List Int)
inductive Root where
 | slot (i:Nat) | fld (n:Nat) (f:Str) | obj (n:Nat) | far | tab
 deriving DecidableEq
noncomputable abbrev Ow:=Addr->Option Root
structure Cf where
 ad:Str->Addr
 K:PySem.W.Frag
 P:Program
 wo:PySem.World
 tabs:Addr->Option Str:=fun _=>none
noncomputable instance:CoeFun Cf (fun _=>Str->Addr):=⟨Cf.ad⟩
structure Wd where
 H:Hp
 ow:Ow
 mu:List Addr
mutual
inductive Shd(cl:Cf)(w:Wd):V->D->Prop
 | non:Shd cl w .non .non
 | bl (b:Bool):Shd cl w (.bl b) (.bl b)
 | int (i:Int):Shd cl w (.int i) (.int i)
 | str (x:Str):Shd cl w (.str x) (.str x)
 | tup {a:Addr} {xs:List V} {ds:List D}:w.H a=some (.tup xs)->w.ow a=none->Shds cl w xs ds->Shd cl w (.ref a) (.tup ds)
 | lst {a:Addr} {xs:List V} {ds:List D}:w.H a=some (.lst xs)->w.ow a=none->Shds cl w xs ds->Shd cl w (.ref a) (.lst ds)
 | dicK {a:Addr} {ob:Obj} {kvs:List (Key×V)} {ds:List (D×D)}:w.H a=some (.frz ob (.dK kvs))->w.ow a=none->ShdK cl w kvs ds->Shd cl w (.ref a) (.dic ds)
 | ref {n:Nat} {a:Addr}:w.mu[n]?=some a->Shd cl w (.ref a) (.ref n)
 | scr {a:Addr} {o:Obj} {l:List Int}:w.H a=some (.frz o (.lst (l.map V.int)))->w.ow a=none->Shd cl w (.ref a) (.scr l)
 | scrK {a:Addr} {l:List Int}:(∀H:Hp,SqL cl.K H a (l.map V.int))->Shd cl w (.ref a) (.scr l)
 | exc {a:Addr} {c:Str} {ob:Obj}:w.H a=some (.frz ob (.own a))->w.ow a=none->ob.cls=.ref (cl c)->Shd cl w (.ref a) (.exc c)
inductive Shds(cl:Cf)(w:Wd):List V->List D->Prop
 | nil:Shds cl w [] []
 | cons {v:V} {d:D} {vs:List V} {ds:List D}:Shd cl w v d->Shds cl w vs ds->Shds cl w (v::vs) (d::ds)
inductive ShdK(cl:Cf)(w:Wd):List (Key×V)->List (D×D)->Prop
 | nil:ShdK cl w [] []
 | consI {i:Int} {v:V} {d:D} {vs:List (Key×V)} {ds:List (D×D)}:Shd cl w v d->ShdK cl w vs ds->ShdK cl w ((.inl i,v)::vs) ((.int i,d)::ds)
 | consS {x:Str} {v:V} {d:D} {vs:List (Key×V)} {ds:List (D×D)}:Shd cl w v d->ShdK cl w vs ds->ShdK cl w ((.inr x,v)::vs) ((.str x,d)::ds)
end
structure Fut(w w':Wd):Prop where
 keep:∀a o,w.H a=some o->w.ow a=none->w'.H a=some o/\w'.ow a=none
 mu:∀(n:Nat) (a:Addr),w.mu[n]?=some a->w'.mu[n]?=some a
def Fut.refl(w:Wd):Fut w w:=⟨fun _ _ h k=>⟨h,k⟩,fun _ _ h=>h⟩
def Fut.trans(a:Fut w w1)(b:Fut w1 w2):Fut w w2:=⟨fun c o h k=>b.keep c o (a.keep c o h k).1 (a.keep c o h k).2,fun n c h=>b.mu n c (a.mu n c h)⟩
mutual
theorem Shd.up{cl:Cf}{w w':Wd}(f:Fut w w'):∀{v:V} {d:D},Shd cl w v d->Shd cl w' v d
 | _,_,.non=>.non
 | _,_,.bl b=>.bl b
 | _,_,.int i=>.int i
 | _,_,.str x=>.str x
 | _,_,.tup e k r=>.tup (f.keep _ _ e k).1 (f.keep _ _ e k).2 (Shds.up f r)
 | _,_,.lst e k r=>.lst (f.keep _ _ e k).1 (f.keep _ _ e k).2 (Shds.up f r)
 | _,_,.dicK e k r=>.dicK (f.keep _ _ e k).1 (f.keep _ _ e k).2 (ShdK.up f r)
 | _,_,.ref e=>.ref (f.mu _ _ e)
 | _,_,.scr e k=>.scr (f.keep _ _ e k).1 (f.keep _ _ e k).2
 | _,_,.scrK h=>.scrK h
 | _,_,.exc e k h=>.exc (f.keep _ _ e k).1 (f.keep _ _ e k).2 h
theorem Shds.up{cl:Cf}{w w':Wd}(f:Fut w w'):∀{vs:List V} {ds:List D},Shds cl w vs ds->Shds cl w' vs ds
 | _,_,.nil=>.nil
 | _,_,.cons r t=>.cons (Shd.up f r) (Shds.up f t)
theorem ShdK.up{cl:Cf}{w w':Wd}(f:Fut w w'):∀{vs:List (Key×V)} {ds:List (D×D)},ShdK cl w vs ds->ShdK cl w' vs ds
 | _,_,.nil=>.nil
 | _,_,.consI r t=>.consI (Shd.up f r) (ShdK.up f t)
 | _,_,.consS r t=>.consS (Shd.up f r) (ShdK.up f t)
end
section
variable{cl:Cf}{w:Wd}
theorem Shds.length:∀{vs:List V} {ds:List D},Shds cl w vs ds->vs.length=ds.length
 | _,_,.nil=>rfl
 | _,_,.cons _ t=>by rw [yaf,yaf,Shds.length t]
theorem Shds.get:∀{vs:List V} {ds:List D},Shds cl w vs ds->∀{i:Nat} {v:V},vs[i]?=some v->∃d,ds[i]?=some d/\Shd cl w v d
 | _,_,.nil,i,v,e=>by simp at e
 | _,_,.cons r _,0,v,e=>by simp at e;subst e;exact ⟨_,rfl,r⟩
 | _,_,.cons _ t,i+1,v,e=>by
  obtain ⟨d,h1,h2⟩:=Shds.get t (i:=i) (v:=v) (by simpa using e);exact ⟨d,by simpa using h1,h2⟩
theorem Shds.at:∀{vs:List V} {ds:List D},Shds cl w vs ds->∀{i:Nat} {d:D},ds[i]?=some d->∃v,vs[i]?=some v/\Shd cl w v d
 | _,_,.nil,i,v,e=>by simp at e
 | _,_,.cons r _,0,v,e=>by simp at e;subst e;exact ⟨_,rfl,r⟩
 | _,_,.cons _ t,i+1,v,e=>by
  obtain ⟨d,h1,h2⟩:=Shds.at t (i:=i) (d:=v) (by simpa using e);exact ⟨d,by simpa using h1,h2⟩
theorem Shds.append:∀{vs ws:List V} {ds es:List D},Shds cl w vs ds->Shds cl w ws es->Shds cl w (vs++ws) (ds++es)
 | _,_,_,_,.nil,s=>s
 | _,_,_,_,.cons r t,s=>.cons r (Shds.append t s)
theorem Shds.take:∀{vs:List V} {ds:List D} (n:Nat),Shds cl w vs ds->Shds cl w (vs.take n) (ds.take n)
 | _,_,0,_=>.nil
 | _,_,_+1,.nil=>.nil
 | _,_,n+1,.cons r t=>.cons r (Shds.take n t)
theorem Shds.rev:∀{vs:List V} {ds:List D},Shds cl w vs ds->Shds cl w vs.reverse ds.reverse
 | _,_,.nil=>.nil
 | _,_,.cons r t=>by
  rw [ybq,ybq];exact Shds.append (Shds.rev t) (.cons r .nil)
theorem Shds.flat(h:Shds cl w vs ds):∀n:Nat,Shds cl w (List.replicate n vs).flatten (List.replicate n ds).flatten
 | 0=>.nil
 | n+1=>by
  rw [ya3,ya3,ybr,ybr];exact Shds.append h (Shds.flat h n)
end
inductive Top(cl:Cf)(w:Wd):HO->D->Prop
 | lst {xs:List V} {ds:List D}:Shds cl w xs ds->Top cl w (.lst xs) (.lst ds)
 | dicK {kvs:List (Key×V)} {ds:List (D×D)}:ShdK cl w kvs ds->Top cl w (.dK kvs) (.dic ds)
theorem Top.up(f:Fut w w'):Top cl w o d->Top cl w' o d
 | .lst h=>.lst (h.up f)
 | .dicK h=>.dicK (h.up f)
noncomputable def zhl(cl:Cf)(w:Wd)(r:Root):Bool->V->D->Prop
 | false,v,d=>Shd cl w v d
 | true,v,d=>∃a o,v=.ref a/\w.ow a=some r/\w.H a=some o/\Top cl w o d
theorem zhl.keep(f:Fut w w')(k:∀a o,w.H a=some o->w.ow a=some r->w'.H a=some o/\w'.ow a=some r):∀{b:Bool} {v:V} {d:D},zhl cl w r b v d->zhl cl w' r b v d
 | false,_,_,h=>Shd.up f h
 | true,_,_,⟨a,o,e,h1,h2,t⟩=>⟨a,o,e,(k a o h2 h1).2,(k a o h2 h1).1,t.up f⟩
noncomputable def zh7(cl:Cf)(w:Wd)(r:Root)(own:Bool)(v:V)(d:D):Prop:=(own=false/\Shd cl w v d)\/(own=true/\∃d0,d=.tup [d0]/\zhl cl w r true v d0)
theorem zh7.keep(f:Fut w w')(k:∀a o,w.H a=some o->w.ow a=some r->w'.H a=some o/\w'.ow a=some r)(h:zh7 cl w r b v d):zh7 cl w' r b v d:=by
 rcases h with ⟨e,h⟩ | ⟨e,d0,e1,h⟩
 ·exact .inl ⟨e,h.up f⟩
 ·exact .inr ⟨e,d0,e1,h.keep f k⟩
structure Ob where
 cls:Str
 fs:List (Str×Bool×D)
noncomputable abbrev Sto:=List Ob
noncomputable def zcP(cl:Cf)(w:Wd)(n:Nat):List (Str×V)->List (Str×Bool×D)->Prop:=Paired fun p q=>p.1=q.1/\zh7 cl w (.fld n q.1) q.2.1 p.2 q.2.2
noncomputable def ztu(cl:Cf)(w:Wd)(n:Nat)(a:Addr)(ob:Ob):Prop:=w.ow a=some (.obj n)/\∃dx fs,w.H a=some (.ins (cl ob.cls) dx fs)/\zcP cl w n fs ob.fs
noncomputable def zsf(n:Nat):Option Root->Prop | some (.obj m)=>m=n | some (.fld m _)=>m=n | _=>False
theorem zcP.keep(f:Fut w w')(k:∀a o,w.H a=some o->zsf n (w.ow a)->w'.H a=some o/\w'.ow a=w.ow a):∀{fs:List (Str×V)} {gs:List (Str×Bool×D)},zcP cl w n fs gs->zcP cl w' n fs gs
 | _,_,.nil=>.nil
 | _,_,.cons ⟨e,h⟩ t=>.cons ⟨e,h.keep f fun a o ha hr=>by
   have:=k a o ha (by rw [hr];rfl)
   exact ⟨this.1,this.2.trans hr⟩⟩ (zcP.keep f k t)
theorem ztu.keep(f:Fut w w')(k:∀a o,w.H a=some o->zsf n (w.ow a)->w'.H a=some o/\w'.ow a=w.ow a)(h:ztu cl w n a ob):ztu cl w' n a ob:=by
 obtain ⟨h1,dx,fs,h2,h3⟩:=h;have:=k a _ h2 (by rw [h1];rfl);exact ⟨this.2.trans h1,dx,fs,this.1,h3.keep f k⟩
noncomputable def zlO(w:Wd)(qual:Str)(ps:Array Value):Prop:=TriplesOk ps.toList/\∀pos cv,codeAmong pos ps.toList=some cv->∃c oc,cv=.ref c/\(w.H c=some (.frz oc (.own c))/\w.ow c=none)/\zjb qual oc
def zlO.up{w w':Wd}(f:Fut w w'){q:Str}{ps:Array Value}(h:zlO w q ps):zlO w' q ps :=
 ⟨h.1,fun pos cv e=>let ⟨c,oc,h1,h2,h3⟩:=h.2 pos cv e;⟨c,oc,h1,f.keep _ _ h2.1 h2.2,h3⟩⟩
noncomputable def znw(cl:Cf)(w:Wd):Prop:=∀P q,cl.tabs P=some q->∃ps,w.H P=some (.tbl ps)/\w.ow P=some .tab/\zlO w q ps
def znw.keep{cl:Cf}{w w':Wd}(h:znw cl w)(f:Fut w w')(k:∀P ps,w.H P=some (.tbl ps)->w.ow P=some .tab->w'.H P=some (.tbl ps)/\w'.ow P=some .tab):znw cl w':=fun P q e =>
 let ⟨ps,h1,h2,h3⟩:=h P q e;⟨ps,(k P ps h1 h2).1,(k P ps h1 h2).2,h3.up f⟩
structure Base where
 Fr:Hp
 fw:Ow
structure World'(cl:Cf)(B:Base)(w:Wd)(S:Sto):Prop where
 fr:∀a o,B.Fr a=some o->w.H a=some o/\w.ow a=B.fw a
 own:∀a r,w.ow a=some r->r=.far\/B.Fr a=none
 len:w.mu.length=S.length
 obj:∀(n:Nat) (ob:Ob),S[n]?=some ob->∃a,w.mu[n]?=some a/\ztu cl w n a ob
 tab:znw cl w
noncomputable abbrev Env:=List (Option (Bool×D))
structure Rel(cl:Cf)(B:Base)(σ:St)(w:Wd)(ρ:Env)(S:Sto):Prop where
 wd:World' cl B w S
 len:σ.length=ρ.length
 slots:∀(i:Nat) (o:Bool) (d:D),ρ[i]?=some (some (o,d))->∃v,σ[i]?=some (some v)/\zhl cl w (.slot i) o v d
structure Grow(w w':Wd):Prop where
 keep:∀a o,w.H a=some o->w'.H a=some o/\w'.ow a=w.ow a
 new:∀a r,w'.ow a=some r->w.H a=none->w.ow a=some r\/r=.far
 mu:w'.mu=w.mu
def Grow.refl(w:Wd):Grow w w:=⟨fun _ _ h=>⟨h,rfl⟩,fun _ _ h _=>.inl h,rfl⟩
def Grow.fut(g:Grow w w'):Fut w w':=⟨fun a o h k=>⟨(g.keep a o h).1,(g.keep a o h).2.trans k⟩,fun n a h=>by rw [g.mu];exact h⟩
def World'.grow(W:World' cl B w S)(g:Grow w w'):World' cl B w' S where
 fr:=fun a o h=>by
  obtain ⟨h1,h2⟩:=W.fr a o h;exact ⟨(g.keep a o h1).1,(g.keep a o h1).2.trans h2⟩
 own:=fun a r h=>by
  cases e:w.H a with
  | none=>exact (g.new a r h e).elim (W.own a r) .inl
  | some o=>exact W.own a r (by rw [<-(g.keep a o e).2];exact h)
 len:=by rw [g.mu];exact W.len
 obj:=fun n ob h=>by
  obtain ⟨a,e,x⟩:=W.obj n ob h;exact ⟨a,by rw [g.mu];exact e,x.keep g.fut fun a o ha _=>g.keep a o ha⟩
 tab:=W.tab.keep g.fut fun P ps h1 h2=>⟨(g.keep P _ h1).1,(g.keep P _ h1).2.trans h2⟩
theorem Rel.grow(R:Rel cl B σ w ρ S)(g:Grow w w'):Rel cl B σ w' ρ S where
 wd:=R.wd.grow g
 len:=R.len
 slots:=fun i o d h=>by
  obtain ⟨v,e,x⟩:=R.slots i o d h;exact ⟨v,e,x.keep g.fut fun a o ha hr=>⟨(g.keep a o ha).1,(g.keep a o ha).2.trans hr⟩⟩
def Wd.add(w:Wd)(p:Addr)(o:HO):Wd:=⟨upd w.H p o,fun a=>if a=p then none else w.ow a,w.mu⟩
def zaH(h:w.H p=none)(o:HO):Grow w (w.add p o) where
 keep:=fun a u ha=>by
  have n:a≠p:=zaw ha h;refine ⟨?_,?_⟩
  ·show upd w.H p o a=_;rw [zag n];exact ha
  ·show (if a=p then none else w.ow a)=_;rw [if_neg n]
 new:=fun a r h1 h2=>by
  have h1':(if a=p then none else w.ow a)=some r:=h1;split at h1'
  ·cases h1'
  ·exact .inl h1'
 mu:=rfl
def zhk{w:Wd}:(w.add p o).ow p=none:=if_pos rfl
def zjN{w:Wd}:(w.add p o).H p=some o:=zap
def Shd.newT(h:w.H p=none)(r:Shds cl w xs ds):Shd cl (w.add p (.tup xs)) (.ref p) (.tup ds):=.tup zjN zhk (r.up (zaH h _).fut)
def Shd.newL(h:w.H p=none)(r:Shds cl w xs ds):Shd cl (w.add p (.lst xs)) (.ref p) (.lst ds):=.lst zjN zhk (r.up (zaH h _).fut)
theorem Top.fz{X:Cx}{pins:Z3}{σ:List (Option V)}{H:Hp}{s:Shared}{cl:Cf}{w:Wd}{a:Addr}{o:HO}{d:D}(t:Top cl w o d)(I:Inv X pins σ H s)(h:H a=some o):∃o',Inv X pins σ (upd H a o') s/\∀w',Fut w w'->w'.H a=some o'->w'.ow a=none->Shd cl w' (.ref a) d:=by
 cases t with
 | lst t=>exact ⟨_,by rw [zlX h];exact I,fun w' f e k=>.lst e k (t.up f)⟩
 | dicK t =>
  obtain ⟨ob,I'⟩:=I.fz h;exact ⟨_,I',fun w' f e k=>.dicK e k (t.up f)⟩
inductive Out(α:Type) where
 | ok (a:α) (S:Sto) | exc (c:Str) (S:Sto) | bad
noncomputable abbrev Fe:=Env->Sto->Out D
inductive Fo where
 | nx (ρ:Env) (S:Sto) | rt (d:D) (S:Sto) | bk (ρ:Env) (S:Sto) | ct (ρ:Env) (S:Sto) | ex (c:Str) (ρ:Env) (S:Sto) | bad
noncomputable abbrev Fs:=Env->Sto->Fo
noncomputable def tE(cl:Cf)(E:St->XK)(f:Fe):TE:=fun σ H Q=>∃B w ρ S,w.H=H/\Rel cl B σ w ρ S/\match f ρ S with
 | .ok d S'=>∀v w',Rel cl B σ w' ρ S'->Fut w w'->Shd cl w' v d->Q v w'.H
 | .exc c S'=>∀w',Rel cl B σ w' ρ S'->Fut w w'->E σ (.ref (cl c)) none w'.H
 | .bad=>False
noncomputable def tN(cl:Cf)(E:St->XK)(f:Fe):TE:=fun σ H Q=>∃B w ρ S,w.H=H/\Rel cl B σ w ρ S/\match f ρ S with
 | .ok d S'=>∀p o w',Rel cl B σ w' ρ S'->Fut w w'->w'.H p=none->Top cl w' o d->Q (.ref p) (upd w'.H p o)
 | .exc c S'=>∀w',Rel cl B σ w' ρ S'->Fut w w'->E σ (.ref (cl c)) none w'.H
 | .bad=>False
noncomputable def Hd(cl:Cf)(σ:St)(ρ:Env)(w:Wd)(v:V)(d:D):Prop:=Shd cl w v d\/∃i:Nat,ρ[i]?=some (some (true,d))/\σ[i]?=some (some v)
noncomputable def tH(cl:Cf)(E:St->XK)(f:Fe):TE:=fun σ H Q=>∃B w ρ S,w.H=H/\Rel cl B σ w ρ S/\match f ρ S with
 | .ok d S'=>∀v w',Rel cl B σ w' ρ S'->Fut w w'->Hd cl σ ρ w' v d->Q v w'.H
 | .exc c S'=>∀w',Rel cl B σ w' ρ S'->Fut w w'->E σ (.ref (cl c)) none w'.H
 | .bad=>False
inductive TopV(cl:Cf)(w:Wd):V->D->Prop
 | sh {v:V} {d:D}:Shd cl w v d->TopV cl w v d
 | ow {a:Addr} {o:HO} {d:D}:w.H a=some o->Top cl w o d->TopV cl w (.ref a) d
def Hd.top(h:Hd cl σ ρ w v d)(R:Rel cl B σ w ρ S):TopV cl w v d:=by
 rcases h with h | ⟨i,h1,h2⟩
 ·exact .sh h
 ·obtain ⟨v',e,a,o,rfl,_,h3,t⟩:=R.slots i true d h1;rw [h2] at e;cases e;exact .ow h3 t
theorem Hd.up(f:Fut w w')(h:Hd cl σ ρ w v d):Hd cl σ ρ w' v d:=by
 rcases h with h | h
 ·exact .inl (h.up f)
 ·exact .inr h
def PE.imp(h:PE X e t)(i:∀σ H Q,t' σ H Q->t σ H Q):PE X e t':=fun pins s σ H Q I q=>h pins s σ H Q I (i _ _ _ q)
def ztZ(h:tH cl E f σ H Q):tE cl E f σ H Q:=by
 obtain ⟨B,w,ρ,S,e,R,h⟩:=h;refine ⟨B,w,ρ,S,e,R,?_⟩
 cases hf:f ρ S with
 | ok d S' =>
  rw [hf] at h;intro v w' R' F' t;exact h v w' R' F' (.inl t)
 | exc c S'=>rwa [hf] at h
 | bad=>rwa [hf] at h
noncomputable def Out.bind{α β:Type}(o:Out α)(k:α->Sto->Out β):Out β:=match o with | .ok a S=>k a S | .exc c S=>.exc c S | .bad=>.bad
noncomputable def Out.of{α:Type}(o:Option α)(S:Sto):Out α:=match o with | some a=>.ok a S | none=>.bad
@[simp] def Out.bind_ok{α β:Type}(a:α)(S:Sto)(k:α->Sto->Out β):(Out.ok a S).bind k=k a S:=rfl
@[simp] def Out.bind_exc{α β:Type}(c:Str)(S:Sto)(k:α->Sto->Out β):(Out.exc c S:Out α).bind k=.exc c S:=rfl
@[simp] def Out.bind_bad{α β:Type}(k:α->Sto->Out β):(Out.bad:Out α).bind k=.bad:=rfl
@[simp] def Out.of_some{α:Type}(a:α)(S:Sto):Out.of (some a) S=.ok a S:=rfl
noncomputable def zan(i:Nat):Fe:=fun ρ S=>match ρ[i]? with | some (some (false,d))=>.ok d S | _=>.bad
noncomputable def zal(i:Nat):Fe:=fun ρ S=>match ρ[i]? with | some (some (_,d))=>.ok d S | _=>.bad
noncomputable def zah(d:D):Fe:=fun _ S=>.ok d S
def eUn(g:D->Option D)(f:Fe):Fe:=fun ρ S=>(f ρ S).bind fun a S1=>Out.of (g a) S1
def zaj(g:D->D->Option D)(f h:Fe):Fe:=fun ρ S=>(f ρ S).bind fun a S1=>(h ρ S1).bind fun b S2=>Out.of (g a b) S2
noncomputable def isB:D->Option Bool | .bl b=>some b | _=>none
def eIf(c f h:Fe):Fe:=fun ρ S=>(c ρ S).bind fun d S1=>match isB d with | some true=>f ρ S1 | some false=>h ρ S1 | none=>.bad
def zg0(f h:Fe):Fe:=fun ρ S=>(f ρ S).bind fun d S1=>match isB d with | some true=>h ρ S1 | some false=>.ok (.bl false) S1 | none=>.bad
def eOr(f h:Fe):Fe:=fun ρ S=>(f ρ S).bind fun d S1=>match isB d with | some true=>.ok (.bl true) S1 | some false=>h ρ S1 | none=>.bad
noncomputable def zcV:D->Option D | .bl b=>some (.bl (!b)) | _=>none
def zau:List Fe->Env->Sto->Out (List D)
 | [],_,S=>.ok [] S
 | f::fs,ρ,S=>(f ρ S).bind fun d S1=>(zau fs ρ S1).bind fun ds S2=>.ok (d::ds) S2
noncomputable def zaK(n:Nat):Bool:=decide (n<=100000)
def zdk(fs:List Fe):Fe:=fun ρ S=>(zau fs ρ S).bind fun ds S1=>if zaK ds.length then .ok (.tup ds) S1 else .bad
def zgZ(fs:List Fe):Fe:=fun ρ S=>(zau fs ρ S).bind fun ds S1=>if zaK ds.length then .ok (.lst ds) S1 else .bad
def zaE(g:List D->Option D)(fs:List Fe):Fe:=fun ρ S=>(zau fs ρ S).bind fun ds S1=>Out.of (g ds) S1
def za5(h:zaK n=true):n<=sizeLine:=yau (yaj h) (by decide)
noncomputable def zby:Expr->Bool | .Starred _ _=>false | _=>true
def zbp(h:zby e=true):starEach (e::es) env=(false,eval e env)::starEach es env:=by
 cases e<;>first | rfl | cases h
theorem zbs:∀{es:List Expr},es.all zby=true->(backTo pos (starEach es env)).any (·.1)=false
 | [],_=>rfl
 | e::es,h=>by
  rw [yaX,yaa] at h;rw [zbp h.1];show (false||(backTo pos (starEach es env)).any (·.1))=false;rw [zbs h.2];rfl
theorem zgC:∀{es:List Expr},es.all zby=true->(backTo pos (starEach es env)).all (fun x=>!x.1)=true
 | [],_=>rfl
 | e::es,h=>by
  rw [yaX,yaa] at h;rw [zbp h.1];show (true&&(backTo pos (starEach es env)).all (fun x=>!x.1))=true;rw [zgC h.2];rfl
def ziW(h:es.all zby=true)(hl:es.length<30):((backTo pos (starEach es env)).all (fun x=>!x.1)&&(backToKw pos (keywordEach [] env)).all (fun x=>x.1.isSome)
   && decide (es.length+([]:List Keyword).length+(if ([]:List Keyword).isEmpty then 0 else 1)<30))=true:=by
 rw [zgC h];show (true&&true&&decide (es.length+0+0<30))=true;simpa using hl
noncomputable def Hds(cl:Cf)(σ:St)(ρ:Env)(w:Wd):List V->List D->Prop:=Paired (Hd cl σ ρ w)
noncomputable def zlN(cl:Cf)(w:Wd):List V->List D->Prop:=Paired (TopV cl w)
theorem Hds.top(R:Rel cl B σ w ρ S):∀{vs:List V} {ds:List D},Hds cl σ ρ w vs ds->zlN cl w vs ds
 | _,_,.nil=>.nil
 | _,_,.cons h t=>.cons (h.top R) (Hds.top R t)
noncomputable def tAs(cl:Cf)(E:St->XK)(fs:List Fe):TA:=fun σ H Q=>∃B w ρ S,w.H=H/\Rel cl B σ w ρ S/\match zau fs ρ S with
 | .ok ds S'=>∀vs w',Rel cl B σ w' ρ S'->Fut w w'->Shds cl w' vs ds->Q vs w'.H
 | .exc c S'=>∀w',Rel cl B σ w' ρ S'->Fut w w'->E σ (.ref (cl c)) none w'.H
 | .bad=>False
noncomputable def tHs(cl:Cf)(E:St->XK)(fs:List Fe):TA:=fun σ H Q=>∃B w ρ S,w.H=H/\Rel cl B σ w ρ S/\match zau fs ρ S with
 | .ok ds S'=>∀vs w',Rel cl B σ w' ρ S'->Fut w w'->Hds cl σ ρ w' vs ds->Q vs w'.H
 | .exc c S'=>∀w',Rel cl B σ w' ρ S'->Fut w w'->E σ (.ref (cl c)) none w'.H
 | .bad=>False
def PA.imp(h:PA X es t)(i:∀σ H Q,t' σ H Q->t σ H Q):PA X es t':=fun pos pins s σ H Q I q=>h pos pins s σ H Q I (i _ _ _ q)
def PT.imp(h:PT X e t)(i:∀σ H Q,t' σ H Q->t σ H Q):PT X e t':=fun pins s σ H Q I q=>h pins s σ H Q I (i _ _ _ q)
section
variable{X:Cx}{cl:Cf}{E:St->XK}{a b c e:Expr}{f h g:Fe}{pos:Pos}
def zrw(hN:X.N[i]?=some x)(hv:Vis X.env.scope x)(hd:(x == ("__debug__":Str))=false)(hcd:(x == ("__classdict__":Str))=false):PE X (.Name x pos) (tE cl E (zan i)):=by
 refine PE.imp (zaP hN hv hd hcd) ?_;rintro σ H Q ⟨B,w,ρ,S,rfl,R,q⟩;unfold zan at q;split at q
 ·rename_i o d S' hm;split at hm
  ·rename_i d' he;cases hm;obtain ⟨v,e,r⟩:=R.slots i false d he;exact ⟨v,e,q v w R (Fut.refl _) r⟩
  ·cases hm
 ·rename_i hm;split at hm<;>cases hm
 ·exact q.elim
def zkf(hN:X.N[i]?=some x)(hv:Vis X.env.scope x)(hd:(x == ("__debug__":Str))=false)(hcd:(x == ("__classdict__":Str))=false):PE X (.Name x pos) (tH cl E (zal i)):=by
 refine PE.imp (zaP hN hv hd hcd) ?_;rintro σ H Q ⟨B,w,ρ,S,rfl,R,q⟩;unfold zal at q;split at q
 ·rename_i o d S' hm;split at hm
  ·rename_i b d' he;cases hm;obtain ⟨v,e,r⟩:=R.slots i b d he;refine ⟨v,e,q v w R (Fut.refl _) ?_⟩
   cases b with
   | false=>exact .inl r
   | true=>exact .inr ⟨i,he,e⟩
  ·cases hm
 ·rename_i hm;split at hm<;>cases hm
 ·exact q.elim
def zfE(h:PE X e (tC v))(hd:∀w,Shd cl w v d):PE X e (tE cl E (zah d)):=by
 refine PE.imp h ?_;rintro σ H Q ⟨B,w,ρ,S,rfl,R,q⟩;exact q v w R (Fut.refl _) (hd w)
def zcx(h:PE X e (tE cl E f)):PE X e (tH cl E f):=PE.imp h fun _ _ _=>ztZ
def zbC(h:PE X e (tN cl E f)):PE X e (tE cl E f):=by
 intro pins s σ H Q I q;obtain ⟨B,w,ρ,S,rfl,R,q⟩:=q;refine yaR (h pins s σ w.H (fun v H'=>∀s',Inv X pins σ H' s'->∃H'',Inv X pins σ H'' s'/\Q v H'') I ⟨B,w,ρ,S,rfl,R,?_⟩) (fun v s' hv=>?_) (fun _ _ x=>x)
 ·cases hf:f ρ S with
  | ok d S' =>
   rw [hf] at q;intro p o w' R' F' hp t s' I';obtain ⟨o',I2,hs⟩:=t.fz I' zap;rw [zoq] at I2;exact ⟨_,I2,q (.ref p) (w'.add p o') (R'.grow (zaH hp o')) (F'.trans (zaH hp o').fut) (hs _ (zaH hp o').fut zjN zhk)⟩
  | exc c S'=>rwa [hf] at q
  | bad=>rwa [hf] at q
 ·obtain ⟨x,H',I',r,q'⟩:=hv;obtain ⟨H2,I2,q2⟩:=q' _ I';exact ⟨x,H2,I2,r,q2⟩
noncomputable def OpD(X:Cx)(cl:Cf)(op:Value->Value->Sem Value)(g:D->D->Option D):Prop:=OpR X op fun x y H Q=>∃w d e r,w.H=H/\TopV cl w x d/\TopV cl w y e/\g d e=some r/\∀v w',Grow w w'->Shd cl w' v r->Q v w'.H
noncomputable def UnD(X:Cx)(cl:Cf)(op:Value->Sem Value)(g:D->Option D):Prop:=UnR X op fun x H Q=>∃w d r,w.H=H/\TopV cl w x d/\g d=some r/\∀v w',Grow w w'->Shd cl w' v r->Q v w'.H
noncomputable def zjP(X:Cx)(cl:Cf)(fv:Value)(g:List D->Option D):Prop:=zc8 X fv fun xs H Q=>∃w ds r,w.H=H/\zlN cl w xs ds/\g ds=some r/\∀v w',Grow w w'->Shd cl w' v r->Q v w'.H
noncomputable def ztw(X:Cx)(cl:Cf)(fv:Value)(g:List D->Option D):Prop:=zc8 X fv fun xs H Q=>∃w ds r,w.H=H/\zlN cl w xs ds/\g ds=some r/\∀p o w',Grow w w'->w'.H p=none->Top cl w' o r->Q (.ref p) (upd w'.H p o)
noncomputable def IxD(X:Cx)(cl:Cf)(g:D->D->Option D):Prop:=IxR X fun x y H Q=>∃w d e r,w.H=H/\TopV cl w x d/\TopV cl w y e/\g d e=some r/\∀v w',Grow w w'->Shd cl w' v r->Q v w'.H
def two(hr:∀x y H Q,(∃w d e r,w.H=H/\TopV cl w x d/\TopV cl w y e/\gg d e=some r/\∀v w',Grow w w'->Shd cl w' v r->Q v w'.H)->r2 x y H Q)(σ:St)(H:Hp)(Q:VK)(q:tE cl E (zaj gg f h) σ H Q):tOp r2 (tH cl E f) (tH cl E h) σ H Q:=by
 obtain ⟨B,w,ρ,S,rfl,R,q⟩:=q;refine ⟨B,w,ρ,S,rfl,R,?_⟩;unfold zaj at q
 cases hf:f ρ S with
 | bad=>rwa [hf] at q
 | exc c S1=>rwa [hf] at q
 | ok d S1 =>
  rw [hf] at q;intro v w1 R1 F1 h1;refine ⟨B,w1,ρ,S1,rfl,R1,?_⟩;dsimp only [Out.bind] at q
  cases hh:h ρ S1 with
  | bad=>rwa [hh] at q
  | exc c S2=>rw [hh] at q;exact fun w2 R2 F2=>q w2 R2 (F1.trans F2)
  | ok e S2 =>
   rw [hh] at q;intro y w2 R2 F2 h2;dsimp only at q
   cases hg:gg d e with
   | none=>rw [hg] at q;exact q.elim
   | some r =>
    rw [hg] at q;exact hr _ _ _ _ ⟨w2,d,e,r,rfl,(h1.up F2).top R2,h2.top R2,hg,fun v' w' gr sh=>q v' w' (R2.grow gr) (F1.trans (F2.trans gr.fut)) sh⟩
def zkg(ho:OpD X cl (binaryOp op) gg)(ha:PE X a (tH cl E f))(hb:PE X b (tH cl E h)):PE X (.BinOp a op b pos) (tE cl E (zaj gg f h)) :=
 PE.imp (zrY ho ha hb) (two fun _ _ _ _ z=>z)
def zrA(ho:IxD X cl gg)(ha:PE X a (tH cl E f))(hb:PE X b (tH cl E h))(hs:zh6 b):PE X (.Subscript a b pos) (tE cl E (zaj gg f h)) :=
 PE.imp (zuo ho ha hb hs) (two fun _ _ _ _ z=>z)
def zrC(ho:OpD X cl (compareOp op) gg)(ha:PE X a (tH cl E f))(hb:PE X b (tH cl E h))(hm:behindInMarks op b=false):PE X (.Compare a [op] [b] pos) (tE cl E (zaj gg f h)) :=
 PE.imp (zpw ho ha hb hm) (two fun _ _ _ _ z=>z)
def zub(ho:UnD X cl (unaryOp op) gg)(ha:PE X a (tH cl E f)):PE X (.UnaryOp op a pos) (tE cl E (eUn gg f)):=by
 refine PE.imp (zum ho ha) ?_;rintro σ H Q ⟨B,w,ρ,S,rfl,R,q⟩;refine ⟨B,w,ρ,S,rfl,R,?_⟩;unfold eUn at q
 cases hf:f ρ S with
 | bad=>rwa [hf] at q
 | exc c S1=>rwa [hf] at q
 | ok d S1 =>
  rw [hf] at q;intro v w1 R1 F1 h1;dsimp only [Out.bind] at q
  cases hg:gg d with
  | none=>rw [hg] at q;exact q.elim
  | some r =>
   rw [hg] at q;exact ⟨w1,d,r,rfl,h1.top R1,hg,fun v' w' gr sh=>q v' w' (R1.grow gr) (F1.trans gr.fut) sh⟩
noncomputable def tTr(cl:Cf)(E:St->XK)(f:Fe):TT:=fun σ H Q=>∃B w ρ S,w.H=H/\Rel cl B σ w ρ S/\match f ρ S with
 | .ok d S'=>match isB d with
  | some b=>∀w',Rel cl B σ w' ρ S'->Fut w w'->Q b w'.H
  | none=>False
 | .exc c S'=>∀w',Rel cl B σ w' ρ S'->Fut w w'->E σ (.ref (cl c)) none w'.H
 | .bad=>False
def zdh{d:D}{b:Bool}(h:isB d=some b):d=.bl b:=by
 cases d<;>simp [isB] at h
 subst h;rfl
def zgs{w:Wd}{v:V}{b:Bool}(h:Shd cl w v (.bl b)):v=.bl b:=by cases h;rfl
def zgl(q:tTr cl E f σ H Q):tB (tE cl E f) σ H Q:=by
 obtain ⟨B,w,ρ,S,rfl,R,q⟩:=q;refine ⟨B,w,ρ,S,rfl,R,?_⟩
 cases hf:f ρ S with
 | bad=>rwa [hf] at q
 | exc c S1=>rwa [hf] at q
 | ok d S1 =>
  rw [hf] at q;intro v w1 R1 F1 h1;dsimp only at q
  cases hb:isB d with
  | none=>rw [hb] at q;exact q.elim
  | some b =>
   rw [hb] at q;rw [zdh hb] at h1;exact ⟨b,zgs h1,q w1 R1 F1⟩
def zba(h:PE X e (tE cl E f))(he:∀whole,isTrue e X.env whole=(do let v ← whole;standAt e.pos;holding [v] (truthy v))):PT X e (tTr cl E f) :=
 PT.imp (zrP h he) fun _ _ _ q=>zgl q
def zj0(hr:∀x y H Q,(∃w d e r,w.H=H/\TopV cl w x d/\TopV cl w y e/\gg d e=some r/\∀v w',Grow w w'->Shd cl w' v r->Q v w'.H)->r2 x y H Q)(q:tTr cl E (zaj gg f h) σ H Q):zoA (tOp r2 (tH cl E f) (tH cl E h)) σ H Q :=
 two hr σ H _ (zgl q)
def znD(ho:OpD X cl (compareOp op) gg)(ha:PE X a (tH cl E f))(hb:PE X b (tH cl E h))(hm:behindInMarks op b=false):PT X (.Compare a [op] [b] pos) (tTr cl E (zaj gg f h)) :=
 PT.imp (zpg ho ha hb hm) fun _ _ _ q=>zj0 (fun _ _ _ _ z=>z) q
def PW.imp(h:PW X e t)(i:∀σ H Q,t' σ H Q->t σ H Q):PW X e t':=fun whole pins s σ H Q I q=>h whole pins s σ H Q I (i _ _ _ q)
def zoz(q:tTr cl E (zg0 f h) σ H Q):zvL (tTr cl E f) (tTr cl E h) σ H Q:=by
 obtain ⟨B,w,ρ,S,rfl,R,q⟩:=q;refine ⟨B,w,ρ,S,rfl,R,?_⟩;unfold zg0 at q
 cases hf:f ρ S with
 | bad=>rwa [hf] at q
 | exc c S1=>rwa [hf] at q
 | ok d S1 =>
  rw [hf] at q;dsimp only [Out.bind] at q ⊢
  cases hb:isB d with
  | none=>rw [hb] at q;exact q.elim
  | some b =>
   rw [hb] at q;intro w1 R1 F1
   cases b with
   | false=>exact zn5 (q w1 R1 F1)
   | true =>
    refine zn4 ⟨B,w1,ρ,S1,rfl,R1,?_⟩;dsimp only at q
    cases hh:h ρ S1 with
    | bad=>rwa [hh] at q
    | exc c S2=>rw [hh] at q;exact fun w2 R2 F2=>q w2 R2 (F1.trans F2)
    | ok e S2 =>
     rw [hh] at q;dsimp only at q ⊢
     cases hb2:isB e with
     | none=>rw [hb2] at q;exact q.elim
     | some b2=>rw [hb2] at q;exact fun w2 R2 F2=>q w2 R2 (F1.trans F2)
def zq4(q:tTr cl E (eOr f h) σ H Q):tOr (tTr cl E f) (tTr cl E h) σ H Q:=by
 obtain ⟨B,w,ρ,S,rfl,R,q⟩:=q;refine ⟨B,w,ρ,S,rfl,R,?_⟩;unfold eOr at q
 cases hf:f ρ S with
 | bad=>rwa [hf] at q
 | exc c S1=>rwa [hf] at q
 | ok d S1 =>
  rw [hf] at q;dsimp only [Out.bind] at q ⊢
  cases hb:isB d with
  | none=>rw [hb] at q;exact q.elim
  | some b =>
   rw [hb] at q;intro w1 R1 F1
   cases b with
   | true=>exact zn4 (q w1 R1 F1)
   | false =>
    refine zn5 ⟨B,w1,ρ,S1,rfl,R1,?_⟩;dsimp only at q
    cases hh:h ρ S1 with
    | bad=>rwa [hh] at q
    | exc c S2=>rw [hh] at q;exact fun w2 R2 F2=>q w2 R2 (F1.trans F2)
    | ok e S2 =>
     rw [hh] at q;dsimp only at q ⊢
     cases hb2:isB e with
     | none=>rw [hb2] at q;exact q.elim
     | some b2=>rw [hb2] at q;exact fun w2 R2 F2=>q w2 R2 (F1.trans F2)
def zoy(q:tTr cl E (eUn zcV f) σ H Q):zvJ (tTr cl E f) σ H Q:=by
 obtain ⟨B,w,ρ,S,rfl,R,q⟩:=q;refine ⟨B,w,ρ,S,rfl,R,?_⟩;unfold eUn at q
 cases hf:f ρ S with
 | bad=>rwa [hf] at q
 | exc c S1=>rwa [hf] at q
 | ok d S1 =>
  rw [hf] at q;dsimp only [Out.bind] at q ⊢
  cases hb:isB d with
  | none =>
   have:zcV d=none:=by cases d<;>simp [isB] at hb<;>rfl
   rw [this] at q;exact q.elim
  | some b =>
   rwa [zdh hb] at q
def znC(ha:PT X a (tTr cl E f)):PT X (.UnaryOp .Not a pos) (tTr cl E (eUn zcV f)):=PT.imp (zrQ ha) fun _ _ _ q=>zoy q
def zrf{zbD:List Expr}(ha:PT X a (tTr cl E f))(hb:PW X (.BoolOp .And (b::zbD) pos) (tTr cl E h)):PW X (.BoolOp .And (a::b::zbD) pos) (tTr cl E (zg0 f h)):=PW.imp (zrO ha hb) fun _ _ _ q=>zoz q
def zrd{zbD:List Expr}(ha:PT X a (tTr cl E f))(hb:PW X (.BoolOp .Or (b::zbD) pos) (tTr cl E h)):PW X (.BoolOp .Or (a::b::zbD) pos) (tTr cl E (eOr f h)):=PW.imp (zuj ha hb) fun _ _ _ q=>zq4 q
def zrD{zbD:List Expr}(ha:PE X a (tE cl E f))(hb:PE X (.BoolOp .And (b::zbD) pos) (tE cl E h)):PE X (.BoolOp .And (a::b::zbD) pos) (tE cl E (zg0 f h)):=by
 refine PE.imp (zr3 ha hb) ?_;rintro σ H Q ⟨B,w,ρ,S,rfl,R,q⟩;refine ⟨B,w,ρ,S,rfl,R,?_⟩;unfold zg0 at q
 cases hf:f ρ S with
 | bad=>rwa [hf] at q
 | exc c S1=>rwa [hf] at q
 | ok d S1 =>
  rw [hf] at q;intro v w1 R1 F1 h1;dsimp only [Out.bind] at q
  cases hb:isB d with
  | none=>rw [hb] at q;exact q.elim
  | some b =>
   rw [hb] at q;rw [zdh hb] at h1;refine ⟨b,zgs h1,?_⟩
   cases b with
   | false=>exact zn5 (q _ w1 R1 F1 (.bl false))
   | true =>
    refine zn4 ⟨B,w1,ρ,S1,rfl,R1,?_⟩;dsimp only at q
    cases hh:h ρ S1 with
    | bad=>rwa [hh] at q
    | exc c S2=>rw [hh] at q;exact fun w2 R2 F2=>q w2 R2 (F1.trans F2)
    | ok e S2=>rw [hh] at q;exact fun v w2 R2 F2=>q v w2 R2 (F1.trans F2)
def zuc{zbD:List Expr}(ha:PE X a (tE cl E f))(hb:PE X (.BoolOp .Or (b::zbD) pos) (tE cl E h)):PE X (.BoolOp .Or (a::b::zbD) pos) (tE cl E (eOr f h)):=by
 refine PE.imp (zun ha hb) ?_;rintro σ H Q ⟨B,w,ρ,S,rfl,R,q⟩;refine ⟨B,w,ρ,S,rfl,R,?_⟩;unfold eOr at q
 cases hf:f ρ S with
 | bad=>rwa [hf] at q
 | exc c S1=>rwa [hf] at q
 | ok d S1 =>
  rw [hf] at q;intro v w1 R1 F1 h1;dsimp only [Out.bind] at q
  cases hb:isB d with
  | none=>rw [hb] at q;exact q.elim
  | some b =>
   rw [hb] at q;rw [zdh hb] at h1;refine ⟨b,zgs h1,?_⟩
   cases b with
   | true=>exact zn4 (q _ w1 R1 F1 (.bl true))
   | false =>
    refine zn5 ⟨B,w1,ρ,S1,rfl,R1,?_⟩;dsimp only at q
    cases hh:h ρ S1 with
    | bad=>rwa [hh] at q
    | exc c S2=>rw [hh] at q;exact fun w2 R2 F2=>q w2 R2 (F1.trans F2)
    | ok e S2=>rw [hh] at q;exact fun v w2 R2 F2=>q v w2 R2 (F1.trans F2)
def zry(ha:PE X a (tE cl E f)):PE X (.UnaryOp .Not a pos) (tE cl E (eUn zcV f)):=by
 refine PE.imp (zr0 ha) ?_;rintro σ H Q ⟨B,w,ρ,S,rfl,R,q⟩;refine ⟨B,w,ρ,S,rfl,R,?_⟩;unfold eUn at q
 cases hf:f ρ S with
 | bad=>rwa [hf] at q
 | exc c S1=>rwa [hf] at q
 | ok d S1 =>
  rw [hf] at q;intro v w1 R1 F1 h1;dsimp only [Out.bind] at q
  cases hb:isB d with
  | none =>
   have:zcV d=none:=by cases d<;>simp [isB] at hb<;>rfl
   rw [this] at q;exact q.elim
  | some b =>
   rw [zdh hb] at q h1;exact ⟨b,zgs h1,q _ w1 R1 F1 (.bl _)⟩
def zt1(q:tE cl E (eIf g f h) σ H Q):tIf (tTr cl E g) (tE cl E f) (tE cl E h) σ H Q:=by
 obtain ⟨B,w,ρ,S,rfl,R,q⟩:=q;refine ⟨B,w,ρ,S,rfl,R,?_⟩;unfold eIf at q
 cases hg:g ρ S with
 | bad=>rwa [hg] at q
 | exc c S1=>rwa [hg] at q
 | ok d S1 =>
  rw [hg] at q;dsimp only [Out.bind] at q ⊢
  cases hb:isB d with
  | none=>rw [hb] at q;exact q.elim
  | some b =>
   rw [hb] at q;intro w1 R1 F1
   cases b with
   | true =>
    refine zn4 ⟨B,w1,ρ,S1,rfl,R1,?_⟩;dsimp only at q
    cases hh:f ρ S1 with
    | bad=>rwa [hh] at q
    | exc c S2=>rw [hh] at q;exact fun w2 R2 F2=>q w2 R2 (F1.trans F2)
    | ok e S2=>rw [hh] at q;exact fun v w2 R2 F2=>q v w2 R2 (F1.trans F2)
   | false =>
    refine zn5 ⟨B,w1,ρ,S1,rfl,R1,?_⟩;dsimp only at q
    cases hh:h ρ S1 with
    | bad=>rwa [hh] at q
    | exc c S2=>rw [hh] at q;exact fun w2 R2 F2=>q w2 R2 (F1.trans F2)
    | ok e S2=>rw [hh] at q;exact fun v w2 R2 F2=>q v w2 R2 (F1.trans F2)
def zud(hc:PT X c (tTr cl E g))(ha:PE X a (tE cl E f))(hb:PE X b (tE cl E h)):PE X (.IfExp c a b pos) (tE cl E (eIf g f h)):=PE.imp (zmw hc ha hb) fun _ _ _ q=>zt1 q
def zej:PA X [] (tAs cl E []):=by
 refine PA.imp zbG ?_;rintro σ H Q ⟨B,w,ρ,S,rfl,R,q⟩;exact q [] w R (Fut.refl _) .nil
def zaT(ha:PE X e (tE cl E f))(hr:PA X es (tAs cl E fs))(hs:starEach (e::es) X.env=(false,eval e X.env)::starEach es X.env):PA X (e::es) (tAs cl E (f::fs)):=by
 refine PA.imp (zaU ha hr hs) ?_;rintro σ H Q ⟨B,w,ρ,S,rfl,R,q⟩;refine ⟨B,w,ρ,S,rfl,R,?_⟩;unfold zau at q
 cases hf:f ρ S with
 | bad=>rwa [hf] at q
 | exc c S1=>rwa [hf] at q
 | ok d S1 =>
  rw [hf] at q;intro v w1 R1 F1 h1;refine ⟨B,w1,ρ,S1,rfl,R1,?_⟩;dsimp only [Out.bind] at q
  cases hh:zau fs ρ S1 with
  | bad=>rwa [hh] at q
  | exc c S2=>rw [hh] at q;exact fun w2 R2 F2=>q w2 R2 (F1.trans F2)
  | ok ds S2 =>
   rw [hh] at q;exact fun vs w2 R2 F2 h2=>q _ w2 R2 (F1.trans F2) (.cons (h1.up F2) h2)
def znG:PA X [] (tHs cl E []):=by
 refine PA.imp zbG ?_;rintro σ H Q ⟨B,w,ρ,S,rfl,R,q⟩;exact q [] w R (Fut.refl _) .nil
def zka(ha:PE X e (tH cl E f))(hr:PA X es (tHs cl E fs))(hs:starEach (e::es) X.env=(false,eval e X.env)::starEach es X.env):PA X (e::es) (tHs cl E (f::fs)):=by
 refine PA.imp (zaU ha hr hs) ?_;rintro σ H Q ⟨B,w,ρ,S,rfl,R,q⟩;refine ⟨B,w,ρ,S,rfl,R,?_⟩;unfold zau at q
 cases hf:f ρ S with
 | bad=>rwa [hf] at q
 | exc c S1=>rwa [hf] at q
 | ok d S1 =>
  rw [hf] at q;intro v w1 R1 F1 h1;refine ⟨B,w1,ρ,S1,rfl,R1,?_⟩;dsimp only [Out.bind] at q
  cases hh:zau fs ρ S1 with
  | bad=>rwa [hh] at q
  | exc c S2=>rw [hh] at q;exact fun w2 R2 F2=>q w2 R2 (F1.trans F2)
  | ok ds S2 =>
   rw [hh] at q;exact fun vs w2 R2 F2 h2=>q _ w2 R2 (F1.trans F2) (.cons (h1.up F2) h2)
def zrx(h:PA X es (tAs cl E fs)):PE X (.Tuple es k pos) (tE cl E (zdk fs)):=by
 refine PE.imp (znR h) ?_;rintro σ H Q ⟨B,w,ρ,S,rfl,R,q⟩;refine ⟨B,w,ρ,S,rfl,R,?_⟩;unfold zdk at q
 cases hf:zau fs ρ S with
 | bad=>rwa [hf] at q
 | exc c S1=>rwa [hf] at q
 | ok ds S1 =>
  rw [hf] at q;intro vs w1 R1 F1 h1;dsimp only [Out.bind] at q
  cases hz:zaK ds.length with
  | false=>rw [hz,if_neg (by decide)] at q;exact q.elim
  | true =>
   rw [hz,if_pos rfl] at q;refine ⟨by rw [h1.length];exact za5 hz,fun p hp=>?_⟩;exact q _ (w1.add p (.tup vs)) (R1.grow (zaH hp _)) (F1.trans (zaH hp _).fut) (Shd.newT hp h1)
def zis(h:PA X es (tAs cl E fs)):PE X (.List es pos) (tN cl E (zgZ fs)):=by
 refine PE.imp (znT h) ?_;rintro σ H Q ⟨B,w,ρ,S,rfl,R,q⟩;refine ⟨B,w,ρ,S,rfl,R,?_⟩;unfold zgZ at q
 cases hf:zau fs ρ S with
 | bad=>rwa [hf] at q
 | exc c S1=>rwa [hf] at q
 | ok ds S1 =>
  rw [hf] at q;intro vs w1 R1 F1 h1;dsimp only [Out.bind] at q
  cases hz:zaK ds.length with
  | false=>rw [hz,if_neg (by decide)] at q;exact q.elim
  | true =>
   rw [hz,if_pos rfl] at q;refine ⟨by rw [h1.length];exact za5 hz,fun p hp=>?_⟩;exact q _ (.lst vs) w1 R1 F1 hp (.lst h1)
def zra(hr:∀xs H Q,(∃w ds r,w.H=H/\zlN cl w xs ds/\gg ds=some r/\∀v w',Grow w w'->Shd cl w' v r->Q v w'.H)->r xs H Q)(q:tE cl E (zaE gg fs) σ H Q):tCB r (tHs cl E fs) σ H Q:=by
 obtain ⟨B,w,ρ,S,rfl,R,q⟩:=q;refine ⟨B,w,ρ,S,rfl,R,?_⟩;unfold zaE at q
 cases hf:zau fs ρ S with
 | bad=>rwa [hf] at q
 | exc c S1=>rwa [hf] at q
 | ok ds S1 =>
  rw [hf] at q;intro vs w1 R1 F1 h1;dsimp only [Out.bind] at q
  cases hg:gg ds with
  | none=>rw [hg] at q;exact q.elim
  | some d =>
   rw [hg] at q;exact hr _ _ _ ⟨w1,ds,d,rfl,h1.top R1,hg,fun v w' gr sh=>q v w' (R1.grow gr) (F1.trans gr.fut) sh⟩
def zt5(hr:∀xs H Q,(∃w ds r,w.H=H/\zlN cl w xs ds/\gg ds=some r/\∀p o w',Grow w w'->w'.H p=none->Top cl w' o r->Q (.ref p) (upd w'.H p o))->r xs H Q)(q:tN cl E (zaE gg fs) σ H Q):tCB r (tHs cl E fs) σ H Q:=by
 obtain ⟨B,w,ρ,S,rfl,R,q⟩:=q;refine ⟨B,w,ρ,S,rfl,R,?_⟩;unfold zaE at q
 cases hf:zau fs ρ S with
 | bad=>rwa [hf] at q
 | exc c S1=>rwa [hf] at q
 | ok ds S1 =>
  rw [hf] at q;intro vs w1 R1 F1 h1;dsimp only [Out.bind] at q
  cases hg:gg ds with
  | none=>rw [hg] at q;exact q.elim
  | some d =>
   rw [hg] at q;exact hr _ _ _ ⟨w1,ds,d,rfl,h1.top R1,hg,fun p o w' gr hp t=>q p o w' (R1.grow gr) (F1.trans gr.fut) hp t⟩
end
noncomputable def Root.out:Option Root->Option Root | some (.slot _)=>some .far | o=>o
def Root.out_none:Root.out o=none↔o=none:=by
 cases o with
 | none=>exact ⟨fun h=>h,fun h=>h⟩
 | some r=>cases r<;>simp [Root.out]
noncomputable def zdK:Option Root->Bool | some (.fld _ _)=>true | some (.obj _)=>true | some .tab=>true | _=>false
def Wd.inn(w:Wd):Wd:=⟨w.H,fun a=>Root.out (w.ow a),w.mu⟩
def Wd.base(w:Wd):Base:=⟨fun a=>if zdK (w.ow a)=true then none else w.H a,fun a=>Root.out (w.ow a)⟩
def Wd.back(w w':Wd):Wd:=⟨w'.H,fun a=>if (w.base.Fr a).isSome=true then w.ow a else Root.out (w'.ow a),w'.mu⟩
def zbL(w:Wd):Fut w w.inn:=⟨fun a o h k=>⟨h,by show Root.out (w.ow a)=none;rw [k];rfl⟩,fun _ _ h=>h⟩
def zhj{w:Wd}(h:w.H a=some o)(k:zdK (w.ow a)=false):w.base.Fr a=some o:=by
 show (if zdK (w.ow a)=true then none else w.H a)=_;rw [k,if_neg (by decide)];exact h
def zpI{w:Wd}(h:w.base.Fr a=some o):w.H a=some o/\zdK (w.ow a)=false:=by
 have h':(if zdK (w.ow a)=true then none else w.H a)=some o:=h;split at h'
 ·cases h'
 ·rename_i z;exact ⟨h',by simpa using z⟩
section
variable{cl:Cf}{B:Base}{σ:St}{w w':Wd}{ρ:Env}{S S':Sto}
def World'.enter(W:World' cl B w S):World' cl w.base w.inn S where
 fr:=fun a o h=>⟨(zpI h).1,rfl⟩
 own:=fun a r h=>by
  have h':Root.out (w.ow a)=some r:=h
  cases e:w.ow a with
  | none=>rw [e] at h';cases h'
  | some q =>
   cases q with
   | slot i=>rw [e] at h';cases h';exact .inl rfl
   | far=>rw [e] at h';cases h';exact .inl rfl
   | fld n f=>exact .inr (by show (if zdK (w.ow a)=true then none else w.H a)=none;rw [e];rfl)
   | obj n=>exact .inr (by show (if zdK (w.ow a)=true then none else w.H a)=none;rw [e];rfl)
   | tab=>exact .inr (by show (if zdK (w.ow a)=true then none else w.H a)=none;rw [e];rfl)
 len:=W.len
 obj:=fun n ob h=>by
  obtain ⟨a,e,x⟩:=W.obj n ob h;refine ⟨a,e,x.keep (zbL w) fun a o ha hn=>⟨ha,?_⟩⟩;show Root.out (w.ow a)=w.ow a
  cases e:w.ow a with
  | none=>rfl
  | some q=>cases q with
   | slot i=>rw [e] at hn;exact hn.elim
   | _=>rfl
 tab:=W.tab.keep (zbL w) fun P ps h1 h2=>⟨h1,by show Root.out (w.ow P)=_;rw [h2];rfl⟩
def zcJ(W:World' cl B w S)(h:B.Fr a=some o):w.base.Fr a=some o:=by
 refine zhj (W.fr a o h).1 ?_
 cases e:w.ow a with
 | none=>rfl
 | some q =>
  rcases W.own a q e with rfl | z
  ·rfl
  ·rw [h] at z;cases z
def zcd(W':World' cl w.base w' S'):Fut w' (w.back w') where
 keep:=fun a o h k=>by
  refine ⟨h,?_⟩;show (if (w.base.Fr a).isSome=true then w.ow a else Root.out (w'.ow a))=none;split
  ·rename_i z;obtain ⟨u,hu⟩:=Option.isSome_iff_exists.mp z;have:=(W'.fr a u hu).2;rw [k] at this;exact Root.out_none.mp this.symm
  ·rw [k];rfl
 mu:=fun _ _ h=>h
def Rel.leave(R:Rel cl B σ w ρ S)(W':World' cl w.base w' S')(F:Fut w.inn w'):Rel cl B σ (w.back w') ρ S'/\Fut w (w.back w'):=by
 have fb:=zcd W';have ff:Fut w (w.back w'):=(zbL w).trans (F.trans fb)
 have in_:∀a o,w.base.Fr a=some o->(w.back w').H a=some o/\(w.back w').ow a=w.ow a:=fun a o h=>by
  refine ⟨(W'.fr a o h).1,?_⟩;show (if (w.base.Fr a).isSome=true then w.ow a else _)=_;rw [h];rfl
 refine ⟨⟨⟨fun a o h=>?_,fun a r h=>?_,W'.len,fun n ob h=>?_,fun P q h=>?_⟩,R.len,fun i o d h=>?_⟩,ff⟩
 ·have:=in_ a o (zcJ R.wd h);exact ⟨this.1,this.2.trans (R.wd.fr a o h).2⟩
 ·cases hb:B.Fr a with
  | none=>exact .inr rfl
  | some o =>
   have:=(in_ a o (zcJ R.wd hb)).2;rw [h] at this
   rcases R.wd.own a r this.symm with z | z
   ·exact .inl z
   ·rw [hb] at z;cases z
 ·obtain ⟨a,e,x⟩:=W'.obj n ob h;refine ⟨a,e,x.keep fb fun a o ha hn=>⟨ha,?_⟩⟩;show (if (w.base.Fr a).isSome=true then w.ow a else Root.out (w'.ow a))=_
  cases e:w'.ow a with
  | none=>rw [e] at hn;exact hn.elim
  | some q =>
   rcases W'.own a q e with rfl | z
   ·rw [e] at hn;exact hn.elim
   ·rw [z]
    cases q with
    | slot i=>rw [e] at hn;exact hn.elim
    | _=>rfl
 ·obtain ⟨ps,h1,h2,h3⟩:=W'.tab P q h;obtain ⟨_,_,g2,_⟩:=R.wd.tab P q h;refine ⟨ps,h1,?_,h3.up fb⟩
  have hb:w.base.Fr P=none:=by show (if zdK (w.ow P)=true then none else w.H P)=none;rw [g2];rfl
  show (if (w.base.Fr P).isSome=true then w.ow P else Root.out (w'.ow P))=_;rw [hb,h2];rfl
 ·obtain ⟨v,e,x⟩:=R.slots i o d h;refine ⟨v,e,x.keep ff fun a u ha hr=>?_⟩;have:=in_ a u (zhj ha (by rw [hr];rfl));exact ⟨this.1,this.2.trans hr⟩
noncomputable def Wd.del(w:Wd)(a:Addr):Wd:=⟨fun b=>if b=a then none else w.H b,w.ow,w.mu⟩
def zfX(k:w.ow a≠none):Fut w (w.del a) where
 keep:=fun b o h e=>⟨by
  show (if b=a then none else w.H b)=_
  rw [if_neg (fun z=>k (by rw [<-z];exact e))];exact h,e⟩
 mu:=fun _ _ h=>h
def zjW(h:w.H a=some o):upd (w.del a).H a o=w.H:=by
 funext b
 by_cases e:b=a
 ·rw [e,zap,h]
 ·rw [zag e];show (if b=a then none else w.H b)=_;rw [if_neg e]
theorem Rel.del(R:Rel cl B σ w ρ S)(k:w.ow a=some .far)(hb:B.Fr a=none):Rel cl B σ (w.del a) ρ S:=by
 have fd:Fut w (w.del a):=zfX (by rw [k];exact yaD _)
 have kp:∀b o,w.H b=some o->b≠a->(w.del a).H b=some o:=fun b o h n=>by
  show (if b=a then none else w.H b)=_;rw [if_neg n];exact h
 refine ⟨⟨fun b o h=>⟨kp b o (R.wd.fr b o h).1 (fun z=>by rw [z,hb] at h;cases h),(R.wd.fr b o h).2⟩,R.wd.own,R.wd.len,fun n ob h=>?_,R.wd.tab.keep fd fun P ps h1 h2=>⟨kp P _ h1 (fun z=>by rw [z,k] at h2;cases h2),h2⟩⟩,R.len,fun i o d h=>?_⟩
 ·obtain ⟨c,e,x⟩:=R.wd.obj n ob h;exact ⟨c,e,x.keep fd fun b o hb' hn=>⟨kp b o hb' (fun z=>by rw [z,k] at hn;exact hn.elim),rfl⟩⟩
 ·obtain ⟨v,e,x⟩:=R.slots i o d h;exact ⟨v,e,x.keep fd fun b o hb' hr=>⟨kp b o hb' (fun z=>by rw [z,k] at hr;cases hr),hr⟩⟩
end
noncomputable def zwC(cl:Cf)(w:Wd):Bool->V->D->Prop
 | false,v,d=>Shd cl w v d
 | true,v,d=>∃a o i,v=.ref a/\w.ow a=some (.slot i)/\w.H a=some o/\Top cl w o d
noncomputable def zgh(cl:Cf)(n:Nat)(own:Bool)(G:List D->Sto->Out D):Sp:=fun vs H Q E=>vs.length=n/\∃B w ds S,w.H=H/\World' cl B w S/\Shds cl w vs ds/\match G ds S with
 | .ok d S'=>∀v w',World' cl B w' S'->Fut w w'->zwC cl w' own v d->Q v w'.H
 | .exc c S'=>∀w',World' cl B w' S'->Fut w w'->E (.ref (cl c)) none w'.H
 | .bad=>False
noncomputable def zc7(CX:CXT)(X:Cx)(E:St->XK):Prop:=∀(pins:Z3) (σ:St) (H:Hp) (s:Shared) (e:Value) (s':Shared),Inv X pins σ H s->CX X.stack H s (E σ) e s'->X.xe e s'
noncomputable def zgn(sp:Sp)(dvs:List V)(E:St->XK)(t:TA):TE:=fun σ H Q=>t σ H fun vs H1=>sp (vs++dvs) H1 Q (E σ)
section
variable{X:Cx}{CX:CXT}{k:Nat}{f C:Addr}{fd:FuncData}{ps:List Str}{sp:Sp}{dvs:List V}{ds:List Value}{E:St->XK}{x m:Str}{p pos apos:Pos}{e o:Expr}{es:List Expr}{ta:TE}{t:TA}
def zfI(F:FnOk X.prog X.w X.K X.mg X.base CX k f fd ps sp)(hr:Room k X.A)(hb:zcM X.K fd ps ds)(hd:Vals dvs ds)(hx:zc7 CX X E)
  (I:Inv X pins σ H s) (r:Vals vs us) (h:sp (vs++dvs) H Q (E σ)):wpAny (model X.prog X.w) X.A (call (.ref f) us) (EP X pins σ Q) X.xe s:=by
 have r2:Vals (vs++dvs) (us++ds):=r.append hd
 have hl:(us++ds).length=ps.length:=by rw [<-r2.length];exact F.len _ _ _ _ h
 refine ycO (ybu (F.run X.A X.stack s H ⟨us,[]⟩ (us++ds) (vs++dvs) Q (E σ) hr I.env0 (hb s us I.kIn hl) r2 h) fun r s' hq=>?_)
 cases r with
 | error e=>exact hx pins σ H s e s' I hq
 | ok fl =>
  cases fl with
  | ret u=>exact I.after hq
  | next=>exact False.elim hq
  | brk=>exact False.elim hq
  | cont=>exact False.elim hq
def zmC(F:FnOk X.prog X.w X.K X.mg X.base CX k f fd ps sp)(hr:Room k X.A)(hg:Gl X x)(hm:X.mg x=some (.ref f))(hk:PySem.W.keepIn X.K (.ref f)=true)(hb:zcM X.K fd ps ds)(hd:Vals dvs ds)(hx:zc7 CX X E)
  (ha:PA X (e::es) t) (hdb:(x == ("__debug__":Str))=false) (he:starEach (e::es) X.env=(false,eval e X.env)::starEach es X.env) (hpl:(backTo pos (starEach es X.env)).any (·.1)=false) :
  PE X (.Call (.Name x p) (e::es) [] pos) (zgn sp dvs E t):=by
 intro pins s σ H Q I h;refine ya0 (zcW I hg hm ?_ hdb);refine ybF (h₀:=X.base) I.ok.mod.kin hk (thn (ha pos pins s σ H _ I h) fun us s1 ⟨vs,H1,I1,r,q⟩=>⟨I1.kIn,?_⟩) he hpl;exact zfI F hr hb hd hx I1 r q
def zkK(F:FnOk X.prog X.w X.K X.mg X.base CX k f fd ps sp)(hr:Room k X.A)(hg:Gl X x)(hm:X.mg x=some (.ref f))(hk:PySem.W.keepIn X.K (.ref f)=true)(hb:zcM X.K fd ps ds)(hd:Vals dvs ds)(hx:zc7 CX X E)
  (hdb:(x == ("__debug__":Str))=false):PE X (.Call (.Name x p) [] [] pos) (zgn sp dvs E zty):=by
 intro pins s σ H Q I h;refine ya0 (zcW I hg hm ?_ hdb);exact PySem.W.callWith_K0 I.kIn hk (zfI (us:=[]) F hr hb hd hx I .nil h)
end
def eFn(G:List D->Sto->Out D)(fs:List Fe):Fe:=fun ρ S=>(zau fs ρ S).bind fun ds S1=>G ds S1
section
variable{cl:Cf}{E:St->XK}{fs:List Fe}{G:List D->Sto->Out D}{σ:St}{H:Hp}{Q:VK}{n:Nat}
def zth(q:tE cl E (eFn G fs) σ H Q)(hn:fs.length=n):zgn (zgh cl n false G) [] E (tAs cl E fs) σ H Q:=by
 obtain ⟨B,w,ρ,S,rfl,R,q⟩:=q;refine ⟨B,w,ρ,S,rfl,R,?_⟩;unfold eFn at q
 cases hf:zau fs ρ S with
 | bad=>rwa [hf] at q
 | exc c S1=>rwa [hf] at q
 | ok ds S1 =>
  rw [hf] at q;intro vs w1 R1 F1 h1;dsimp only [Out.bind] at q
  have hl:∀(fs:List Fe) (S S1:Sto) (ds:List D),zau fs ρ S=.ok ds S1->ds.length=fs.length:=by
   intro fs
   induction fs with
   | nil=>intro S S1 ds h;cases h;rfl
   | cons f fs ih =>
    intro S S1 ds h;unfold zau at h
    cases h1:f ρ S with
    | bad=>rw [h1] at h;cases h
    | exc c S2=>rw [h1] at h;cases h
    | ok d S2 =>
     rw [h1] at h;dsimp only [Out.bind] at h
     cases h2:zau fs ρ S2 with
     | bad=>rw [h2] at h;cases h
     | exc c S3=>rw [h2] at h;cases h
     | ok es S3=>rw [h2] at h;cases h;rw [yaf,yaf,ih S2 _ es h2]
  refine ⟨by rw [yaQ,h1.length,hl fs S S1 ds hf];exact hn,w1.base,w1.inn,ds,S1,rfl,R1.wd.enter,by rw [yaQ];exact h1.up (zbL w1),?_⟩
  cases hg:G ds S1 with
  | bad=>rwa [hg] at q
  | exc c S2 =>
   rw [hg] at q;intro w2 W2 F2;obtain ⟨R3,F3⟩:=R1.leave W2 F2;exact q (w1.back w2) R3 (F1.trans F3)
  | ok d S2 =>
   rw [hg] at q;intro v w2 W2 F2 r2;obtain ⟨R3,F3⟩:=R1.leave W2 F2;exact q v (w1.back w2) R3 (F1.trans F3) (Shd.up (zcd W2) r2)
def ztg(q:tN cl E (eFn G fs) σ H Q)(hn:fs.length=n):zgn (zgh cl n true G) [] E (tAs cl E fs) σ H Q:=by
 obtain ⟨B,w,ρ,S,rfl,R,q⟩:=q;refine ⟨B,w,ρ,S,rfl,R,?_⟩;unfold eFn at q
 cases hf:zau fs ρ S with
 | bad=>rwa [hf] at q
 | exc c S1=>rwa [hf] at q
 | ok ds S1 =>
  rw [hf] at q;intro vs w1 R1 F1 h1;dsimp only [Out.bind] at q
  have hl:∀(fs:List Fe) (S S1:Sto) (ds:List D),zau fs ρ S=.ok ds S1->ds.length=fs.length:=by
   intro fs
   induction fs with
   | nil=>intro S S1 ds h;cases h;rfl
   | cons f fs ih =>
    intro S S1 ds h;unfold zau at h
    cases h1:f ρ S with
    | bad=>rw [h1] at h;cases h
    | exc c S2=>rw [h1] at h;cases h
    | ok d S2 =>
     rw [h1] at h;dsimp only [Out.bind] at h
     cases h2:zau fs ρ S2 with
     | bad=>rw [h2] at h;cases h
     | exc c S3=>rw [h2] at h;cases h
     | ok es S3=>rw [h2] at h;cases h;rw [yaf,yaf,ih S2 _ es h2]
  refine ⟨by rw [yaQ,h1.length,hl fs S S1 ds hf];exact hn,w1.base,w1.inn,ds,S1,rfl,R1.wd.enter,by rw [yaQ];exact h1.up (zbL w1),?_⟩
  cases hg:G ds S1 with
  | bad=>rwa [hg] at q
  | exc c S2 =>
   rw [hg] at q;intro w2 W2 F2;obtain ⟨R3,F3⟩:=R1.leave W2 F2;exact q (w1.back w2) R3 (F1.trans F3)
  | ok d S2 =>
   rw [hg] at q;intro v w2 W2 F2 r2;obtain ⟨R3,F3⟩:=R1.leave W2 F2;obtain ⟨a,o,i,rfl,k1,k2,t⟩:=r2;have hfr:w1.base.Fr a=none:=(W2.own a _ k1).elim (fun z=>by cases z) fun z=>z
   have k3:(w1.back w2).ow a=some .far:=by
    show (if (w1.base.Fr a).isSome=true then w1.ow a else Root.out (w2.ow a))=_;rw [hfr,k1];rfl
   have hb:B.Fr a=none:=by
    cases z:B.Fr a with
    | none=>rfl
    | some u=>rw [zcJ R1.wd z] at hfr;cases hfr
   have hd:=zfX (w:=w1.back w2) (a:=a) (by rw [k3];exact yaD _);have:=q a o ((w1.back w2).del a) (R3.del k3 hb) (F1.trans (F3.trans hd)) (if_pos rfl) ((t.up (zcd W2)).up hd);rwa [zjW (w:=w1.back w2) k2] at this
end
noncomputable def frz1(ρ:Env)(i:Nat):Env:=match ρ[i]? with | some (some (true,d))=>ρ.set i (some (false,d)) | _=>ρ
def frz(is:List Nat)(ρ:Env):Env:=is.foldl frz1 ρ
def sFz(is:List Nat)(f:Fs):Fs:=fun ρ S=>f (frz is ρ) S
noncomputable def sNx:Fs:=fun ρ S=>.nx ρ S
noncomputable def zao(f g:Fs):Fs:=fun ρ S=>match f ρ S with | .nx ρ' S'=>g ρ' S' | o=>o
noncomputable def zcp(i:Nat)(own:Bool)(f:Fe):Fs:=fun ρ S=>match f ρ S with | .ok d S'=>.nx (ρ.set i (some (own,d))) S' | .exc c S'=>.ex c ρ S' | .bad=>.bad
noncomputable def zfF(f:Fe):Fs:=fun ρ S=>match f ρ S with | .ok _ S'=>.nx ρ S' | .exc c S'=>.ex c ρ S' | .bad=>.bad
noncomputable def zbn(f:Fe):Fs:=fun ρ S=>match f ρ S with | .ok d S'=>.rt d S' | .exc c S'=>.ex c ρ S' | .bad=>.bad
def sIf(c:Fe)(f g:Fs):Fs:=fun ρ S=>match c ρ S with | .ok d S'=>(match isB d with | some true=>f ρ S' | some false=>g ρ S' | none=>.bad) | .exc x S'=>.ex x ρ S' | .bad=>.bad
noncomputable def zh5(cl:Cf)(E:St->XK)(own:Bool)(B:Base)(w:Wd)(De:Ends):Fo->Prop
 | .nx ρ' S'=>∀σ' w',Rel cl B σ' w' ρ' S'->Fut w w'->De.nx σ' w'.H
 | .bk ρ' S'=>∀σ' w',Rel cl B σ' w' ρ' S'->Fut w w'->De.bk σ' w'.H
 | .ct ρ' S'=>∀σ' w',Rel cl B σ' w' ρ' S'->Fut w w'->De.ct σ' w'.H
 | .rt d S'=>∀v w',World' cl B w' S'->Fut w w'->zwC cl w' own v d->De.rt v w'.H
 | .ex c ρ' S'=>∀σ' w',Rel cl B σ' w' ρ' S'->Fut w w'->E σ' (.ref (cl c)) none w'.H
 | .bad=>False
theorem zh5.up(f:Fut w w1):∀{o:Fo},zh5 cl E own B w De o->zh5 cl E own B w1 De o
 | .nx _ _,h=>fun σ' w' R F=>h σ' w' R (f.trans F)
 | .bk _ _,h=>fun σ' w' R F=>h σ' w' R (f.trans F)
 | .ct _ _,h=>fun σ' w' R F=>h σ' w' R (f.trans F)
 | .rt _ _,h=>fun v w' R F=>h v w' R (f.trans F)
 | .ex _ _ _,h=>fun σ' w' R F=>h σ' w' R (f.trans F)
 | .bad,h=>h
noncomputable def tS(cl:Cf)(E:St->XK)(own:Bool)(f:Fs):TS:=fun De σ H=>∃B w ρ S,w.H=H/\Rel cl B σ w ρ S/\zh5 cl E own B w De (f ρ S)
def PS.imp{X:Cx}{st:Stmt}{t t':TS}(h:PS X st t)(i:∀De σ H,t' De σ H->t De σ H):PS X st t':=fun pins s σ H De I q=>h pins s σ H De I (i _ _ _ q)
def PSs.imp{X:Cx}{st:List Stmt}{t t':TS}(h:PSs X st t)(i:∀De σ H,t' De σ H->t De σ H):PSs X st t':=fun pins s σ H De I q=>h pins s σ H De I (i _ _ _ q)
section
variable{cl:Cf}{B:Base}{σ:St}{w:Wd}{ρ:Env}{S:Sto}
def Rel.put(R:Rel cl B σ w ρ S)(h:Shd cl w v d):Rel cl B (σ.set i (some v)) w (ρ.set i (some (false,d))) S where
 wd:=R.wd
 len:=by rw [yaJ,yaJ];exact R.len
 slots:=fun j o e hj=>by
  by_cases hij:i=j
  ·subst hij
   have hlt:i<ρ.length:=by
    have:=(yai.mp hj).1;rwa [yaJ] at this
   rw [yaC hlt] at hj;cases hj;exact ⟨v,by rw [yaC (by rw [R.len];exact hlt)],h⟩
  ·rw [yaO hij] at hj ⊢;exact R.slots j o e hj
def Wd.addAs(w:Wd)(p:Addr)(o:HO)(r:Root):Wd:=⟨upd w.H p o,fun a=>if a=p then some r else if w.ow a=some r then some .far else w.ow a,w.mu⟩
def zbK(h:w.H p=none):Fut w (w.addAs p o r) where
 keep:=fun a u ha hk=>by
  have n:a≠p:=zaw ha h;refine ⟨?_,?_⟩
  ·show upd w.H p o a=_;rw [zag n];exact ha
  ·show (if a=p then some r else if w.ow a=some r then some Root.far else w.ow a)=none;rw [if_neg n,if_neg (by rw [hk];exact fun z=>by cases z)];exact hk
 mu:=fun _ _ h=>h
theorem Rel.own(R:Rel cl B σ w ρ S)(hp:w.H p=none)(t:Top cl w o d):Rel cl B (σ.set i (some (.ref p))) (w.addAs p o (.slot i)) (ρ.set i (some (true,d))) S:=by
 have ff:=zbK (w:=w) (p:=p) (o:=o) (r:=.slot i) hp
 have kp:∀a u,w.H a=some u->w.ow a≠some (.slot i)->(w.addAs p o (.slot i)).H a=some u/\(w.addAs p o (.slot i)).ow a=w.ow a:=fun a u ha hk=>by
  have n:a≠p:=zaw ha hp;refine ⟨?_,?_⟩
  ·show upd w.H p o a=_;rw [zag n];exact ha
  ·show (if a=p then _ else if w.ow a=some (Root.slot i) then some Root.far else w.ow a)=_;rw [if_neg n,if_neg hk]
 have hBp:B.Fr p=none:=by
  cases z:B.Fr p with
  | none=>rfl
  | some u=>have:=(R.wd.fr p u z).1;rw [hp] at this;cases this
 refine ⟨⟨fun a u h=>?_,fun a r h=>?_,R.wd.len,fun n ob h=>?_,R.wd.tab.keep ff fun P ps h1 h2=>⟨(kp P _ h1 (by rw [h2];simp)).1,(kp P _ h1 (by rw [h2];simp)).2.trans h2⟩⟩,by rw [yaJ,yaJ];exact R.len,fun j b e hj=>?_⟩
 ·have hne:w.ow a≠some (.slot i):=fun z=>by
   rcases R.wd.own a _ z with y | y
   ·cases y
   ·rw [h] at y;cases y
  have:=kp a u (R.wd.fr a u h).1 hne;exact ⟨this.1,this.2.trans (R.wd.fr a u h).2⟩
 ·have h':(if a=p then some (Root.slot i) else if w.ow a=some (Root.slot i) then some Root.far else w.ow a)=some r:=h;split at h'
  ·rename_i e;rw [e];exact .inr hBp
  ·split at h'
   ·cases h';exact .inl rfl
   ·exact R.wd.own a r h'
 ·obtain ⟨a,e,x⟩:=R.wd.obj n ob h;exact ⟨a,e,x.keep ff fun b u hb hn=>kp b u hb fun z=>by rwa [z] at hn⟩
 ·by_cases hij:i=j
  ·subst hij
   have hlt:i<ρ.length:=by
    have:=(yai.mp hj).1;rwa [yaJ] at this
   rw [yaC hlt] at hj;cases hj;exact ⟨.ref p,by rw [yaC (by rw [R.len];exact hlt)],p,o,rfl,if_pos rfl,zap,t.up ff⟩
  ·rw [yaO hij] at hj ⊢;obtain ⟨v,e1,x⟩:=R.slots j b e hj;refine ⟨v,e1,x.keep ff fun a u ha hr=>?_⟩;have:=kp a u ha (by rw [hr];exact fun z=>hij (by cases z;rfl));exact ⟨this.1,this.2.trans hr⟩
def Wd.mut(w:Wd)(p:Addr)(o:HO):Wd:=⟨upd w.H p o,w.ow,w.mu⟩
def zdX(h:w.ow p≠none):Fut w (w.mut p o) where
 keep:=fun a u ha hk=>⟨by
  show upd w.H p o a=_
  rw [zag (fun z=>h (by rw [<-z];exact hk))];exact ha,hk⟩
 mu:=fun _ _ h=>h
theorem Rel.mut{i:Nat}{p:Addr}{o:HO}{d d0:D}(R:Rel cl B σ w ρ S)(hs:σ[i]?=some (some (.ref p)))(hk:w.ow p=some (.slot i))(t:Top cl w o d):Rel cl B σ (w.mut p o) (ρ.set i (some (true,d))) S:=by
 have ff:=zdX (w:=w) (p:=p) (o:=o) (by rw [hk];exact yaD _)
 have kp:∀a u,w.H a=some u->w.ow a≠some (.slot i)->(w.mut p o).H a=some u/\(w.mut p o).ow a=w.ow a:=fun a u ha hn=>⟨by
  show upd w.H p o a=_
  rw [zag (fun z=>hn (by rw [z];exact hk))];exact ha,rfl⟩
 have hBp:B.Fr p=none:=(R.wd.own p _ hk).elim (fun z=>by cases z) fun z=>z
 refine ⟨⟨fun a u h=>?_,R.wd.own,R.wd.len,fun n ob h=>?_,R.wd.tab.keep ff fun P ps h1 h2=>⟨(kp P _ h1 (by rw [h2];simp)).1,(kp P _ h1 (by rw [h2];simp)).2.trans h2⟩⟩,by rw [yaJ];exact R.len,fun j b e hj=>?_⟩
 ·have hne:w.ow a≠some (.slot i):=fun z=>by
   rcases R.wd.own a _ z with y | y
   ·cases y
   ·rw [h] at y;cases y
  have:=kp a u (R.wd.fr a u h).1 hne;exact ⟨this.1,(R.wd.fr a u h).2⟩
 ·obtain ⟨a,e,x⟩:=R.wd.obj n ob h;exact ⟨a,e,x.keep ff fun b u hb hn=>kp b u hb fun z=>by rwa [z] at hn⟩
 ·by_cases hij:i=j
  ·subst hij
   have hlt:i<ρ.length:=by
    have:=(yai.mp hj).1;rwa [yaJ] at this
   rw [yaC hlt] at hj;cases hj;exact ⟨.ref p,hs,p,o,rfl,hk,zap,t.up ff⟩
  ·rw [yaO hij] at hj;obtain ⟨v,e1,x⟩:=R.slots j b e hj;refine ⟨v,e1,x.keep ff fun a u ha hr=>?_⟩;have:=kp a u ha (by rw [hr];exact fun z=>hij (by cases z;rfl));exact ⟨this.1,this.2.trans hr⟩
noncomputable def Wd.free(w:Wd)(r:Root):Wd:=⟨w.H,fun a=>if w.ow a=some r then none else w.ow a,w.mu⟩
theorem Rel.frz1{X:Cx}{pins:Z3}{s:Shared}(R:Rel cl B σ w ρ S)(i:Nat)(I:Inv X pins σ w.H s):∃w',Inv X pins σ w'.H s/\Fut w w'/\Rel cl B σ w' (frz1 ρ i) S:=by
 unfold S2.frz1;split
 ·rename_i d hd;obtain ⟨v,e1,a,o,rfl,h1,h2,t⟩:=R.slots i true d hd;obtain ⟨o',I',hsh⟩:=t.fz I h2;generalize hw:((w.mut a o').free (.slot i):Wd)=w'
  have eH:w'.H=upd w.H a o':=by rw [<-hw];rfl
  have eO:∀b,w'.ow b=if w.ow b=some (.slot i) then none else w.ow b:=fun b=>by rw [<-hw];rfl
  have eM:w'.mu=w.mu:=by rw [<-hw];rfl
  have kp:∀b u,w.H b=some u->w.ow b≠some (.slot i)->w'.H b=some u/\w'.ow b=w.ow b:=fun b u hb hn=>⟨by
   rw [eH,zag (fun z=>hn (by rw [z];exact h1))];exact hb,by rw [eO,if_neg hn]⟩
  have ff:Fut w w':=⟨fun b u hb hk=>⟨(kp b u hb (by rw [hk];simp)).1,(kp b u hb (by rw [hk];simp)).2.trans hk⟩,fun n b h=>by rw [eM];exact h⟩;refine ⟨w',by rw [eH];exact I',ff,⟨fun b u h=>?_,fun b r h=>?_,by rw [eM];exact R.wd.len,fun n ob h=>?_,R.wd.tab.keep ff fun P ps h1 h2=>⟨(kp P _ h1 (by rw [h2];simp)).1,(kp P _ h1 (by rw [h2];simp)).2.trans h2⟩⟩,by rw [yaJ];exact R.len,fun j b e hj=>?_⟩
  ·have hne:w.ow b≠some (.slot i):=fun z=>by
    rcases R.wd.own b _ z with y | y
    ·cases y
    ·rw [h] at y;cases y
   have:=kp b u (R.wd.fr b u h).1 hne;exact ⟨this.1,this.2.trans (R.wd.fr b u h).2⟩
  ·rw [eO] at h;split at h
   ·cases h
   ·exact R.wd.own b r h
  ·obtain ⟨b,e,x⟩:=R.wd.obj n ob h;exact ⟨b,by rw [eM];exact e,x.keep ff fun b u hb hn=>kp b u hb fun z=>by rwa [z] at hn⟩
  ·by_cases hij:i=j
   ·subst hij;have hlt:i<ρ.length:=(yai.mp hd).1;rw [yaC hlt] at hj;cases hj;exact ⟨.ref a,e1,hsh w' ff (by rw [eH,zap]) (by rw [eO,if_pos h1])⟩
   ·rw [yaO hij] at hj;obtain ⟨v,e1,x⟩:=R.slots j b e hj;refine ⟨v,e1,x.keep ff fun a u ha hr=>?_⟩;have:=kp a u ha (by rw [hr];exact fun z=>hij (by cases z;rfl));exact ⟨this.1,this.2.trans hr⟩
 ·exact ⟨w,I,Fut.refl _,R⟩
theorem Rel.frz{X:Cx}{pins:Z3}{s:Shared}:∀(is:List Nat) {w:Wd} {ρ:Env},Rel cl B σ w ρ S->Inv X pins σ w.H s->∃w',Inv X pins σ w'.H s/\Fut w w'/\Rel cl B σ w' (frz is ρ) S
 | [],w,ρ,R,I=>⟨w,I,Fut.refl _,R⟩
 | i::is,w,ρ,R,I=>by
  obtain ⟨w1,I1,f1,R1⟩:=R.frz1 i I;obtain ⟨w2,I2,f2,R2⟩:=Rel.frz is R1 I1;exact ⟨w2,I2,f1.trans f2,R2⟩
end
section
variable{X:Cx}{cl:Cf}{E:St->XK}{own:Bool}{st:Stmt}{zbD:List Stmt}{f g:Fs}{e:Expr}{fe:Fe}{pos pos':Pos}
def zt8(is:List Nat)(h:PS X st (tS cl E own f)):PS X st (tS cl E own (sFz is f)):=by
 intro pins s σ H De I q;obtain ⟨B,w,ρ,S,rfl,R,q⟩:=q;obtain ⟨w',I',f',R'⟩:=R.frz is I;exact h pins s σ w'.H De I' ⟨B,w',frz is ρ,S,rfl,R',zh5.up f' q⟩
def zim:PSs X [] (tS cl E own sNx):=by
 refine PSs.imp zph ?_;rintro De σ H ⟨B,w,ρ,S,rfl,R,q⟩;exact q σ w R (Fut.refl _)
def zdR(h1:PS X st (tS cl E own f))(h2:PSs X zbD (tS cl E own g)):PSs X (st::zbD) (tS cl E own (zao f g)):=by
 refine PSs.imp (zmn h1 h2) ?_;rintro De σ H ⟨B,w,ρ,S,rfl,R,q⟩;refine ⟨B,w,ρ,S,rfl,R,?_⟩;unfold zao at q
 cases hf:f ρ S with
 | nx ρ' S' =>
  rw [hf] at q;intro σ' w' R' F';exact ⟨B,w',ρ',S',rfl,R',zh5.up F' q⟩
 | bk ρ' S'=>rwa [hf] at q
 | ct ρ' S'=>rwa [hf] at q
 | rt d S'=>rwa [hf] at q
 | ex c ρ' S'=>rwa [hf] at q
 | bad=>rwa [hf] at q
def zoM:PS X (.Pass pos) (tS cl E own sNx):=by
 refine PS.imp zpj ?_;rintro De σ H ⟨B,w,ρ,S,rfl,R,q⟩;exact q σ w R (Fut.refl _)
def zvb(q:tS cl E own (zcp i false fe) De σ H):zqN (tE cl E fe) (zli i) De σ H:=by
 obtain ⟨B,w,ρ,S,rfl,R,q⟩:=q;refine ⟨B,w,ρ,S,rfl,R,?_⟩;unfold zcp at q
 cases hf:fe ρ S with
 | bad=>rwa [hf] at q
 | exc c S1=>rw [hf] at q;exact fun w' R' F'=>q σ w' R' F'
 | ok d S1 =>
  rw [hf] at q;intro v w' R' F' h';exact q _ w' (R'.put h') F'
def ztn(q:tS cl E own (zcp i true fe) De σ H):zqN (tN cl E fe) (zli i) De σ H:=by
 obtain ⟨B,w,ρ,S,rfl,R,q⟩:=q;refine ⟨B,w,ρ,S,rfl,R,?_⟩;unfold zcp at q
 cases hf:fe ρ S with
 | bad=>rwa [hf] at q
 | exc c S1=>rw [hf] at q;exact fun w' R' F'=>q σ w' R' F'
 | ok d S1 =>
  rw [hf] at q;intro p o w' R' F' hp t;exact q _ (w'.addAs p o (.slot i)) (R'.own hp t) (F'.trans (zbK hp))
def znF(hN:X.N.Nodup)(hi:X.N[i]?=some x)(hx:Loc X.env.scope x)(he:PE X e (tE cl E fe))(hs:swapsWith e (some (.Name x pos')) pos.line X.env=pure false)(hf:X.fn x=true\/X.env.scope.names.lookup x=some .local):PS X (.Assign [.Name x pos'] e pos) (tS cl E own (zcp i false fe)) :=
 PS.imp (znP hN hi hx he hs hf) fun _ _ _ q=>zvb q
def zhy(hN:X.N.Nodup)(hi:X.N[i]?=some x)(hx:Loc X.env.scope x)(he:PE X e (tN cl E fe))(hs:swapsWith e (some (.Name x pos')) pos.line X.env=pure false)(hf:X.fn x=true\/X.env.scope.names.lookup x=some .local):PS X (.Assign [.Name x pos'] e pos) (tS cl E own (zcp i true fe)) :=
 PS.imp (znP hN hi hx he hs hf) fun _ _ _ q=>ztn q
def znE(he:PE X e (tE cl E fe))(hs:swapsWith e none pos.line X.env=pure false):PS X (.Expr e pos) (tS cl E own (zfF fe)):=by
 refine PS.imp (zeo he hs) ?_;rintro De σ H ⟨B,w,ρ,S,rfl,R,q⟩;refine ⟨B,w,ρ,S,rfl,R,?_⟩;unfold zfF at q
 cases hf:fe ρ S with
 | bad=>rwa [hf] at q
 | exc c S1=>rw [hf] at q;exact fun w' R' F'=>q σ w' R' F'
 | ok d S1=>rw [hf] at q;exact fun v w' R' F' _=>q σ w' R' F'
def zj5(he:PE X e (tE cl E fe)):PS X (.Return (some e) pos) (tS cl E false (zbn fe)):=by
 refine PS.imp (ziz he) ?_;rintro De σ H ⟨B,w,ρ,S,rfl,R,q⟩;refine ⟨B,w,ρ,S,rfl,R,?_⟩;unfold zbn at q
 cases hf:fe ρ S with
 | bad=>rwa [hf] at q
 | exc c S1=>rw [hf] at q;exact fun w' R' F'=>q σ w' R' F'
 | ok d S1=>rw [hf] at q;exact fun v w' R' F' h'=>q v w' R'.wd F' h'
def zoI(he:PE X e (tN cl E fe)):PS X (.Return (some e) pos) (tS cl E true (zbn fe)):=by
 refine PS.imp (ziz he) ?_;rintro De σ H ⟨B,w,ρ,S,rfl,R,q⟩;refine ⟨B,w,ρ,S,rfl,R,?_⟩;unfold zbn at q
 cases hf:fe ρ S with
 | bad=>rwa [hf] at q
 | exc c S1=>rw [hf] at q;exact fun w' R' F'=>q σ w' R' F'
 | ok d S1 =>
  rw [hf] at q;intro p o w' R' F' hp t;have ff:=zbK (w:=w') (p:=p) (o:=o) (r:=.slot 0) hp;exact q (.ref p) (w'.addAs p o (.slot 0)) (Rel.own (i:=0) R' hp t).wd (F'.trans ff) ⟨p,o,0,rfl,if_pos rfl,zap,t.up ff⟩
def zrj(hc:PT X c (tTr cl E fc))(ha:PSs X a (tS cl E own f))(hb:PSs X b (tS cl E own g)):PS X (.If c a b pos) (tS cl E own (sIf fc f g)):=by
 refine PS.imp (zuk hc ha hb) ?_;rintro De σ H ⟨B,w,ρ,S,rfl,R,q⟩;refine ⟨B,w,ρ,S,rfl,R,?_⟩;unfold sIf at q
 cases hg:fc ρ S with
 | bad=>rwa [hg] at q
 | exc c S1=>rw [hg] at q;exact fun w' R' F'=>q σ w' R' F'
 | ok d S1 =>
  rw [hg] at q;dsimp only at q ⊢
  cases hb:isB d with
  | none=>rw [hb] at q;exact q.elim
  | some b =>
   rw [hb] at q;intro w1 R1 F1
   cases b with
   | true=>exact zn4 ⟨B,w1,ρ,S1,rfl,R1,zh5.up F1 q⟩
   | false=>exact zn5 ⟨B,w1,ρ,S1,rfl,R1,zh5.up F1 q⟩
end
def znJ(i:Nat)(fe:Fe):Fs:=fun ρ S=>match ρ[i]? with
 | some (some (true,.lst l))=>(match fe ρ S with
  | .ok d S'=>if zaK l.length then .nx (ρ.set i (some (true,.lst (l++[d])))) S' else .bad
  | .exc c S'=>.ex c ρ S' | .bad=>.bad)
 | _=>.bad
section
variable{X:Cx}{cl:Cf}{E:St->XK}{own:Bool}{e:Expr}{fe:Fe}{pos pos':Pos}
def zdD(h:zaK n=true):n<sizeLine:=ycJ (yaj h) (by decide)
def Rel.list(R:Rel cl B σ w ρ S)(h:ρ[i]?=some (some (true,.lst l))):∃a xs,σ[i]?=some (some (.ref a))/\w.ow a=some (.slot i)/\w.H a=some (.lst xs)/\Shds cl w xs l:=by
 obtain ⟨v,e1,a,o,rfl,h1,h2,t⟩:=R.slots i true _ h
 cases t with
 | lst t=>exact ⟨a,_,e1,h1,h2,t⟩
def zrn(hN:X.N[i]?=some x)(hv:Vis X.env.scope x)(hd:(x == ("__debug__":Str))=false)(hcd:(x == ("__classdict__":Str))=false)(he:PE X e (tE cl E fe))
  (hpl:zby e=true) (hln:(ap.endLine == cp.line)=true):PS X (.Expr (.Call (.Attribute (.Name x pos') "append" ap) [e] [] cp) pos) (tS cl E own (znJ i fe)):=by
 refine PS.imp (zeo (zmD (es:=[]) ybb yb0 yb1 zer (zaP hN hv hd hcd) (zaU he zbG (zbp hpl)) (hfew:=ziW (by simp [hpl]) (by simp)) (hline:=hln) (hs:=zbp hpl) (hplain:=rfl))) ?_;rintro De σ H ⟨B,w,ρ,S,rfl,R,q⟩;unfold znJ at q;split at q
 ·rename_i l hl;obtain ⟨a,xs,e1,h1,h2,t⟩:=R.list hl;refine ⟨_,e1,.inl ⟨rfl,_,SqL.of h2⟩,B,w,ρ,S,rfl,R,?_⟩
  cases hf:fe ρ S with
  | bad=>rwa [hf] at q
  | exc c S1=>rw [hf] at q;exact fun w' R' F'=>q σ w' R' F'
  | ok d S1 =>
   rw [hf] at q;intro v w' R' F' h';dsimp only at q
   cases hz:zaK l.length with
   | false=>rw [hz,if_neg (by decide)] at q;exact q.elim
   | true =>
    rw [hz,if_pos rfl] at q;obtain ⟨a',xs',e1',h1',h2',t'⟩:=R'.list hl;rw [e1] at e1';cases e1';refine ⟨a,xs',v,rfl,rfl,h2',by rw [t'.length];exact zdD hz,?_⟩;exact q σ (w'.mut a (.lst (xs'++[v]))) (R'.mut (d0:=.non) e1 h1' (.lst (t'.append (.cons h' .nil)))) (F'.trans (zdX (by rw [h1'];exact yaD _)))
 ·exact q.elim
end
end S2
namespace L2
open PySem PySem.Spec PyProof.Rows
section
variable{prog:Program}{w:World}{A:Around}{E:Z5}{s:Shared}
def zl0{it t:Addr}{j:Nat}{vs:Array Value}{v:Value}{Q:Z5}(st:s.heap.IsTupleIter it t j)(tp:s.heap.IsTuple t vs)(e:vs[j]?=some v)
  (q:∀h',h'.IsTupleIter it t (j+1)->Heap.SameBut it s.heap h'->Q v { s with heap:=h' }):wpAny (model prog w) A (Builtin.SmallTypes.nextOf (.ref it)) Q E s:=by
 obtain ⟨o1,g1,c1,d1⟩:=id st;obtain ⟨o2,g2,_,n2,d2⟩:=tp;unfold Builtin.SmallTypes.nextOf;refine yab (ybw (name:=Str.ofString "__next__") st.typeIs ybf (ybX ybf st.typeIs F.entry_tuple_iterator_next ?_ (F.args_tuple_iterator_next_1 _)));show wpAny _ _ (field (.ref it) 0 >>= _) _ _ s;refine yab (ybY g1 d1 (x:=.ref t) rfl ?_);show wpAny _ _ (if (Value.ref t == Value.none)=true then _ else _) _ _ s;rw [if_neg (show ¬ ((Value.ref t == Value.none)=true) from fun z=>yaU z)];show wpAny _ _ (field (.ref it) 1 >>= _) _ _ s;refine yab (ybY g1 d1 (x:=.int j 0) rfl ?_);show wpAny _ _ (seqItems? (.ref t) >>= _) _ _ s;refine yab (ybm g2 d2 ?_);simp only [ycP,e];refine yab (wpAny_setField g1 d1 (by simp) (yam ⟨v,rfl,yam (q _ ?_ (Heap.SameBut.update ..))⟩));refine ⟨_,yco _ g1 (Obj.isFreed_of_fields (Obj.data_mapFields d1 _)),(Obj.cls_mapFields ..).trans c1,?_⟩;rw [Obj.data_mapFields d1];simp [rawInt]
def zor{it t:Addr}{j:Nat}{vs:Array Value}{Q:Z5}(hh:A.handled=none)(st:s.heap.IsTupleIter it t j)(tp:s.heap.IsTuple t vs)(e:vs[j]?=none)
  (q:∀h' x,Heap.ExtBut it s.heap h'->(∃o,h'.get? x=some o/\o.cls=.type "StopIteration")->E (.ref x) { s with heap:=h' }):wpAny (model prog w) A (Builtin.SmallTypes.nextOf (.ref it)) Q E s:=by
 obtain ⟨o1,g1,c1,d1⟩:=id st;obtain ⟨o2,g2,_,n2,d2⟩:=tp;unfold Builtin.SmallTypes.nextOf;refine yab (ybw (name:=Str.ofString "__next__") st.typeIs ybf (ybX ybf st.typeIs F.entry_tuple_iterator_next ?_ (F.args_tuple_iterator_next_1 _)));show wpAny _ _ (field (.ref it) 0 >>= _) _ _ s;refine yab (ybY g1 d1 (x:=.ref t) rfl ?_);show wpAny _ _ (if (Value.ref t == Value.none)=true then _ else _) _ _ s;rw [if_neg (show ¬ ((Value.ref t == Value.none)=true) from fun z=>yaU z)];show wpAny _ _ (field (.ref it) 1 >>= _) _ _ s;refine yab (ybY g1 d1 (x:=.int j 0) rfl ?_);show wpAny _ _ (seqItems? (.ref t) >>= _) _ _ s;refine yab (ybm g2 d2 ?_);simp only [ycP,e];refine yab (wpAny_rule (yab (wpAny_setField g1 d1 (by simp) ?_)));show wpAny _ _ (newExc (.type "StopIteration") [] >>= _) _ _ _;refine yab ?_;simp only [newExc,newTuple];refine yab (ycg ?_ (by size_fits));refine yab (m:=firstArgMember _ _) (wpAny_of_eq (a:=Value.none) ?_ ?_)
 ·first | rfl | (simp only [firstArgMember];rfl)
 refine ycg ?_ (by size_fits);simp only [raiseNew];refine yab (wpAny_handled ?_)
 first | rw [show A.in1.handled=none from hh] | rw [hh]
 refine yab (yam (wpAny_throw (q _ _ (((Heap.SameBut.update ..).extBut.push _).push _) ⟨_,yaq _ rfl,rfl⟩)))
def zlr(hh:A.handled=none)(it t:Addr)(ne:t≠it)(vs:Array Value):Draws prog w A it [it,t] vs.size (fun j v=>vs[j]?=some v) (fun j h=>h.IsTupleIter it t j/\h.IsTuple t vs) where
 live:=fun _ _ st=>by obtain ⟨⟨o,ho,_⟩,_⟩:=st;exact ⟨o,ho⟩
 frame:=fun _ _ _ st hk=>⟨st.1.at fun o e=>hk it (by simp) o e,by obtain ⟨o,ho,r⟩:=st.2;exact ⟨o,hk t (by simp) o ho,r⟩⟩
 item:=fun j s Q E hj st hQ=>zl0 st.1 st.2 (v:=vs[j]) (by simp [hj]) fun h' st' sb=>hQ _ h' s.toks (by simp [hj]) ⟨st',by obtain ⟨o,ho,r⟩:=st.2;exact ⟨o,(sb.2 t ne).trans ho,r⟩⟩ sb
 done:=fun s Q E st hE=>zor hh st.1 st.2 (by simp) hE
end
section
variable{X:Cx}{pins:Z3}{σ:St}{H:Hp}{s:Shared}
def Inv.turnedL{t':Nat}{h':Heap}{ch:List Addr}(I:Inv X pins σ H s)(k:∀b o,b ∉ ch->s.heap.get? b=some o->h'.get? b=some o)(hf:∀b∈ch,zlQ X pins H b):Inv X pins σ H { s with heap:=h',toks:=t' }:=by
 have nit:∀b u,H b=some u->b ∉ ch:=fun b u e z=>by rw [(hf b z).1] at e;cases e
 refine I.step (g':=s.gens) (d':=s.drawn) (ch:=ch) (fun b hb=>?_) (fun b o _ _ hc e _=>k b o hc e) (fun b o _ _ hc e _=>⟨o.slots,k b o hc e⟩) (fun _ _ _ _ n=>n) (fun b o hc e=>⟨o,k b o hc e⟩) (fun _ _ e=>e) (fun _ _ _ e=>e) (fun b ps e=>⟨#[],by rw [e];simp⟩) (fun m hm=>?_) (fun b u e=>?_) I.bare
 ·obtain ⟨f0,f1,f2,f3,f4,f5⟩:=hf b hb;exact ⟨f3,f1,f4,f5⟩
 ·obtain ⟨o,es,ep,ho,r⟩:=hm;exact ⟨o,es,ep,k _ o (fun z=>(hf _ z).2.1 rfl) ho,r⟩
 ·refine (I.hok b u e).stay (fun c v hc q=>k c v ?_ q) (fun _ q=>q) fun _ _ q=>q
  rcases hc with z | z
  ·rw [z];exact nit b u e
  ·exact nit c _ z
end
end L2
namespace S2
open PySem PySem.Spec PyProof.Rows L2
structure ItOk(cl:Cf)(w:Wd)(J:It)(ds:List D):Prop where
 go:∀w',Fut w w'->∀i,i<ds.length->J.go i w'.H
 stop:∀w',Fut w w'->J.stop ds.length w'.H
 yld:∀w',Fut w w'->∀i d x H',ds[i]?=some d->J.yld i w'.H x H'->∃w'',w''.H=H'/\Grow w' w''/\Shd cl w'' x d
noncomputable abbrev Fi:=Env->Sto->Out (List D)
noncomputable def tI(cl:Cf)(E:St->XK)(f:Fi):TI:=fun σ H R'=>∃B w ρ S,w.H=H/\Rel cl B σ w ρ S/\match f ρ S with
 | .ok ds S'=>∀J w',Rel cl B σ w' ρ S'->Fut w w'->ItOk cl w' J ds->R' J w'.H
 | .exc c S'=>∀w',Rel cl B σ w' ρ S'->Fut w w'->E σ (.ref (cl c)) none w'.H
 | .bad=>False
def PI.imp(h:PI X tg it t)(i:∀σ H Q,t' σ H Q->t σ H Q):PI X tg it t':=fun pins s σ H Q I q=>h pins s σ H Q I (i _ _ _ q)
inductive Tg where | one (i:Nat) | tup (is:List Nat)
noncomputable def zd6:List Nat->List D->Env->Option Env
 | [],[],ρ=>some ρ
 | i::is,d::ds,ρ=>zd6 is ds (ρ.set i (some (false,d)))
 | _,_,_=>none
noncomputable def Tg.put:Tg->Env->D->Option Env
 | .one i,ρ,d=>some (ρ.set i (some (false,d)))
 | .tup is,ρ,.tup ds=>zd6 is ds ρ
 | .tup _,_,_=>none
noncomputable def tG(cl:Cf)(n:Nat)(tg:Tg):TG:=fun v σ H Q=>∃B w ρ S d ρ',w.H=H/\Rel cl B σ w ρ S/\Shd cl w v d/\tg.put ρ d=some ρ'/\∀σ',σ'.length=σ.length->σ'.drop n=σ.drop n->Rel cl B σ' w ρ' S->Q σ' w.H
def PG.imp(h:PG X tg t)(i:∀v σ H Q,t' v σ H Q->t v σ H Q):PG X tg t':=fun pins s σ H v u Q I r q=>h pins s σ H v u Q I r (i _ _ _ _ q)
def zeE(tg:Tg)(body:Fs):List D->Env->Sto->Fo
 | [],ρ,S=>.nx ρ S
 | d::ds,ρ,S=>match tg.put ρ d with
  | none=>.bad
  | some ρ1=>match body ρ1 S with
   | .nx ρ' S'=>zeE tg body ds ρ' S'
   | .ct ρ' S'=>zeE tg body ds ρ' S'
   | .bk ρ' S'=>.nx ρ' S'
   | o=>o
noncomputable def zjk(tg:Tg)(it:Fi)(body:Fs):Fs:=fun ρ S=>match it ρ S with
 | .ok ds S'=>zeE tg body ds ρ S'
 | .exc c S'=>.ex c ρ S'
 | .bad=>.bad
section
variable{X:Cx}{cl:Cf}{E:St->XK}{own:Bool}{e iter tg:Expr}{body:List Stmt}{fb:Fs}{fi:Fi}{fc:Fe}{t:Tg}{pos:Pos}
theorem ziY{α:Type}{l:List α}{a:α}(h:i<n):(l.set i a).drop n=l.drop n:=by
 refine ycQ fun k=>?_
 rw [ybG,ybG,yaO (by omega)]
def zrv(hin:i<n)(hN:X.N.Nodup)(hi:X.N[i]?=some x)(hx:Loc X.env.scope x)(hf:X.fn x=true\/X.env.scope.names.lookup x=some .local):PG X (.Name x pos) (tG cl n (.one i)):=by
 refine PG.imp (zkH hN hi hx hf) ?_;rintro v σ H Q ⟨B,w,ρ,S,d,ρ',rfl,R,h,hp,q⟩;cases hp;exact q _ (yaJ ..) (ziY hin) (R.put h)
noncomputable def tGs(cl:Cf)(n:Nat)(is:List Nat):TGs:=fun vs σ H Q=>∃B w ρ S ds ρ',w.H=H/\Rel cl B σ w ρ S/\Shds cl w vs ds/\zd6 is ds ρ=some ρ'/\∀σ',σ'.length=σ.length->σ'.drop n=σ.drop n->Rel cl B σ' w ρ' S->Q σ' w.H
def zoW:PGs X [] (tGs cl n []):=by
 intro pins s σ H vs us Q I r h;obtain ⟨B,w,ρ,S,ds,ρ',rfl,R,hs,hp,q⟩:=h
 cases hs with
 | nil =>
  cases hp;exact zpt pins s σ w.H [] us Q I r ⟨rfl,q σ rfl rfl R⟩
 | cons _ _=>cases hp
def zl5(hin:i<n)(hN:X.N.Nodup)(hi:X.N[i]?=some x)(hx:Loc X.env.scope x)(hf:X.fn x=true\/X.env.scope.names.lookup x=some .local)(h2:PGs X es (tGs cl n is)):PGs X (.Name x pos::es) (tGs cl n (i::is)):=by
 intro pins s σ H vs us Q I r h;obtain ⟨B,w,ρ,S,ds,ρ',rfl,R,hs,hp,q⟩:=h;refine zmt (zkH hN hi hx hf) h2 rfl pins s σ w.H vs us Q I r ?_
 cases hs with
 | nil=>cases hp
 | cons h t =>
  rename_i v d vs ds;exact ⟨v,vs,rfl,B,w,_,S,ds,ρ',rfl,R.put h,t,hp,fun σ' e1 e2=>q σ' (e1.trans (yaJ ..)) (e2.trans (ziY hin))⟩
def zru(hc:X.calm=true)(h:PGs X es (tGs cl n is))(hn:(assignEach es X.env).length=is.length)(hst:(assignEach es X.env).findIdx? (·.1)=none):PG X (.Tuple es k pos) (tG cl n (.tup is)):=by
 refine PG.imp (zrW hc h hn hst) ?_;rintro v σ H Q ⟨B,w,ρ,S,d,ρ',rfl,R,h,hp,q⟩
 cases h with
 | tup e k r =>
  have hl:∀(is:List Nat) (ds:List D) (ρ ρ':Env),zd6 is ds ρ=some ρ'->ds.length=is.length:=by
   intro is
   induction is with
   | nil=>intro ds ρ ρ' h;cases ds with
    | nil=>rfl
    | cons _ _=>cases h
   | cons i is ih=>intro ds ρ ρ' h;cases ds with
    | nil=>cases h
    | cons d ds=>rw [yaf,yaf,ih ds _ _ h]
  rename_i a xs ds;refine ⟨a,xs,rfl,SqT.of e,by rw [r.length];exact hl is ds ρ ρ' hp,B,w,ρ,S,ds,ρ',rfl,R,r,hp,q⟩
 | _=>cases hp
theorem zrk(hp:PassesOwn (model X.prog X.w) X.A X.env X.xe)(hc:X.calm=true)(hi:PI X tg iter (tI cl E fi))(hg:PG X tg (tG cl n t))(hb:PSs X body (tS cl E own fb))(hs:∀x,foldedSetIterable iter X.env x=pure x):PS X (.For tg iter body [] pos) (tS cl E own (zjk t fi fb)):=by
 refine PS.imp (zrS hp hc hi hg hb hs) ?_;rintro De σ H ⟨B,w,ρ,S,rfl,R,q⟩;refine ⟨B,w,ρ,S,rfl,R,?_⟩;unfold zjk at q
 cases hf:fi ρ S with
 | bad=>rwa [hf] at q
 | exc c S1=>rw [hf] at q;exact fun w' R' F'=>q σ w' R' F'
 | ok ds S1 =>
  rw [hf] at q;intro J w0 R0 F0 hJ;dsimp only at q;refine ⟨fun i m σ' H'=>m=ds.length-i/\i<=ds.length/\∃w1 ρ1 S2,w1.H=H'/\Fut w0 w1/\Rel cl B σ' w1 ρ1 S2/\zh5 cl E own B w1 De (zeE t fb (ds.drop i) ρ1 S2),⟨ds.length,by simp,yaK _,w0,ρ,S1,rfl,Fut.refl _,R0,by rw [List.drop_zero];exact zh5.up F0 q⟩,?_⟩;rintro i m σ1 H1 ⟨rfl,hi,w1,ρ1,S2,rfl,F1,R1,q1⟩
  by_cases hlt:i<ds.length
  ·obtain ⟨d,hd⟩:∃d,ds[i]?=some d:=⟨ds[i],yac hlt⟩
   have hdr:ds.drop i=d::ds.drop (i+1):=by
    rw [ybn hlt];rw [yac hlt] at hd;cases hd;rfl
   rw [hdr] at q1;unfold zeE at q1
   cases hp1:t.put ρ1 d with
   | none=>rw [hp1] at q1;exact q1.elim
   | some ρ2 =>
    rw [hp1] at q1;dsimp only at q1;refine .inr ⟨hJ.go w1 F1 i hlt,fun σ' H'=>i+1<=ds.length/\∃w1 ρ1 S2,w1.H=H'/\Fut w0 w1/\Rel cl B σ' w1 ρ1 S2/\zh5 cl E own B w1 De (zeE t fb (ds.drop (i+1)) ρ1 S2),fun σ' H' h'=>⟨ds.length-(i+1),by omega,rfl,h'.1,h'.2⟩,fun x H' y=>?_⟩;obtain ⟨w2,rfl,g2,s2⟩:=hJ.yld w1 F1 i d x H' hd y;refine ⟨B,w2,ρ1,S2,d,ρ2,rfl,R1.grow g2,s2,hp1,fun σ2 _ _ R2=>⟨B,w2,ρ2,S2,rfl,R2,?_⟩⟩;have q2:=zh5.up g2.fut q1
    cases hb:fb ρ2 S2 with
    | bad=>rwa [hb] at q2
    | rt d S3=>rwa [hb] at q2
    | ex c ρ3 S3=>rwa [hb] at q2
    | bk ρ3 S3=>rw [hb] at q2;exact fun σ3 w3 R3 F3=>q2 σ3 w3 R3 F3
    | nx ρ3 S3=>rw [hb] at q2;exact fun σ3 w3 R3 F3=>⟨hlt,w3,ρ3,S3,rfl,F1.trans (g2.fut.trans F3),R3,zh5.up F3 q2⟩
    | ct ρ3 S3=>rw [hb] at q2;exact fun σ3 w3 R3 F3=>⟨hlt,w3,ρ3,S3,rfl,F1.trans (g2.fut.trans F3),R3,zh5.up F3 q2⟩
  ·have e:i=ds.length:=by omega
   subst e;rw [List.drop_length] at q1;exact .inl ⟨hJ.stop w1 F1,q1 σ1 w1 R1 (Fut.refl _)⟩
def ziX(f:Fe):Fi:=fun ρ S=>(f ρ S).bind fun d S1=>match d with | .lst l=>.ok l S1 | _=>.bad
def zhS(f:Fe):Fi:=fun ρ S=>(f ρ S).bind fun d S1=>match d with | .tup l=>.ok l S1 | _=>.bad
theorem zj9(he:PE X e (tE cl E fc)):PI X tg e (tI cl E (ziX fc)):=by
 refine PI.imp (zpr he) ?_;rintro σ H Q ⟨B,w,ρ,S,rfl,R,q⟩;refine ⟨B,w,ρ,S,rfl,R,?_⟩;unfold ziX at q
 cases hf:fc ρ S with
 | bad=>rwa [hf] at q
 | exc c S1=>rwa [hf] at q
 | ok d S1 =>
  rw [hf] at q;intro v w' R' F' h';dsimp only [Out.bind] at q
  cases h' with
  | lst e k r =>
   rename_i a xs ds;refine ⟨a,rfl,⟨xs,SqL.of e⟩,q _ w' R' F' ?_⟩;have hl:=r.length;refine ⟨fun w1 F1 i hi=>⟨xs,xs[i]'(by omega),SqL.of (F1.keep _ _ e k).1,yac (by omega)⟩,fun w1 F1=>⟨xs,SqL.of (F1.keep _ _ e k).1,by omega⟩,fun w1 F1 i d x H1 hd y=>?_⟩;obtain ⟨rfl,hy⟩:=y;have hx:=hy xs (SqL.of (F1.keep _ _ e k).1);obtain ⟨d',e1,e2⟩:=r.get hx;rw [hd] at e1;cases e1;exact ⟨w1,rfl,Grow.refl _,e2.up F1⟩
  | _=>exact q.elim
def zrq(he:PE X e (tE cl E fc)):PI X tg e (tI cl E (zhS fc)):=by
 refine PI.imp (zrU he) ?_;rintro σ H Q ⟨B,w,ρ,S,rfl,R,q⟩;refine ⟨B,w,ρ,S,rfl,R,?_⟩;unfold zhS at q
 cases hf:fc ρ S with
 | bad=>rwa [hf] at q
 | exc c S1=>rwa [hf] at q
 | ok d S1 =>
  rw [hf] at q;intro v w' R' F' h';dsimp only [Out.bind] at q
  cases h' with
  | tup e k r =>
   rename_i a xs ds;refine ⟨a,rfl,⟨xs,SqT.of e⟩,q _ w' R' F' ?_⟩;have hl:=r.length;refine ⟨fun w1 F1 i hi=>⟨xs,xs[i]'(by omega),SqT.of (F1.keep _ _ e k).1,yac (by omega)⟩,fun w1 F1=>⟨xs,SqT.of (F1.keep _ _ e k).1,by omega⟩,fun w1 F1 i d x H1 hd y=>?_⟩;obtain ⟨rfl,hy⟩:=y;have hx:=hy xs (SqT.of (F1.keep _ _ e k).1);obtain ⟨d',e1,e2⟩:=r.get hx;rw [hd] at e1;cases e1;exact ⟨w1,rfl,Grow.refl _,e2.up F1⟩
  | _=>exact q.elim
noncomputable def zaF(lo hi:Int):List D:=(List.range (hi-lo).toNat).map fun (i:Nat)=>.int (lo+i)
def zdO(f:Fe):Fi:=fun ρ S=>(zau [f] ρ S).bind fun ds S1=>match ds with | [.int j]=>if -1000000<=j/\j<=1000000 then .ok (zaF 0 j) S1 else .bad | _=>.bad
def zsP{w:Wd}{lo hi:Int}{n:Nat}(hn:n=(hi-lo).toNat):ItOk cl w (Itr lo n) (zaF lo hi):=by
 subst hn
 have hl:(zaF lo hi).length=(hi-lo).toNat:=by unfold zaF;rw [yad,yci]
 refine ⟨fun w1 F1 i h=>by rw [hl] at h;exact h,fun w1 F1=>by rw [hl];exact yag _,fun w1 F1 i d x H1 hd y=>?_⟩;obtain ⟨rfl,rfl⟩:=y;unfold zaF at hd;rw [yao] at hd
 cases hr:(List.range (hi-lo).toNat)[i]? with
 | none=>rw [hr] at hd;cases hd
 | some j =>
  rw [hr] at hd;have:=(yai.mp hr).2;rw [List.getElem_range] at this;subst this;cases hd;exact ⟨w1,rfl,Grow.refl _,.int _⟩
theorem zoV(hg:Gl X "range")(hm:X.mg "range" = none)(ha:PA X [e] (tAs cl E [fc]))(hs:starEach [e] X.env=[(false,eval e X.env)]):PI X tg (.Call (.Name "range" p) [e] [] pos) (tI cl E (zdO fc)):=by
 refine PI.imp (zkG hg hm ha hs) ?_;rintro σ H Q ⟨B,w,ρ,S,rfl,R,q⟩;refine ⟨B,w,ρ,S,rfl,R,?_⟩;unfold zdO at q
 cases hf:zau [fc] ρ S with
 | bad=>rwa [hf] at q
 | exc c S1=>rwa [hf] at q
 | ok ds S1 =>
  rw [hf] at q;intro vs w' R' F' h';dsimp only [Out.bind] at q;split at q
  ·rename_i ds' S' hm';split at hm'
   ·rename_i j;split at hm'
    ·rename_i hb;cases hm'
     cases h' with
     | cons h1 h2 =>
      cases h1;cases h2;exact ⟨j,rfl,by omega,by omega,q _ w' R' F' (zsP (by omega))⟩
    ·cases hm'
   ·cases hm'
  ·rename_i hm';split at hm'<;>first | (split at hm'<;>cases hm') | cases hm'
  ·exact q.elim
end
noncomputable def zfw(ρ:Env)(i:Nat):Option (Bool×D):=match ρ[i]? with | some (some (false,d))=>some (false,d) | _=>none
def zbO(n:Nat)(caps:List Nat)(ρ:Env):Env:=List.replicate n none++caps.map (zfw ρ)
def zeY:Fe:=zah (.bl true)
def zb6(tg:Tg)(c elt:Fe)(ρ0:Env):List D->Sto->Out (List D)
 | [],S=>.ok [] S
 | d::ds,S=>match tg.put ρ0 d with
  | none=>.bad
  | some ρ1=>(c ρ1 S).bind fun b S1=>match isB b with
   | some true=>(elt ρ1 S1).bind fun y S2=>(zb6 tg c elt ρ0 ds S2).bind fun ys S3=>.ok (y::ys) S3
   | some false=>zb6 tg c elt ρ0 ds S1
   | none=>.bad
def zc4(n:Nat)(tg:Tg)(it:Fi)(c elt:Fe)(caps:List Nat):Fe:=fun ρ S=>(it ρ S).bind fun ds S1=>match zb6 tg c elt (zbO n caps ρ) ds S1 with
 | .ok ys S2=>if zaK ys.length then .ok (.lst ys) S2 else .bad
 | _=>.bad
noncomputable abbrev noE:St->XK:=fun _ _ _ _=>False
section
variable{cl:Cf}
theorem zlb{caps:List (Str×Nat)}(R:Rel cl B σ w ρ S)(W1:World' cl B1 w1 S1)(F1:Fut w w1){σ':St}(hσ:σ'.length=n+caps.length)(hc:σ'.drop n=caps.map fun p=>(σ[p.2]?).join) :
  Rel cl B1 σ' w1 (zbO n (caps.map (·.2)) ρ) S1 where
 wd:=W1
 len:=by unfold zbO;rw [hσ,yan,yaI,yad,yad]
 slots:=fun i o d h=>by
  unfold zbO at h
  by_cases hi:i<n
  ·rw [yat (by rw [yaI];exact hi),yba] at h
   split at h<;>cases h
  ·rw [yay (by rw [yaI];omega),yaI,ybv,yao] at h
   cases hp:caps[i-n]? with
   | none=>rw [hp] at h;cases h
   | some p =>
    rw [hp] at h;have h':zfw ρ p.2=some (o,d):=Option.some.inj h;unfold zfw at h';split at h'
    ·rename_i d' hd;cases h';obtain ⟨v,e,x⟩:=R.slots p.2 false d hd;refine ⟨v,?_,Shd.up F1 x⟩;have:=congrArg (fun l=>l[i-n]?) hc;rw [ybG,yao,hp] at this;rw [show n+(i-n)=i by omega] at this;rw [this];show some ((σ[p.2]?).join)=_;rw [e];rfl
    ·cases h'
end
section
variable{X:Cx}{cl:Cf}{E:St->XK}
theorem zoe(q:tN cl E (zc4 n t fi fc fe (caps.map (·.2))) σ H Q) :
  zil (tI cl E fi) (tG cl n t) (tTr cl noE fc) (tE cl noE fe) n caps σ H Q:=by
 obtain ⟨B,w,ρ,S,rfl,R,q⟩:=q;refine ⟨B,w,ρ,S,rfl,R,?_⟩;unfold zc4 at q
 cases hf:fi ρ S with
 | bad=>rwa [hf] at q
 | exc c S1=>rwa [hf] at q
 | ok ds S1 =>
  rw [hf] at q;dsimp only [Out.bind] at q;intro J w0 R0 F0 hJ
  cases hcd:zb6 t fc fe (zbO n (caps.map (·.2)) ρ) ds S1 with
  | bad=>rw [hcd] at q;exact q.elim
  | exc _ _=>rw [hcd] at q;exact q.elim
  | ok all Sf =>
   rw [hcd] at q;dsimp only at q
   cases hz:zaK all.length with
   | false=>rw [hz,if_neg (by decide)] at q;exact q.elim
   | true =>
    rw [hz,if_pos rfl] at q;dsimp only at q;refine ⟨fun i m ys σ' H'=>m=ds.length-i/\i<=ds.length/\σ'.length=n+caps.length/\σ'.drop n=(caps.map fun p=>(σ[p.2]?).join)/\∃w1 S2 es zbD,w1.H=H'/\Fut w0.inn w1/\World' cl w0.base w1 S2/\Shds cl w1 ys es/\zb6 t fc fe (zbO n (caps.map (·.2)) ρ) (ds.drop i) S2=.ok zbD Sf/\es++zbD=all,⟨ds.length,by simp,yaK _,by simp [capσ],by simp [capσ],w0.inn,S1,[],all,rfl,Fut.refl _,R0.wd.enter,.nil,by rw [List.drop_zero];exact hcd,rfl⟩,?_⟩;rintro i m ys σ1 H1 ⟨rfl,hi,hl1,hd1,w1,S2,es,zbD,rfl,F1,W1,sh,hrest,hall⟩;refine ⟨?_,?_⟩
    ·rw [sh.length];refine yau ?_ (za5 hz);rw [<-hall,yan];omega
    have F1':Fut w0 w1:=(zbL w0).trans F1
    by_cases hlt:i<ds.length
    ·obtain ⟨d,hdi⟩:∃d,ds[i]?=some d:=⟨ds[i],yac hlt⟩
     have hdr:ds.drop i=d::ds.drop (i+1):=by
      rw [ybn hlt];rw [yac hlt] at hdi;cases hdi;rfl
     rw [hdr] at hrest;unfold zb6 at hrest;refine .inr ⟨hJ.go w1 F1' i hlt,fun x H' y=>?_⟩;obtain ⟨w2,rfl,g2,s2⟩:=hJ.yld w1 F1' i d x H' hdi y;have R1:Rel cl w0.base σ1 w2 (zbO n (caps.map (·.2)) ρ) S2:=zlb R0 (W1.grow g2) (F1'.trans g2.fut) hl1 hd1
     cases hp:t.put (zbO n (caps.map (·.2)) ρ) d with
     | none=>rw [hp] at hrest;cases hrest
     | some ρ1 =>
      rw [hp] at hrest;dsimp only at hrest;refine ⟨w0.base,w2,_,S2,d,ρ1,rfl,R1,s2,hp,fun σ2 hk1 hk2 R2=>⟨w0.base,w2,ρ1,S2,rfl,R2,?_⟩⟩
      cases hc:fc ρ1 S2 with
      | bad=>rw [hc] at hrest;cases hrest
      | exc _ _=>rw [hc] at hrest;cases hrest
      | ok b S3 =>
       rw [hc] at hrest;dsimp only [Out.bind] at hrest ⊢
       cases hb:isB b with
       | none=>rw [hb] at hrest;cases hrest
       | some bb =>
        rw [hb] at hrest;intro w3 R3 F3
        cases bb with
        | false=>exact zn5 ⟨ds.length-(i+1),by omega,rfl,hlt,hk1.trans hl1,hk2.trans hd1,w3,S3,es,zbD,rfl,F1.trans (g2.fut.trans F3),R3.wd,sh.up (g2.fut.trans F3),hrest,hall⟩
        | true =>
         refine zn4 ⟨w0.base,w3,ρ1,S3,rfl,R3,?_⟩;dsimp only at hrest
         cases he:fe ρ1 S3 with
         | bad=>rw [he] at hrest;cases hrest
         | exc _ _=>rw [he] at hrest;cases hrest
         | ok yv S4 =>
          rw [he] at hrest;dsimp only at hrest
          cases hr:zb6 t fc fe (zbO n (caps.map (·.2)) ρ) (ds.drop (i+1)) S4 with
          | bad=>rw [hr] at hrest;cases hrest
          | exc _ _=>rw [hr] at hrest;cases hrest
          | ok zs S5 =>
           rw [hr] at hrest;cases hrest;intro v w4 R4 F4 h4;have ff:=g2.fut.trans (F3.trans F4);exact ⟨ds.length-(i+1),by omega,rfl,hlt,hk1.trans hl1,hk2.trans hd1,w4,S4,es++[yv],zs,rfl,F1.trans ff,R4.wd,(sh.up ff).append (.cons h4 .nil),hr,by rw [<-hall,ych];rfl⟩
    ·have e:i=ds.length:=by omega
     subst e;rw [List.drop_length] at hrest;cases hrest;rw [yaQ] at hall;subst hall;refine .inl ⟨hJ.stop w1 F1',fun p hp=>?_⟩;obtain ⟨Rb,Fb⟩:=R0.leave W1 F1;exact q p (.lst ys) (w0.back w1) Rb (F0.trans Fb) hp (.lst (sh.up (zcd W1)))
end
noncomputable def zae(k:Str):List (D×D)->Option D
 | (.str x,d)::r=>if x=k then some d else zae k r
 | _=>none
noncomputable def putS(k:Str)(y:D):List (D×D)->List (D×D)
 | (.str x,d)::r=>if x=k then (.str x,y)::r else (.str x,d)::putS k y r
 | _=>[(.str k,y)]
noncomputable def dropS(k:Str):List (D×D)->List (D×D)
 | (.str x,d)::r=>if x=k then r else (.str x,d)::dropS k r
 | _=>[]
def zai:List (D×D)->Bool
 | (.str x,_)::r=>(zae x r).isNone&&zai r
 | []=>true
 | _=>false
noncomputable def zbI:List (D×D)->List Str
 | (.str x,_)::r=>x::zbI r
 | _=>[]
section
variable{cl:Cf}{w:Wd}
def zou{o:HO}{ds:List (D×D)}(h:Top cl w o (.dic ds))(hs:zai ds=true):∃kvs,o=.dK kvs/\ShdK cl w kvs ds:=by
 cases h with
 | dicK h=>exact ⟨_,rfl,h⟩
theorem zcm(k:Str):∀{kvs:List (Key×V)} {ds:List (D×D)},ShdK cl w kvs ds->zai ds=true->(zeg kvs (.inr k)=none/\zae k ds=none)\/∃v d,zeg kvs (.inr k)=some v/\zae k ds=some d/\Shd cl w v d
 | _,_,.nil,_=>.inl ⟨rfl,rfl⟩
 | _,_,.consI r t,h=>by cases h
 | _,_,.consS (x:=x) (v:=v) (d:=d) r t,h=>by
  unfold zai at h;rw [yaa] at h;unfold zae
  by_cases e:x=k
  ·subst e;rw [if_pos rfl,zc9 rfl];exact .inr ⟨v,d,rfl,rfl,r⟩
  ·rw [if_neg e,zda (fun z=>e (by cases z;rfl))];exact zcm k t h.2
theorem ShdK.snocS{k:Str}{v:V}{d:D}(h:Shd cl w v d):∀{kvs:List (Key×V)} {ds:List (D×D)},ShdK cl w kvs ds->zai ds=true->zae k ds=none->ShdK cl w (kvs++[(.inr k,v)]) (putS k d ds)
 | _,_,.nil,_,_=>.consS h .nil
 | _,_,.consI r t,ho,_=>by cases ho
 | _,_,.consS (x:=x) r t,ho,hl=>by
  unfold zai at ho;rw [yaa] at ho;unfold zae at hl
  by_cases e:x=k
  ·rw [if_pos e] at hl;cases hl
  ·rw [if_neg e] at hl;unfold putS;rw [if_neg e];exact .consS r (ShdK.snocS h t ho.2 hl)
theorem ziI{k:Key}{y:V}:∀{kvs:List (Key×V)},zeg kvs k=none->(kvs.map fun kv=>if kv.1=k then (kv.1,y) else kv)=kvs
 | [],_=>rfl
 | p::r,h=>by
  by_cases e:p.1=k
  ·rw [zc9 e] at h;cases h
  ·rw [zda e] at h;rw [yaz,if_neg e,ziI h]
theorem ShdK.replS{k:Str}{v:V}{d:D}(h:Shd cl w v d):∀{kvs:List (Key×V)} {ds:List (D×D)},ShdK cl w kvs ds->zai ds=true->(zae k ds).isSome=true->ShdK cl w (kvs.map fun kv=>if kv.1=.inr k then (kv.1,v) else kv) (putS k d ds)
 | _,_,.nil,_,hl=>by cases hl
 | _,_,.consI r t,ho,_=>by cases ho
 | _,_,.consS (x:=x) (vs:=vs) r t,ho,hl=>by
  unfold zai at ho;rw [yaa] at ho;unfold zae at hl;unfold putS
  by_cases e:x=k
  ·subst e;rw [if_pos rfl,yaz,if_pos rfl]
   have hn:zeg vs (.inr x)=none:=(zcm x t ho.2).elim (·.1) fun ⟨_,_,_,z,_⟩=>by rw [z] at ho;exact absurd ho.1 (by simp)
   rw [ziI hn];exact .consS h t
  ·rw [if_neg e] at hl;rw [if_neg e,yaz,if_neg (fun z=>e (by cases z;rfl))];exact .consS r (ShdK.replS h t ho.2 hl)
theorem ShdK.putS{k:Str}{v:V}{d:D}{kvs:List (Key×V)}{ds:List (D×D)}(t:ShdK cl w kvs ds)(ho:zai ds=true)(h:Shd cl w v d):ShdK cl w (zen kvs (.inr k) v) (putS k d ds):=by
 rcases zcm k t ho with ⟨h1,h2⟩ | ⟨v',d',h1,h2,_⟩
 ·rw [zml v h1];exact t.snocS h ho h2
 ·unfold zen;rw [if_pos (by rw [zeb,h1];rfl)];exact t.replS h ho (by rw [h2];rfl)
theorem zg1{k:Key}:∀{kvs:List (Key×V)},zeg kvs k=none->zeN kvs k=kvs
 | [],_=>rfl
 | p::r,h=>by
  by_cases e:p.1=k
  ·rw [zc9 e] at h;cases h
  ·rw [zda e] at h;unfold zeN;rw [ybW,if_pos (yaE e)];congr 1;exact zg1 h
theorem ShdK.dropS{k:Str}:∀{kvs:List (Key×V)} {ds:List (D×D)},ShdK cl w kvs ds->zai ds=true->ShdK cl w (zeN kvs (.inr k)) (dropS k ds)
 | _,_,.nil,_=>.nil
 | _,_,.consI r t,ho=>by cases ho
 | _,_,.consS (x:=x) (vs:=vs) r t,ho=>by
  unfold zai at ho;rw [yaa] at ho;unfold S2.dropS
  by_cases e:x=k
  ·subst e
   have hn:zeg vs (.inr x)=none:=(zcm x t ho.2).elim (·.1) fun ⟨_,_,_,z,_⟩=>by rw [z] at ho;exact absurd ho.1 (by simp)
   rw [if_pos rfl];unfold zeN;rw [ybW,if_neg (by simp)];have:=zg1 hn;unfold zeN at this;rw [this];exact t
  ·rw [if_neg e];unfold zeN;rw [ybW];split
   ·exact .consS r (ShdK.dropS t ho.2)
   ·rename_i hz;exact absurd (by simp [e]) hz
def TopV.dicI{v:V}{ds:List (D×D)}(h:TopV cl w v (.dic ds)):∃a kvs,v=.ref a/\Rd w.H a (.dK kvs)/\ShdK cl w kvs ds:=by
 cases h with
 | sh h=>cases h with | dicK e k r=>exact ⟨_,_,rfl,.inr ⟨_,e⟩,r⟩
 | ow e t=>cases t with | dicK r=>exact ⟨_,_,rfl,.inl e,r⟩
theorem ShdK.length:∀{kvs:List (Key×V)} {ds:List (D×D)},ShdK cl w kvs ds->kvs.length=ds.length
 | _,_,.nil=>rfl
 | _,_,.consI r t=>by rw [yaf,yaf,ShdK.length t]
 | _,_,.consS r t=>by rw [yaf,yaf,ShdK.length t]
theorem zfR:∀{kvs:List (Key×V)} {ds:List (D×D)},ShdK cl w kvs ds->zai ds=true->kvs.map (·.1)=(zbI ds).map Sum.inr/\(zbI ds).length=ds.length
 | _,_,.nil,_=>⟨rfl,rfl⟩
 | _,_,.consI r t,h=>by cases h
 | _,_,.consS r t,h=>by
  unfold zai at h;rw [yaa] at h;obtain ⟨h1,h2⟩:=zfR t h.2;exact ⟨by rw [yaz,h1];rfl,by show _+1=_+1;rw [h2]⟩
end
end S2
namespace ST
open PySem PySem.Spec PyProof.Rows PySem.SetTable
noncomputable def pos(m:Nat):Nat->Nat->Nat->Nat
 | 0,i,_=>i
 | n+1,i,p=>pos m n ((i*5+1+p / 32) % (m+1)) (p / 32)
def zxW{m:Nat}(hm:m=7\/m=31):∀i,i<m+1->∀j,j<m+1->∃n,n<m+1/\pos m n i 0=j:=by
 rcases hm with rfl | rfl<;>decide +kernel
theorem cov{m:Nat}(hm:m=7\/m=31){j:Nat}(hj:j<m+1):∀k i p,p<32 ^ k->i<m+1->∃n,n<k+(m+1)/\pos m n i p=j
 | 0,i,p,hp,hi=>by
  obtain rfl:p=0:=Nat.lt_one_iff.mp hp;rw [Nat.zero_add];exact zxW hm i hi j hj
 | k+1,i,p,hp,hi=>by
  obtain ⟨n,h1,h2⟩:=cov hm hj k ((i*5+1+p / 32) % (m+1)) (p / 32) (Nat.div_lt_of_lt_mul (by rw [Nat.mul_comm];exact hp)) (Nat.mod_lt _ (Nat.succ_pos m));exact ⟨n+1,by omega,h2⟩
def zwy{m:Nat}(hm:m=7\/m=31){j:Nat}(hj:j<m+1)(h:Int):∃n,n<13+(m+1)/\pos m n (bits h % (m+1)) (bits h)=j:=by
 refine cov hm hj 13 _ _ ?_ (Nat.mod_lt _ (Nat.succ_pos m));have h1:=ycA h (show (2 ^ 64:Int)≠0 by decide);have h2:=yb7 h (show (0:Int)<2 ^ 64 by decide);refine yah (m:=2 ^ 64) ?_ (by decide);unfold bits;omega
noncomputable def P(i p:Nat):Probe:={ j:=i,more:=0,i:=i,perturb:=p,dummy:=none }
def zvQ(i:Nat):runEnd 7 i-i=0:=by unfold runEnd;rw [if_neg (by omega)];exact ybk i
def zxY{t:SetTable}(hm:t.mask=7)(i p:Nat):t.advance (P i p)=P ((i*5+1+p / 32) % 8) (p / 32):=by
 show ({ j:=_,more:=runEnd t.mask _-_,i:=_,perturb:=_,dummy:=none }:Probe)=_;rw [hm,zvQ];rfl
def zrg{t:SetTable}(hm:t.mask=7)(h:Int):t.probeStart h=P (bits h % 8) (bits h):=by
 show ({ j:=_,more:=runEnd t.mask _-_,i:=_,perturb:=_,dummy:=none }:Probe)=_;rw [hm,zvQ];rfl
def zoU{t:SetTable}(hd:t.dummies=#[])(j:Nat):t.slot j=.empty\/∃i,t.slot j=.live i/\t.place[i]?=some j:=by
 unfold slot;rw [hd,show has #[] j=false by unfold has below;rfl];dsimp only;split
 ·rename_i h;exact .inr ⟨_,rfl,eq_of_beq h⟩
 ·exact .inl rfl
theorem zsU{t:SetTable}(hm:t.mask=7)(hd:t.dummies=#[]){F:Nat->Int}{h:Int}:∀(fuel n i p:Nat),n<fuel->pos 7 n i p ∉ t.place.toList →
  (∃j,probe.go t F h fuel (P i p)=some (.empty j none))\/∃j i' n' i1 p1,n'<n/\pos 7 n' i1 p1 ∉ t.place.toList/\t.slot j=.live i'/\t.place[i']?=some j/\probe.go t F h fuel (P i p)=some (.candidate j i' (P i1 p1))
 | 0,n,i,p,hn,_=>absurd hn (Nat.not_lt_zero n)
 | fuel+1,n,i,p,hn,hp=>by
  unfold probe.go
  rcases zoU hd (P i p).j with e | ⟨i',e,hi⟩
  ·rw [e];exact .inl ⟨_,rfl⟩
  ·rw [e];dsimp only;rw [zxY hm]
   cases n with
   | zero=>exact absurd (ybp.mpr (Array.mem_of_getElem? hi)) hp
   | succ n =>
    split
    ·exact .inr ⟨_,i',n,_,_,ybV n,hp,e,hi,rfl⟩
    ·rcases zsU hm hd fuel n _ _ (ycf hn) hp with z | ⟨j,a,n',b,c,z1,z2⟩
     ·exact .inl z
     ·exact .inr ⟨j,a,n',b,c,ybs z1,z2⟩
section
variable{prog:Program}{w:World}{A:Around}{E:Z5}{s:Shared}
noncomputable abbrev TK(prog:Program)(w:World)(h:Heap)(k:List Int)(a:Addr):Prop:=IsTupleKey (intKind prog w) h k a
noncomputable abbrev th(prog:Program)(w:World)(k:List Int):Int:=tupleKeyHash (intKind prog w) k
def TK.ints{h:Heap}{k:List Int}{a:Addr}(x:TK prog w h k a):∃o its n,h.get? a=some o/\o.cls=.type "tuple" /\ o.data=.seq its n/\∀v∈its.toList,∃i t,v=Value.int i t:=by
 obtain ⟨o,its,n,e,c,d,hi⟩:=x;refine ⟨o,its,n,e,c,d,?_⟩;generalize its.toList=l at hi
 induction hi with
 | nil=>intro v hv;cases hv
 | @cons k v ks vs h1 _ ih =>
  intro v' hv
  rcases yav.mp hv with rfl | hv
  ·obtain ⟨t,e⟩:=Value.isInt_shape (k:=k) (v:=v') h1;exact ⟨k,t,e⟩
  ·exact ih v' hv
def zgR{M:Model}{its:Array Value}{f:Value->Option Bool×Unit->Sem (ForInStep (Option Bool×Unit))}{g:Option Bool×Unit->Sem Bool}{Q:Bool->Shared->Prop}(hv:∀v∈its.toList,∃i t,v=Value.int i t)
  (hf:∀i t Q',Q' (.yield (none,())) s->wpAny M A (f (.int i t) (none,())) Q' E s) (hg:wpAny M A (g (none,())) Q E s):wpAny M A (forIn its (none,()) f >>= g) Q E s:=by
 refine yab ?_;rw [<-Array.forIn_toList];refine wpAny_forIn_list _ (fun zbD r s'=>r=(none,())/\s'=s/\∀v∈zbD,∃i t,v=Value.int i t) _ ?_ ?_ _ _ ⟨rfl,rfl,hv⟩
 ·rintro v zbD _ s' ⟨rfl,rfl,hall⟩;obtain ⟨i,t,rfl⟩:=hall v yaw;exact hf i t _ ⟨rfl,rfl,fun u hu=>hall u (yar _ hu)⟩
 ·rintro _ s' ⟨rfl,rfl,_⟩;exact hg
def ziE{M:Model}{k:List Int}{a:Addr}{Q:Bool->Shared->Prop}(x:TK prog w s.heap k a)(hQ:Q false s):wpAny M A (ofAClassStatement 8 (.ref a)) Q E s:=by
 obtain ⟨o,its,n,e,c,d,hv⟩:=x.ints;unfold ofAClassStatement;refine yab (wpAny_typeOf (T:="tuple") ⟨o,e,c⟩ (yab (yam ?_)));simp only [Bool.not_true,ybH,if_false];refine yab (ybm e d ?_);refine zgR hv (fun i t Q' q=>?_) (yam hQ);rw [show ofAClassStatement 7 (Value.int i t)=pure false by unfold ofAClassStatement;rfl];exact yab (yam (yam q))
def znp{k:List Int}{a:Addr}{Q:Bool->Shared->Prop}(x:TK prog w s.heap k a)(hQ:Q true s):wpAny (model prog w) A (hashByValue 8 (.ref a)) Q E s:=by
 obtain ⟨o,its,n,e,c,d,hv⟩:=x.ints;unfold hashByValue;refine yab (wpAny_specialOf x.typeIs F.slot_tuple_hash.lookup (yab (ybm e d ?_)));refine zgR hv (fun i t Q' q=>?_) (yam hQ);rw [show hashByValue 7 (Value.int i t)=pure true by unfold hashByValue;rfl];exact yab (yam (yam q))
def zmI{k:List Int}{a:Addr}{Q:Bool->Shared->Prop}(x:TK prog w s.heap k a)(l:List Value)(hl:∀v∈l,∃b k',v=.ref b/\TK prog w s.heap k' b)(hQ:Q false s):wpAny (model prog w) A (searchCouldBeSeen (.ref a) l) Q E s:=by
 unfold searchCouldBeSeen;refine yab (wpAny_forIn_list _ (fun zbD r s'=>r.1=none/\s'=s/\∀v∈zbD,∃b k',v=.ref b/\TK prog w s.heap k' b) _ ?_ ?_ _ _ ⟨rfl,rfl,hl⟩)
 ·rintro v zbD r s' ⟨hr,rfl,hall⟩;obtain ⟨b,k',rfl,y⟩:=hall v yaw;have tl:∀u∈zbD,∃b k',u=.ref b/\TK prog w s'.heap k' b:=fun u hu=>hall u (yar _ hu)
  dsimp only;split
  ·exact yam ⟨rfl,rfl,tl⟩
  ·exact yab (wpAny_eqIsQuiet_tuple x (yab (wpAny_eqIsQuiet_tuple y (yab (ziE x (yab (ziE y (yam ⟨rfl,rfl,tl⟩))))))))
 ·rintro ⟨_,r⟩ s' ⟨rfl,rfl,_⟩;exact yam hQ
def zsB{M:Model}{α:Type}{c:Bool}{m:Sem Bool}{u k:Sem α}{Q:α->Shared->Prop}(hm:∀{Q':Bool->Shared->Prop},Q' false s->wpAny M A m Q' E s)(hk:wpAny M A k Q E s):wpAny M A (if c=true then m >>= fun b=>if b=true then u else k else k) Q E s:=by
 split
 ·exact yab (hm hk)
 ·exact hk
theorem znI{a:Addr}{o:Obj}{es:Array (Int×Value)}{ep:Nat}{t:SetTable}(ho:s.heap.get? a=some o)(hd:o.data=.set es ep t)(hf:t.fits es.size=true)(hm:t.mask=7)(hdm:t.dummies=#[])(hz:t.place.size=es.size)(hu:A.units<cLine)
  {k:List Int} {x:Addr} (hes:∀e∈es.toList,∃b k',k'≠k/\e=(th prog w k',Value.ref b)/\TK prog w s.heap k' b) (hx:TK prog w s.heap k x) {Q:SetFound->Shared->Prop} (hQ:∀j,Q (.free j false) s) :
  ∀(fuel n i p:Nat) (stand:Option Probe),n<fuel->n<22->stand.getD (t.probeStart (th prog w k))=P i p->pos 7 n i p ∉ t.place.toList->wpAny (model prog w) A (setSearchFrom a (.ref x) (th prog w k) true fuel stand) Q E s
 | 0,n,_,_,_,h1,_,_,_=>absurd h1 (Nat.not_lt_zero n)
 | fuel+1,n,i,p,stand,h1,h2,hst,hp=>by
  unfold setSearchFrom;refine yab (ybQ ho hd hf ?_);dsimp only;rw [show t.gaveWay=false by unfold SetTable.gaveWay;rw [hm];rfl,hst];simp only [ybH,if_false];unfold SetTable.probe
  rcases zsU hm hdm (F:=_) (h:=th prog w k) (10*turns t.mask) n i p (by rw [hm];exact yah h2 (by decide)) hp with ⟨j,e⟩ | ⟨j,i',n',i1,p1,z1,z2,z3,z4,e⟩
  ·rw [e];exact yam (hQ j)
  ·rw [e];have hi:i'<es.size:=hz ▸ (ybg.mp z4).1;have a4:=ybo hi;obtain ⟨b,k',hne,eq,hk'⟩:=hes es[i'] (ybp.mpr (Array.getElem_mem hi));refine zsB (zmI hx _ fun v hv=>?_) ?_
   ·obtain ⟨e',he',ev⟩:=yax.mp hv;obtain ⟨b',k'',_,rfl,hk''⟩:=hes e' (ybp.mpr (Array.mem_filter.mp (ybp.mp he')).1);exact ⟨b',k'',ev.symm,hk''⟩
   ·rw [a4,eq];refine yab (ya9 (wpAny_eqBool_tuple hu hk' hx (yab (ybQ ho hd hf ?_))));dsimp only;rw [yaG hne,show t.sameMemory t.moves t.mask=some true by unfold SetTable.sameMemory;simp];simp only [Bool.and_false,ybH,if_false,ycT,z3,a4,eq];refine yab (wpAny_isSame_ref_self (yab (yam ?_)));exact znI ho hd hf hm hdm hz hu hes hx hQ fuel n' i1 p1 _ (by omega) (by omega) rfl z2
end
theorem zfT{α:Type}(xs:Array α)(p:Nat)(x:α):(insertAt xs p x).size=xs.size+1:=by
 simp [insertAt];omega
def zla{α:Type}{xs:Array α}{p:Nat}{x y:α}(h:y∈(insertAt xs p x).toList):y=x\/y∈xs.toList:=by
 have e:(insertAt xs p x).toList=xs.toList.take p++x::xs.toList.drop p:=by simp [insertAt,List.extract_eq_take_drop,ya1]
 rw [e] at h
 rcases yaV.mp h with h | h
 ·exact .inr (List.mem_of_mem_take h)
 ·exact (yav.mp h).imp_right List.mem_of_mem_drop
noncomputable abbrev Ow:=Array (Option Nat)
def ziF{o:Ow}{x:Nat}:(o.getD x (some 0)).isNone=true↔o[x]?=some none:=by
 rw [Array.getD_eq_getD_getElem?]
 rcases o[x]? with _ | _ | _<;>simp
theorem zlj{o:Ow}:∀(fuel n i p:Nat),n<fuel->o[pos 31 n i p]?=some none->∃j,layClean.free 31 o fuel i p=some j/\o[j]?=some none
 | 0,n,i,p,h,_=>absurd h (Nat.not_lt_zero n)
 | fuel+1,n,i,p,h,hn=>by
  unfold layClean.free
  cases e:(List.range (runEnd 31 i+1-i)).find? fun k=>(o.getD (i+k) (some 0)).isNone with
  | some k=>exact ⟨i+k,rfl,ziF.mp (have:=List.find?_some e;this)⟩
  | none =>
   cases n with
   | zero =>
    have:=List.find?_range_eq_none.mp e 0 (by unfold runEnd;split<;>omega);rw [Nat.add_zero,ziF.mpr (show o[i]?=some none from hn)] at this;cases this
   | succ n=>exact zlj fuel n _ _ (ycf h) hn
noncomputable def cnt(l:List (Option Nat)):List Nat:=l.filterMap id
theorem zhY : ∀ (l : List (Option Nat)) (j k : Nat), l[j]? = some none -> (cnt (l.set j (some k))).length = (cnt l).length + 1
  | [], j, k, h => by cases h
  | a :: l, 0, k, h => by obtain rfl : a = none := by simpa using h
                          rfl
  | none :: l, j + 1, k, h => zhY l j k (by simpa using h)
  | some a :: l, j + 1, k, h => congrArg (· + 1) (zhY l j k (by simpa using h))
theorem zi1:∀(l:List (Option Nat)),(cnt l).length<l.length->∃x:Nat,l[x]?=some none
 | [],h=>absurd h (yaN 0)
 | none::l,_=>⟨0,rfl⟩
 | some a::l,h=>let ⟨x,e⟩:=zi1 l (ycf h);⟨x+1,by simpa using e⟩
structure LC(o:Ow)(k:Nat):Prop where
 size:o.size=32
 len:(cnt o.toList).length=k
 lt:∀x∈cnt o.toList,x<k
def lcF(acc:Option (Ow×Nat))(h:Int):Option (Ow×Nat):=do
  let (owner,k) ← acc
  let j ← layClean.free 31 owner (turns 31) (bits h % (31+1)) (bits h)
  pure (owner.setIfInBounds j (some k),k+1)
theorem zkW:∀(hs:List Int) (k:Nat) (o:Ow),LC o k->k+hs.length<=31->∃o',hs.foldl lcF (some (o,k))=some (o',k+hs.length)/\LC o' (k+hs.length)
 | [],k,o,L,_=>⟨o,rfl,L⟩
 | h::hs,k,o,L,hl=>by
  rw [yaf] at hl;obtain ⟨x,hx⟩:=zi1 o.toList (by rw [L.len,ya2,L.size];omega);rw [ybj] at hx;have hx':=(ybg.mp hx).1;rw [L.size] at hx';obtain ⟨n,hn,en⟩:=zwy (.inr rfl) (show x<31+1 from hx') h;obtain ⟨j,hj,hjn⟩:=zlj (o:=o) (turns 31) n _ _ (yah hn (by decide)) (by rw [en];exact hx)
  have q:o.toList[j]?=some none:=by rw [ybj];exact hjn
  obtain ⟨o',e1,e2⟩:=zkW hs (k+1) (o.setIfInBounds j (some k)) ⟨by rw [Array.size_setIfInBounds];exact L.size,by rw [Array.toList_setIfInBounds,zhY _ _ _ q,L.len],fun y hy=>by
   rw [Array.toList_setIfInBounds] at hy;obtain ⟨b,hb,eb⟩:=ybi.mp hy;obtain rfl:b=some y:=eb
   rcases List.mem_or_eq_of_mem_set hb with z | z
   ·exact ybs (L.lt y (ybi.mpr ⟨_,z,rfl⟩))
   ·cases z;exact ybV _⟩ (by omega)
  rw [show k+1+hs.length=k+(h::hs).length by rw [yaf];omega] at e1 e2;refine ⟨o',?_,e2⟩;rw [ybK,<-e1];show hs.foldl lcF (layClean.free 31 o (turns 31) (bits h % (31+1)) (bits h) >>= fun j=>pure (o.setIfInBounds j (some k),k+1))=_;rw [hj];rfl
theorem zpS{α:Type}(es:Array (Int×α))(hl:es.size<=31)(f mv:Nat)(led pl:Bool) :
  ∃t' order,laid 31 f mv led pl (es.map (·.1))=some (t',order)/\(order.filterMap (es[·]?)).size=es.size/\t'.fits es.size=true:=by
 obtain ⟨o,e1,L⟩:=zkW (es.map (·.1)).toList 0 (Array.replicate (31+1) none) ⟨rfl,rfl,fun x hx=>by cases hx⟩ (by simpa using hl);rw [Nat.zero_add,ya2,Array.size_map] at e1 L
 have e0:layClean 31 (es.map (·.1))=some o:=by
  unfold layClean;rw [<-Array.foldl_toList];exact congrArg (Option.map (·.1)) e1
 have ho:o.toList=(List.range 32).map fun j=>o.getD j none:=by
  refine List.ext_getElem (by simp [L.size]) fun i h1 h2=>?_
  have:i<o.size:=by simpa using h1
  simp [Array.getD,this]
 have e2:((List.range 32).filterMap fun j=>(o.getD j none).map (j,·)).map (·.2)=cnt o.toList:=by
  rw [ho];unfold cnt;rw [List.filterMap_map,List.map_filterMap];refine congrArg (List.filterMap · (List.range 32)) (funext fun j=>?_);show Option.map _ (Option.map _ (o.getD j none))=o.getD j none
  cases o.getD j none<;>rfl
 have e3:((List.range 32).filterMap fun j=>(o.getD j none).map (j,·)).length=es.size:=by rw [<-L.len,<-e2,yad]
 refine ⟨_,_,by unfold laid;rw [e0];rfl,?_,?_⟩
 ·have key:∀l:List Nat,(∀x∈l,x<es.size)->(l.filterMap (es[·]?)).length=l.length:=fun l=>by
   induction l with
   | nil=>exact fun _=>rfl
   | cons a l ih =>
    intro h;rw [List.filterMap_cons_some (ybo (h a yaw)),yaf,yaf,ih fun x hx=>h x (yar _ hx)]
  have:=key (cnt o.toList) L.lt;rw [L.len] at this;rw [<-this,<-e2,<-ya2,Array.toList_filterMap]
 ·unfold SetTable.fits SetTable.fill;dsimp only;rw [yak,yad,e3,ybx];exact yaE hl
section
variable{prog:Program}{w:World}{A:Around}{E:Z5}{s:Shared}
def TK.keep{h h':Heap}{k:List Int}{b:Addr}(x:TK prog w h k b)(e:∀o,h.get? b=some o->(∀es ep t,o.data≠.set es ep t)->(∀vs,o.data≠.fields vs)->h'.get? b=some o):TK prog w h' k b:=by
 obtain ⟨o',items,n,ho',hc,hd,hi⟩:=x;exact ⟨o',items,n,e _ ho' (fun _ _ _ z=>by rw [hd] at z;cases z) (fun _ z=>by rw [hd] at z;cases z),hc,hd,hi⟩
noncomputable def zjO(prog:Program)(w:World)(h:Heap)(a:Addr)(ks:Z2):Prop :=
 ∃o es ep t,h.get? a=some o/\o.ExactSet/\o.data=.set es ep t/\t.fits es.size=true/\es.size=ks.length ∧
  (ks.length<=4->t.mask=7/\t.dummies=#[]/\∀e∈es.toList,∃b k,k∈ks/\e=(th prog w k,Value.ref b)/\TK prog w h k b)
def putS{h:Heap}{o:Obj}(ho:h.get? a=some o)(hx:o.ExactSet)(hd:o.data=.set es ep t) :
  ∃o',(h.update a (Obj.putSet es' t')).get? a=some o'/\o'.ExactSet/\o'.data=.set es' (ep+1) t':=by
 refine ⟨{ o with data:=.set es' (ep+1) t' },?_,hx,rfl⟩;rw [yco _ ho (by rw [putSet_of es' t' hd];rfl),putSet_of es' t' hd]
def TK.but{h h':Heap}{k:List Int}{b a:Addr}{o:Obj}{es ep t}(x:TK prog w h k b)(ho:h.get? a=some o)(hd:o.data=.set es ep t)(sb:Heap.SameBut a h h'):TK prog w h' k b :=
 x.keep fun o' q n _=>(sb.2 b (by rintro rfl;rw [ho] at q;cases q;exact n _ _ _ hd)).trans q
def zqi{t:SetTable}{n:Nat}(h:t.fits n=true):t.place.size=n/\t.fill<=t.mask:=by
 unfold SetTable.fits at h;rw [yaa] at h;exact ⟨eq_of_beq h.1,yaj h.2⟩
theorem zoY{a:Addr}{ks:Z2}{k:List Int}{x:Addr}{Q:Bool->Shared->Prop}(S:zjO prog w s.heap a ks)(hx:TK prog w s.heap k x)(hu:A.units<cLine)(hn:ks.length<=4)(hk:k ∉ ks)
  (h:∀h' c,Heap.SameBut a s.heap h'->zjO prog w h' a (ks++[k])->Q c { s with heap:=h',toks:=s.toks+(k.length+1) }):wpAny (model prog w) A (setAdd a (.ref x)) Q E s:=by
 unfold setAdd;refine ya9 (yab (wpAny_pyHash_tuple hu hx ?_));obtain ⟨o,es,ep,t,ho,hex,hd,hf,hsz,hm⟩:=S;obtain ⟨hm,hdm,hes⟩:=hm hn;obtain ⟨hz,_⟩:=zqi hf;generalize hs1:({ s with toks:=s.toks+(k.length+1) }:Shared)=s1
 have hh:s1.heap=s.heap:=by rw [<-hs1]
 have ho1:s1.heap.get? a=some o:=hh ▸ ho;unfold setAddHashed;refine ya9 ?_;unfold setAddHashedIn;refine yab (ybQ ho1 hd hf ?_);dsimp only;rw [show byScan (.ref x) es=false by unfold byScan;rfl];refine yab ?_
 have room:∃j,j<7+1/\j ∉ t.place.toList:=Classical.byContradiction fun hn'=>by
  have:=List.Nodup.length_le_of_subset (List.nodup_range (n:=8)) fun j hj=>Classical.byContradiction fun z=>hn' ⟨j,ybB.mp hj,z⟩
  rw [yci,ya2,hz,hsz] at this;omega
 obtain ⟨j0,hj0,hj1⟩:=room;obtain ⟨n0,hn0,en0⟩:=zwy (.inl rfl) hj0 (th prog w k);refine znI ho1 hd hf hm hdm hz hu (fun e he=>?_) (hh ▸ hx) (fun j=>?_) 100000 n0 _ _ none (yah hn0 (by decide)) (yah hn0 (by decide)) (zrg hm _) (by rw [en0];exact hj1)
 ·obtain ⟨b,k',m,e2,z⟩:=hes e he;exact ⟨b,k',fun q=>hk (q ▸ m),e2,hh ▸ z⟩
 ·have fin:∀(t':SetTable) (es':Array (Int×Value)),t'.mask=7->t'.dummies=#[]->t'.place.size=es.size+1->es'.size=es.size+1->(∀e∈es'.toList,e=(th prog w k,Value.ref x)\/e∈es.toList) →
    wpAny (model prog w) A (do
     storeSet a es' t'
     if (!false&&t'.tooFull)=true then setRelay a (grown (es.size+1))
     return true) Q E s1:=by
   intro t' es' m1 m2 m3 m4 m5
   have hfl:t'.fill=es.size+1:=by unfold SetTable.fill;rw [m2];exact m3
   have F1:t'.fits es'.size=true:=by
    unfold SetTable.fits;rw [hfl,m3,m4,m1,ybx];exact yaE (show es.size+1<=7 by omega)
   refine yab (wpAny_storeSet_of ho1 hd ?_ (yau (show es'.size<=5 by omega) (by decide)));obtain ⟨o1,g1,x1,d1⟩:=putS (es':=es') (t':=t') ho hex hd;have sb1:Heap.SameBut a s.heap (s.heap.update a (Obj.putSet es' t')):=Heap.SameBut.update ..
   have hlen:(ks++[k]).length=es.size+1:=by rw [hsz,yan];rfl
   subst hs1
   have tf:t'.tooFull=decide ((es.size+1)*5 ≥ 7*3):=by unfold SetTable.tooFull;rw [hfl,m1]
   rw [tf]
   by_cases h5:es.size+1=5
   ·rw [h5];rw [h5] at m4 hlen;unfold setRelay;refine yab (yab (ybQ (s:={ s with heap:=s.heap.update a (Obj.putSet es' t'),toks:=s.toks+(k.length+1) }) g1 d1 F1 ?_));obtain ⟨t2,order,l1,l3,l4⟩:=zpS es' (by rw [m4];decide) t'.finger (t'.movedTo 31) t'.led t'.plain;dsimp only;rw [if_neg (by decide),show t'.relaid (es'.map (·.1)) (grown 5)=some (t2,order) from l1];refine yab ?_;show wpAny _ _ (if ((order.filterMap (es'[·]?)).size != es'.size)=true then _ else _) _ _ _;rw [if_neg (by rw [l3];simp)];refine yam (wpAny_storeSet_of (s:={ s with heap:=s.heap.update a (Obj.putSet es' t'),toks:=s.toks+(k.length+1) }) g1 d1 ?_ (by rw [l3,m4];decide));obtain ⟨o2,g2,x2,d2⟩:=putS (es':=order.filterMap (es'[·]?)) (t':=t2) g1 x1 d1;exact yam (h _ true (sb1.trans (Heap.SameBut.update ..)) ⟨o2,_,_,t2,g2,x2,d2,by rw [l3];exact l4,by rw [l3,m4,hlen],fun z=>by omega⟩)
   ·rw [yaG (by omega)];refine yab (yam (yam (h _ true sb1 ⟨o1,es',_,t',g1,x1,d1,F1,by rw [m4,hlen],fun _=>⟨m1,m2,fun e he=>?_⟩⟩)))
    rcases m5 e he with rfl | he
    ·exact ⟨x,k,yaV.mpr (.inr (yaF.mpr rfl)),rfl,hx.but ho hd sb1⟩
    ·obtain ⟨b,k',m,e2,z⟩:=hes e he;exact ⟨b,k',yaV.mpr (.inl m),e2,z.but ho hd sb1⟩
  refine yab (ybQ ho1 hd hf ?_)
  have hput:t.put j=({ t with place:=insertAt t.place (below t.place j) j },below t.place j):=by
   unfold SetTable.put;rw [hdm,show has #[] j=false by unfold has below;rfl];simp [hdm]
  dsimp only;rw [hput];dsimp only;have hp:=(zfT t.place (below t.place j) j).trans (congrArg (·+1) hz)
  cases hpl:t.plain with
  | true=>exact yab (znp (hh ▸ hx) (fin _ _ hm hdm hp (zfT ..) fun _=>zla))
  | false=>exact yab (yam (fin _ _ hm hdm hp (zfT ..) fun _=>zla))
end
section
variable{prog:Program}{w:World}{A:Around}{R:Result->Shared->Prop}{s:Shared}
theorem zjO.keep{h h':Heap}{a it:Addr}{o:Obj}{vs:Array Value}{ks:Z2}(x:zjO prog w h a ks)(ho:h.get? it=some o)(hd:o.data=.fields vs)(e:∀b o,b≠it->h.get? b=some o->h'.get? b=some o):zjO prog w h' a ks/\a≠it:=by
 obtain ⟨o',es,ep,t,e1,e2,e3,e4,e5,e6⟩:=x
 have hne:a≠it:=by rintro rfl;rw [ho] at e1;cases e1;rw [hd] at e3;cases e3
 refine ⟨⟨o',es,ep,t,e a o' hne e1,e2,e3,e4,e5,fun z=>?_⟩,hne⟩;obtain ⟨q1,q2,q3⟩:=e6 z;refine ⟨q1,q2,fun y hy=>?_⟩;obtain ⟨b,k,m,q,u⟩:=q3 y hy;exact ⟨b,k,m,q,u.keep fun o2 q2 _ n=>e b o2 (by rintro rfl;rw [ho] at q2;cases q2;exact n _ hd) q2⟩
theorem zlY{S I ax:Addr}{its:Array Value}{keys:Z2}(hh:A.in1.handled=none)(hu:A.in1.units<cLine)(hlen:its.size=keys.length)(h5:keys.length<=5)(nd:keys.Nodup)(hSax:S≠ax)(hIax:ax≠I) :
  ∀(k i:Nat) (s:Shared),keys.length-i=k->i<=keys.length->s.heap.IsTupleIter I ax i->s.heap.IsTuple ax its->(∀(j:Nat) (v:Value),its[j]?=some v->∃b,v=.ref b/\TK prog w s.heap (keys.getD j []) b) →
   zjO prog w s.heap S (keys.take i) →
   (∀h' tk,(∀b o,b≠S->b≠I->s.heap.get? b=some o->h'.get? b=some o)->zjO prog w h' S keys->R (.ok (.ret .none)) { s with heap:=h',toks:=tk }) →
   codeAny (model prog w) A (.builtin "set.update.loop" ⟨[.ref S,.ref I],[]⟩) R s:=by
 intro k
 induction k with
 | zero =>
  intro i s hk hi it tp tks ts hR
  have e:i=keys.length:=by omega
  refine ybN F.entry_set_update_loop ?_;rw [ybU yb8 _];show wpAny _ A.in1 (pyNext (.ref I) >>= _) _ _ s;refine yab (wpAny_pyNext_tuple_end hh it tp (Array.getElem?_eq_none (by rw [hlen,e];exact yag _)) fun h' eb=>?_);obtain ⟨o,e1,e2,e3⟩:=id it;rw [e,List.take_length] at ts;exact yam (hR h' s.toks (fun b o _ hb q=>eb b o hb q) (ts.keep e1 e3 fun b o hb q=>eb b o hb q).1)
 | succ k ih =>
  intro i s hk hi it tp tks ts hR
  have hlt:i<keys.length:=by omega
  have hlt':i<its.size:=by omega
  refine ybN F.entry_set_update_loop ?_;rw [ybU yb8 _];show wpAny _ A.in1 (pyNext (.ref I) >>= _) _ _ s;refine yab (wpAny_pyNext_tuple_item it tp (x:=its[i]) (ybo hlt') fun h1 it1 sb1=>?_);obtain ⟨o,e1,e2,e3⟩:=id it;obtain ⟨ts1,hSI⟩:=ts.keep (h':=h1) e1 e3 fun b o hb q=>(sb1.2 b hb).trans q
  obtain ⟨b,eb,tk0⟩:=tks i its[i] (ybo hlt');have tk1:∀{k' b'},TK prog w s.heap k' b'->TK prog w h1 k' b':=fun {k' b'} z=>z.keep fun o2 q _ n=>(sb1.2 b' (by rintro rfl;rw [e1] at q;cases q;exact n _ e3)).trans q
  rw [eb];show wpAny _ A.in1 (holding [Value.ref b] (setAdd S (.ref b)) >>= _) _ _ _
  have ek:keys.take i++[keys.getD i []]=keys.take (i+1):=by
   rw [List.take_add_one,yac hlt,yaL,yac hlt];rfl
  have nd':(keys.take i++[keys.getD i []]).Nodup:=ek ▸ List.Nodup.sublist (List.take_sublist ..) nd;refine yab (ya9 (zoY (s:={ s with heap:=h1 }) ts1 (tk1 tk0) hu (by rw [ybh];omega) (fun z=>(ycj.mp nd').2.2 _ z _ (yaF.mpr rfl) rfl) fun h2 r sb2 ts2=>?_));rw [ek] at ts2;obtain ⟨oS,esS,epS,tS,f1,f2,f3,_⟩:=ts1;refine yam ⟨plainId_quiet yb8 _,?_⟩
  refine ih (i+1) _ (by omega) hlt (it1.at fun o q=>(sb2.2 I (Ne.symm hSI)).trans q) ((tp.at fun o q=>(sb1.2 ax hIax).trans q).at fun o q=>(sb2.2 ax (Ne.symm hSax)).trans q) (fun j v hv=>?_) ts2 fun h' tk kp ts' =>
   hR h' tk (fun b' o hb1 hb2 q=>kp b' o hb1 hb2 ((sb2.2 b' hb1).trans ((sb1.2 b' hb2).trans q))) ts'
  obtain ⟨b',eb',z⟩:=tks j v hv;exact ⟨b',eb',(tk1 z).but f1 f3 sb2⟩
end
end ST
namespace PySem
open PyProof.Rows
section
variable{prog:Program}{w:World}{A:Around}{E:Z5}{s:Shared}
theorem zeS{l:Addr}{its:Array Value}{keys:Z2}{Q:Z5}(hh:A.handled=none)(hu:A.units+8<cLine)(tp:s.heap.IsTuple l its)(hlen:its.size=keys.length)(h5:keys.length<=5)(nd:keys.Nodup)
  (tks:∀(j:Nat) (v:Value),its[j]?=some v->∃b,v=.ref b/\ST.TK prog w s.heap (keys.getD j []) b)
  (h:∀h' tk,(∀b o,s.heap.get? b=some o->h'.get? b=some o)->ST.zjO prog w h' s.heap.objs.size keys->Q (.ref s.heap.objs.size) { s with heap:=h',toks:=tk }) :
  wpAny (model prog w) A (call (.type "set") [.ref l]) Q E s:=by
 obtain ⟨cc,tl,hmro⟩:=ybO.mro;have hmade:=ybO.made;have hsub:=ybO.sub;have h1:=ybO.notType;have h2:=ybO.canCreate;have hct:=F.typeCall_set_1 (.ref l);refine ycO (codeAny_of_tree ?_);show wpAny _ _ (callAny (.type "set") _) _ _ _;refine yam ⟨Code.quiet_builtin _ (by decide +kernel),ybN F.entry_type_call ?_⟩;rw [Around.under_plain (weight_type_call_type "set" [.ref l] []) rfl]
 repeat (any_goals (first | assumption | wp_step))
 refine ybu (code_set_new_1 (.ref l) (E:=E) (Q₁:=fun obj s1=>∃led:Bool,obj=.ref s.heap.objs.size/\s1={ s with heap:=s.heap.push { cls:=.type "set",dict:=none,data:=.set #[] 0 (.fresh 0 0 led) } }) fun led=>⟨led,rfl,rfl⟩) ?_;intro r s1 hr
 match r,hr with
 | .error e,hr=>exact hr
 | .ok (.ret obj),hr =>
  obtain ⟨led,rfl,rfl⟩:=hr;generalize hG:s.heap.push { cls:=.type "set",dict:=none,data:=.set #[] 0 (.fresh 0 0 led) }=G;have hS:G.get? s.heap.objs.size=some { cls:=.type "set",dict:=none,data:=.set #[] 0 (.fresh 0 0 led) }:=hG ▸ yaq _ rfl;have upG:∀b o,s.heap.get? b=some o->G.get? b=some o:=fun b o e=>hG ▸ yae _ e
  have hGz:G.objs.size=s.heap.objs.size+1:=by rw [<-hG,yaW]
  have hT:Shared.TypeIs { s with heap:=G } (.ref s.heap.objs.size) "set":=⟨_,hS,rfl⟩;have hli:=ybO.init.lookup;have hbi:=ybO.init.bind (.ref s.heap.objs.size)
  repeat (any_goals (first | assumption | wp_step))
  refine ybu (ycu (R:=wants (fun r s2=>r=.none/\∃h' tk,s2={ s with heap:=h',toks:=tk }/\(∀b o,s.heap.get? b=some o->h'.get? b=some o)/\ST.zjO prog w h' s.heap.objs.size keys) E) ybO.init.plain F.entry_set_init (check_set_init_1 hT ?_)) ?_
  ·obtain ⟨⟨ocls,odict,odata,oslots⟩,hol,hcl,nl,hdl⟩:=tp;simp only at hcl hdl;subst hcl;subst hdl;have hol':=upG l _ hol;have hsls:=F.sub_tuple_set;have hslf:=F.sub_tuple_frozenset
   have hne:(Value.type "tuple" == Value.type "dict")=false:=by decide
   have tp1:G.IsTuple l its:=⟨_,hol',rfl,nl,rfl⟩;unfold Builtin.«set.__init__» noKeywords Builtin.Frozenset.updateFrom;generalize hPI:pyIter=PI
   wp_walk
   subst hPI;refine yb3 tp1 ?_;refine yab (wpAny_runValue ?_);have hlS:l<s.heap.objs.size:=yal hol;have upI:∀b o,G.get? b=some o->(G.push { cls:=.type "tuple_iterator",data:=.fields #[.ref l,.int 0 0] }).get? b=some o:=fun b o e=>yae _ e
   refine ST.zlY (its:=its) (keys:=keys) (ax:=l) (by simp [hh]) (show A.units+3<cLine by omega) hlen h5 nd (yaP hlS) (by rw [hGz];exact yas (ybs hlS)) keys.length 0 _ (by omega) (yaK _) ⟨_,yaq _ rfl,rfl,rfl⟩ (tp1.at fun o e=>upI l o e) (fun j v hv=>?_) ?_ ?_
   ·obtain ⟨b,eb,z⟩:=tks j v hv;exact ⟨b,eb,z.keep fun o e _ _=>upI b o (upG b o e)⟩
   ·exact ⟨_,#[],0,.fresh 0 0 led,upI _ _ hS,⟨rfl,rfl,rfl⟩,rfl,rfl,rfl,fun _=>⟨rfl,rfl,fun x hx=>by cases hx⟩⟩
   ·intro h' tk kp ts;refine yam ?_;show wpAny _ _ (ret Value.none) _ _ _;refine yam ⟨rfl,h',tk,rfl,fun b o e=>kp b o (yas (yal e)) ?_ (upI b o (upG b o e)),ts⟩;rw [hGz];exact yas (ybs (yal e))
  ·intro r2 s2 hr2
   match r2,hr2 with
   | .error e,hr2=>exact hr2
   | .ok (.ret v),hr2 =>
    obtain ⟨rfl,h',tk,rfl,kp,ts⟩:=hr2
    repeat (any_goals (first | assumption | wp_step))
    exact h h' tk kp ts
end
end PySem
namespace L2
open PySem PySem.Spec PyProof.Rows
section
variable{X:Cx}{a b c:Expr}{ta tb tc:TE}{pos:Pos}
def zh0:zc8 X (.builtin "isinstance") (fun xs H Q=>∃x t c k,xs=[x,.ty c]/\TyOf X.K H x t/\PySem.W.kitOne X.K t (.type c)=some k/\Q (.bl k) H):=by
 intro pins s σ H xs us Q I r h;obtain ⟨x,t,c,k,rfl,ty,e,q⟩:=h
 cases r with
 | cons r1 rr =>
  cases rr with
  | cons r2 r3 =>
   cases r3;cases (show _=Value.type c from r2);exact zk8 I r1 ty e fun tk=>⟨.bl k,H,I.tok tk,rfl,q⟩
def zfJ(bs:List Bool):((List.range bs.length).all fun i=>(bs[i]?).getD true)=bs.all id:=by
 rw [Bool.eq_iff_iff,yby,yby];constructor
 ·intro h b hb;obtain ⟨i,hi,e⟩:=List.mem_iff_getElem.mp hb;have:=h i (ybB.mpr hi);rwa [yac hi,e] at this
 ·intro h i hi;have hi':=ybB.mp hi;rw [yac hi'];exact h _ (List.getElem_mem hi')
def zh1(hc:X.calm=true):zc8 X (.builtin "all") (fun xs H Q=>∃(p:Addr) (bs:List Bool),xs=[.ref p]/\SqL X.K H p (bs.map V.bl)/\Q (.bl (bs.all id)) H):=by
 intro pins s σ H xs us Q I r h;obtain ⟨p,bs,rfl,hq,q⟩:=h;obtain ⟨u,rfl,rx⟩:=zea r;cases rx;obtain ⟨its,rv,pl,hz⟩:=I.list hq;have hl:=pl.isList
 have hlt:p<s.heap.objs.size:=by obtain ⟨_,e,_⟩:=hl;exact yal e
 have hn:its.length=bs.length:=by have:=rv.length;rw [yad] at this;exact this.symm
 refine call_all_walk (ycK hl ?_);refine ⟨s.heap.objs.size,[s.heap.objs.size,p],[s.heap.objs.size],its.toArray.size,_,_,fun i=>(bs[i]?).getD true,rfl,Walks.list (A:=X.A.in1) (I.ok.hd hc) _ p (yas hlt) its.toArray,⟨⟨_,yaq _ rfl,rfl,rfl⟩,hl.push _⟩,fun i v s' Q' E' hP hQ=>?_,fun h' tk hk=>?_⟩
 ·have hv:its[i]?=some v:=by simpa using hP
  have hi:i<bs.length:=by rw [<-hn];exact (yai.mp hv).1
  obtain ⟨u,hu,ru⟩:=rv.get (i:=i) (x:=.bl bs[i]) (by rw [yao,yac hi];rfl);rw [hv] at hu;cases hu;cases (show v=Value.bool bs[i] from ru);refine yaT ?_;have hQ':Q' ((bs[i]?).getD true) s':=hQ;rwa [yac hi] at hQ'
 ·rw [yak,hn,zfJ];refine ⟨.bl _,H,I.kept (t':=tk) fun b o e=>?_,rfl,q⟩;exact hk b o (fun hm=>by rw [yaF.mp hm] at e;exact yaN _ (yal e)) (yae _ e)
theorem zfj{prog:Program}{w:World}:∀{k:List Int} {its:List Value},Vals (k.map V.int) its->ItemsAre (intKind prog w) k its
 | [],_,.nil=>.nil
 | i::k,_,.cons r t=>by
  obtain ⟨t',rfl⟩:=r;exact .cons (by show Value.isInt i (.int i t')=true;simp [Value.isInt]) (zfj t)
def Inv.key{pins:Z3}{σ:St}{H:Hp}{s:Shared}(I:Inv X pins σ H s){p:Addr}{k:List Int}(h:SqT X.K H p (k.map V.int)){prog:Program}{w:World}:ST.TK prog w s.heap k p:=by
 obtain ⟨its,rv,⟨o,e,c,n,d⟩,_⟩:=I.tuple h;exact ⟨o,_,n,e,c,d,zfj rv⟩
noncomputable def zhm(K:PySem.W.Frag)(H:Hp)(ys:List V)(keys:Z2):Prop:=Paired (fun (v:V) (k:List Int)=>∃b,v=.ref b/\SqT K H b (k.map V.int)) ys keys
theorem zhm.get{K:PySem.W.Frag}{H:Hp}:∀{ys:List V} {keys:Z2} {its:List Value},zhm K H ys keys->Vals ys its->∀(j:Nat) (v:Value),its[j]?=some v->∃b,v=.ref b/\SqT K H b ((keys.getD j []).map V.int)
 | _,_,_,.nil,.nil,j,v,e=>by simp at e
 | _,_,_,.cons ⟨b,eb,hb⟩ t,.cons r tr,0,v,e=>by
  subst eb;cases r;simp at e;subst e;exact ⟨b,rfl,by simpa using hb⟩
 | _,_,_,.cons _ t,.cons _ tr,j+1,v,e=>by
  obtain ⟨b,h1,h2⟩:=zhm.get t tr j v (by simpa using e);exact ⟨b,h1,by simpa using h2⟩
noncomputable def zi9(a:Addr)(c:Nat)(h:Heap):Prop:=∃o es ep t,h.get? a=some o/\o.ExactSet/\o.data=.set es ep t/\t.fits es.size=true/\es.size=c
def ze8(hc:X.calm=true)(hu:X.A.units+8<cLine):zc8 X (.type "set") (fun xs H Q=>∃(p:Addr) (ys:List V) (keys:Z2),xs=[.ref p]/\SqT X.K H p ys/\zhm X.K H ys keys/\keys.length<=5/\keys.Nodup ∧
  ∀l,H l=none->Q (.ref l) (upd H l (.ext (zi9 l keys.length)))):=by
 intro pins s σ H xs us Q I r h;obtain ⟨p,ys,keys,rfl,hq,hk,h18,nd,q⟩:=h;obtain ⟨u,rfl,rx⟩:=zea r;cases rx;obtain ⟨its,rv,pl,hz⟩:=I.tuple hq
 have hn:its.toArray.size=keys.length:=by rw [yak,<-rv.length];exact hk.length
 refine zeS (I.ok.hd hc) hu (show s.heap.IsTuple p its.toArray from pl) hn h18 nd (fun j v hv=>?_) fun h' tk kp ts=>?_
 ·obtain ⟨b,e,hb⟩:=hk.get rv j v (by simpa using hv);exact ⟨b,e,I.key hb⟩
 ·obtain ⟨o,es,ep,t,e1,e2,e3,e4,e5,_⟩:=ts;refine ⟨.ref s.heap.objs.size,_,I.laid (t':=tk) (o:=.ext (zi9 s.heap.objs.size keys.length)) kp (yag _) ?_,rfl,q _ (I.hok.fresh (yag _))⟩;exact ⟨⟨o,es,ep,t,e1,e2,e3,e4,e5⟩,⟨o,e1⟩,fun h1 h2 ⟨o,es,ep,t,f1,f⟩ k=>⟨o,es,ep,t,k o f1,f⟩⟩
theorem zf8:zc8 X (.builtin "len") (fun xs H Q=>∃a c,xs=[.ref a]/\H a=some (.ext (zi9 a c))/\c<=1000/\Q (.int c) H):=by
 intro pins s σ H xs us Q I r h;obtain ⟨a,c,rfl,ha,hc,q⟩:=h;obtain ⟨u,rfl,rx⟩:=zea r;cases rx;obtain ⟨⟨o,es,ep,t,e1,e2,e3,e4,e5⟩,_⟩:=I.hok a _ ha;refine call_len_set e1 e2 e3 e4 ?_ ?_
 ·have:(es.size:Int)<=1000:=by rw [e5];omega
  exact Int.lt_of_le_of_lt this (by decide)
 ·exact ⟨.int c,H,I.tok _,⟨_,by rw [e5]⟩,q⟩
def zmG:OpR X (binaryOp .Add) (fun x y H Q=>∃(a b:Addr) (ys:List V),x=.ref a/\y=.ref b/\SqT X.K H a []/\SqT X.K H b ys/\Q (.ref b) H):=by
 intro pins s σ H x y v u Q I rx ry h;obtain ⟨a,b,ys,rfl,rfl,ha,hb,q⟩:=h;cases rx;cases ry;obtain ⟨its,r1,p1,_⟩:=I.tuple ha;obtain ⟨its2,r2,p2,_⟩:=I.tuple hb;cases r1;obtain ⟨⟨cls,dd,data,sl⟩,ho,hc,n,hd⟩:=id p1;obtain ⟨⟨cls2,dd2,data2,sl2⟩,ho2,hc2,n2,hd2⟩:=id p2;simp only at hc hd hc2 hd2;subst hc hd hc2 hd2
 exact concat_meets ⟨_,ho,rfl⟩ ⟨_,ho2,rfl⟩ noFill_tuple_add seq_tuple_add yce yb6 (ybZ _ _)
  (tuple_addW0 a b ([]:List Value).toArray its2.toArray n n2 dd dd2 sl sl2 (by rfl)) ⟨ho,ho2,⟨.ref b,H,I,rfl,q⟩⟩
end
end L2
namespace PySem
open PySem.Spec PyProof.Rows
end PySem
namespace L2
open PySem PySem.Spec PyProof.Rows
inductive D where
 | non | bl (b:Bool) | int (i:Int) | str (x:Str) | tup (l:List D) | lst (l:List D)
end L2
namespace HT
open PySem PySem.Spec PyProof.Rows L2
end HT
namespace L2
open PySem PySem.Spec PyProof.Rows
mutual
noncomputable def D.py:D->PyData
 | .non=>.none
 | .bl b=>.bool b
 | .int i=>.int i
 | .str x=>.str x
 | .tup l=>.tuple (D.pys l)
 | .lst l=>.list (D.pys l)
noncomputable def D.pys:List D->List PyData
 | []=>[]
 | d::l=>d.py::D.pys l
end
mutual
noncomputable def D.fit:Nat->D->Bool
 | _,.non=>true
 | _,.bl _=>false
 | _,.int _=>true
 | _,.str x=>PyData.strOk x
 | 0,.tup _=>false
 | n+1,.tup l=>D.fits n l
 | 0,.lst _=>false
 | n+1,.lst l=>D.fits n l
noncomputable def D.fits:Nat->List D->Bool
 | _,[]=>true
 | n,d::l=>d.fit n&&D.fits n l
end
theorem D.fits_iff:∀{l:List D},D.fits n l=true↔∀d∈l,d.fit n=true
 | []=>by simp [D.fits]
 | d::l=>by simp [D.fits,D.fits_iff (l:=l)]
mutual
theorem D.lay:∀{n:Nat} {d:D},d.fit n=true->d.py.canLay0=true/\d.py.depth<=n
 | _,.non,_=>⟨rfl,yaK _⟩
 | _,.bl _,h=>by simp [D.fit] at h
 | _,.int _,_=>⟨rfl,yaK _⟩
 | _,.str x,h=>⟨by simpa [D.fit,D.py,PyData.canLay0] using h,yaK _⟩
 | 0,.tup _,h=>by simp [D.fit] at h
 | 0,.lst _,h=>by simp [D.fit] at h
 | n+1,.tup l,h=>by
  have h':D.fits n l=true:=by simpa [D.fit] using h
  obtain ⟨a,b⟩:=D.lays h';exact ⟨by simpa [D.py,PyData.canLay0] using a,by simp only [D.py,PyData.depth];omega⟩
 | n+1,.lst l,h=>by
  have h':D.fits n l=true:=by simpa [D.fit] using h
  obtain ⟨a,b⟩:=D.lays h';exact ⟨by simpa [D.py,PyData.canLay0] using a,by simp only [D.py,PyData.depth];omega⟩
theorem D.lays:∀{n:Nat} {l:List D},D.fits n l=true->PyData.canLayAll0 (D.pys l)=true/\PyData.depthAll (D.pys l)<=n
 | _,[],_=>⟨rfl,yaK _⟩
 | n,d::l,h=>by
  simp only [D.fits,yaa] at h;obtain ⟨a,b⟩:=D.lay h.1;obtain ⟨c,e⟩:=D.lays h.2;exact ⟨by simp [D.pys,PyData.canLayAll0,a,c],by simp only [D.pys,PyData.depthAll];omega⟩
end
section
variable{X:Cx}
def zhC(hl:d.canLay0=true)(r:Reads h v d as):SeqAt.readOf h v=d:=by
 have hx:∃d as,Reads h v d as:=⟨d,as,r⟩;unfold SeqAt.readOf;rw [dif_pos hx];obtain ⟨bs,rb⟩:=hx.choose_spec;exact (SeqAt.Reads.unique _ _ _ _ _ hl r rb).symm
end
def CXE(P:Program)(w:World):CXT:=fun outer H s E e s'=>∃(a:Addr) (cls a0:Value) (H':Hp) (B:Heap),e=.ref a/\Heap.FlyingW B outer a cls a0 s'.heap ∧
 (∀b o,s'.heap.get? b=some o->H' b≠none->B.get? b=some o)/\(∀b o,s.heap.get? b=some o->H b=none->b ∉ frs outer->B.get? b=some o) ∧
 (∀b o,s.heap.get? b=some o->b ∉ frs outer->∃o',B.get? b=some o') ∧
 s'.os=s.os/\AllBare s'.gens/\Un (frs outer) [] H H' s.heap s'.heap/\HOk P w H' s'.heap/\E cls none H'
def zaY.has(x:zaY P w H h a o):∃ob,h.get? a=some ob:=by
 cases o with
 | lst xs=>obtain ⟨_,_,_,_,e⟩:=x;exact ⟨_,e⟩
 | tup xs=>obtain ⟨_,_,_,ob,e,_⟩:=x;exact ⟨_,e⟩
 | dK kvs=>obtain ⟨_,_,_,_,o,_,_,e,_⟩:=x;exact ⟨_,e⟩
 | dT kvs=>obtain ⟨_,_,_,_,o,_,_,e,_⟩:=x;exact ⟨_,e⟩
 | set S n=>obtain ⟨o,_,_,_,e,_⟩:=x;exact ⟨_,e⟩
 | ins C dx fs=>obtain ⟨_,_,_,e,_⟩:=x;exact ⟨_,e⟩
 | own y=>exact x
 | xd fs=>obtain ⟨_,⟨_,_,_,e,_⟩,_⟩:=x;exact ⟨_,e⟩
 | rng lo hi=>obtain ⟨_,_,_,e⟩:=x;exact ⟨_,e⟩
 | frz ob u=>obtain ⟨e,_⟩:=x;exact ⟨_,e⟩
 | tbl ps=>exact ⟨_,(show h.get? a=some _ from x)⟩
 | met f y=>exact ⟨_,(show h.get? a=some _ from x)⟩
 | ext φ=>obtain ⟨_,e,_⟩:=x;exact e
def HOk.same(x:HOk P w H h)(k:∀b u,h.get? b=some u->H b≠none->h'.get? b=some u):HOk P w H h':=fun a o e =>
 (x a o e).stay (fun b u hb q=>k b u q (hb.elim (fun z=>by rw [z,e];exact yaD _) (fun z=>by rw [z];exact yaD _))) (fun _ q=>q) fun _ _ q=>q
section
variable{X:Cx}{pins:Z3}{σ:St}{H:Hp}{s:Shared}{M:Model}
def zm1(l:List Env):∀env∈l,∀b,env.frame=some b->b∈frs l:=fun env he b hb=>ybi.mpr ⟨env,he,hb⟩
def zju(I:Inv X pins σ H s)(hx:X.ex=[])(hs:X.stack=X.env::X.outer)(hf:X.env.frame=some X.env.locals)(mk:Heap.MadeExcOf s.heap h' e cls vs)(q:E cls none H) :
  wpAny M X.A (leaving X.env (.ref e)) (fun _ s''=>CXE X.prog X.w X.outer X.H₀ X.s₀ E (.ref e) s'') Er { s with heap:=h' }:=by
 have hfr:X.A.frames=some (X.env::X.outer):=by rw [<-hs];exact I.ok.frames
 have hst:s.heap.FunFrames X.base (X.env::X.outer):=by rw [<-hs];exact I.stack
 refine wpAny_leaves_madeW (base:=PySem.W.hideAll s.heap (frs (X.env::X.outer))) hfr hf (fun b o z=>PySem.W.of_hideAll _ z) (PySem.W.funFrames_hide hst (zm1 _)) mk fun h2 t fl tup _ up=>?_
 have inB:∀b o,s.heap.get? b=some o->b ∉ frs (X.env::X.outer)->(PySem.W.hideAll s.heap (frs (X.env::X.outer))).get? b=some o:=fun b o z n=>PySem.W.hideAll_get _ z n
 have sub:∀b,b∈frs (X.env::X.outer)->b=X.env.locals\/b∈X.fs:=fun b hb=>by
  rw [<-hs] at hb;exact yav.mp (I.stkSub b hb)
 have fre:∀b,b∈frs (X.env::X.outer)->H b=none:=fun b hb=>by rw [<-hs] at hb;exact I.stkFree b hb
 have old:∀b o,X.s₀.heap.get? b=some o->b ∉ frs X.outer->b ∉ frs (X.env::X.outer):=fun b o z n hb=>by
  rcases sub b hb with r | r
  ·exact absurd (yah (yal z) I.ok.above) (by rw [r];exact yaN _)
  ·exact n r
 have nx:∀b:Addr,b ∉ X.ex:=fun b z=>by rw [hx] at z;cases z
 have trk:∀b o,s.heap.get? b=some o->H b≠none->h2.get? b=some o:=fun b o z n=>fl.1 b o (inB b o z fun hb=>n (fre b hb))
 have hok2:HOk X.prog X.w H h2:=I.hok.same trk
 have slt:∀b o,s.heap.get? b=some o->b∈frs X.stack->∃sl,h2.get? b=some { o with slots:=sl }:=fun b o z hb=>by
  obtain ⟨_,o',z',hd⟩:=I.stack.mem hb;rw [z] at z';cases z';exact up b o (mk.keeps b o z) hd
 have un2:Un (frs X.stack) [] H H s.heap h2:=⟨fun b o z n hb _=>fl.1 b o (inB b o z (by rw [<-hs];exact hb)),fun b o z n hb _=>slt b o z hb,fun b o z n _=>n,
  fun b o z _=>by
   by_cases hb:b∈frs X.stack
   ·obtain ⟨sl,r⟩:=slt b o z hb;exact ⟨_,r⟩
   ·exact ⟨o,fl.1 b o (inB b o z (by rw [<-hs];exact hb))⟩,
  fun _ _ z=>z,fun _ _ _ z=>z,fun _ ps z=>⟨#[],by rw [z,Array.append_empty]⟩⟩
 have J:=I.call (g':=s.gens) (t':=s.toks) (d':=s.drawn) (ch:=[]) un2 hok2 I.bare (fun b z=>absurd z (by simp));refine ⟨e,cls,.ref t,H,_,rfl,fl,fun b o z n=>?_,fun b o z n hb=>?_,fun b o z hb=>?_,J.os,J.bare,?_,J.hok,q⟩
 ·cases k:H b with
  | none=>exact absurd k n
  | some u =>
   obtain ⟨o',z'⟩:=(I.hok b u k).has;have:=trk b o' z' n;rw [show h2.get? b=some o from z] at this;cases this;exact inB b o z' fun hb=>n (fre b hb)
 ·exact inB b o (I.base.keep b o z n hb (nx b)) (old b o z hb)
 ·obtain ⟨o',z'⟩:=I.base.there b o z (nx b);exact ⟨o',inB b o' z' (old b o z hb)⟩
 ·have:=J.base;rwa [hx] at this
def ziK(I:Inv X pins σ H s)(hx:X.ex=[])(hs:X.stack=X.env::X.outer)(hf:X.env.frame=some X.env.locals)(q:CXE X.prog X.w X.stack H s E e s') :
  wpAny M X.A (leaving X.env e) (fun _ s''=>CXE X.prog X.w X.outer X.H₀ X.s₀ E e s'') Er s':=by
 have hfr:X.A.frames=some (X.env::X.outer):=by rw [<-hs];exact I.ok.frames
 obtain ⟨a,cls,a0,H',B,rfl,fl,c1,c2,c3,os,bare,un,hok,q⟩:=q
 have fl':Heap.FlyingW B (X.env::X.outer) a cls a0 s'.heap:=by rw [<-hs];exact fl
 refine wpAny_leaves_onW hfr hf fl' fun h2 fl2 up=>?_
 have sub:∀b,b∈frs X.stack->b=X.env.locals\/b∈X.fs:=fun b hb=>yav.mp (I.stkSub b hb)
 have old:∀b o,X.s₀.heap.get? b=some o->b ∉ frs X.outer->b ∉ frs X.stack:=fun b o z n hb=>by
  rcases sub b hb with r | r
  ·exact absurd (yah (yal z) I.ok.above) (by rw [r];exact yaN _)
  ·exact n r
 have nx:∀b:Addr,b ∉ X.ex:=fun b z=>by rw [hx] at z;cases z
 have trk:∀b o,s'.heap.get? b=some o->H' b≠none->h2.get? b=some o:=fun b o z n=>fl2.1 b o (c1 b o z n)
 have hok2:HOk X.prog X.w H' h2:=hok.same trk
 have slt:∀b o,s.heap.get? b=some o->H b=none->b∈frs X.stack->∃sl,h2.get? b=some { o with slots:=sl }:=fun b o z n hb=>by
  obtain ⟨_,o',z',hd⟩:=I.stack.mem hb;rw [z] at z';cases z';obtain ⟨sl,r⟩:=un.slot b o z n hb (by simp);obtain ⟨sl',r'⟩:=up b ({ o with slots:=sl }:Obj) r hd;exact ⟨sl',r'⟩
 have un2:Un (frs X.stack) [] H H' s.heap h2:=⟨fun b o z n hb _=>fl2.1 b o (c2 b o z n hb),fun b o z n hb _=>slt b o z n hb,un.free,
  fun b o z _=>by
   by_cases hb:b∈frs X.stack
   ·obtain ⟨sl,r⟩:=slt b o z (I.stkFree b hb) hb;exact ⟨_,r⟩
   ·obtain ⟨o',r⟩:=c3 b o z hb
    exact ⟨o',fl2.1 b o' r⟩,
  un.tups,un.frzs,un.tbls⟩
 have J:=I.call (g':=s'.gens) (t':=s'.toks) (d':=s'.drawn) (ch:=[]) un2 hok2 bare (fun b z=>absurd z (by simp));refine ⟨a,cls,a0,H',B,rfl,fl2,fun b o z n=>?_,fun b o z n hb=>?_,fun b o z hb=>?_,os.trans I.os,bare,?_,J.hok,q⟩
 ·cases k:H' b with
  | none=>exact absurd k n
  | some u =>
   obtain ⟨o',z'⟩:=(hok b u k).has;have:=trk b o' z' n;rw [show h2.get? b=some o from z] at this;cases this;exact c1 b o z' n
 ·exact c2 b o (I.base.keep b o z n hb (nx b)) (I.base.free b o z n (nx b)) (old b o z hb)
 ·obtain ⟨o',z'⟩:=I.base.there b o z (nx b);exact c3 b o' z' (old b o z hb)
 ·have:=J.base;rwa [hx] at this
end
def zr4{P:Program}{K:PySem.W.Frag} :
  zol (CXE P w) (zg5 (CXE P w) P w K mg base N qual scope f cd A outer s H E) E:=fun pins σ H1 s1 e s' I q =>
 ziK (X:=zg5 (CXE P w) P w K mg base N qual scope f cd A outer s H E) I rfl rfl rfl q
def zhP{K:PySem.W.Frag}{h:Heap}(k:K.In h)(z:PySem.W.excIn K C bmB nid=true) :
  ∃bm N nm qn bs hd sn sub ab col dd c0 c1 c2 c3 c5 mN,h.get? C=some (excClassObj nm qn C N bs bm hd sn sub ab col dd c0 c1 c2 c3 c5 nid)/\h.Ns N mN/\mN "__init__" = none/\OwnTail h bmB bm:=by
 unfold PySem.W.excIn at z;split at z
 case h_2=>cases z
 case h_1 dd cd sl ho =>
  split at z
  case h_2=>cases z
  case h_1 D bm c0 c1 c2 c3 n c5 e1 e2 =>
   simp only [yaa,ybP,ybc] at z;obtain ⟨⟨⟨⟨⟨z1,z2⟩,z3⟩,z4⟩,z5⟩,z6⟩:=z;subst z1 z2
   have hsl:sl=#[c0,c1,c2,c3,some (.builtin n),c5]:=by
    cases sl with
    | mk l=>exact congrArg Array.mk e2
   have hcd:cd={ cd with mro:=.ref D::bm,hasDel:=false }:=by
    cases cd;simp only at e1 z3;simp only [e1,z3]
   rw [hsl,hcd] at ho;exact ⟨bm,cd.ns,cd.name,_,cd.bases,_,_,_,_,_,dd,c0,c1,c2,c3,c5,_,k _ _ ho,.of_isNs (PySem.W.isNs_of_in k z5),PySem.W.nsMap_none_of_in k z5 z6,PySem.W.tail_of_in k z4⟩
noncomputable def ztt(X:Cx)(E:XK):Prop:=∀(C:Addr) (pins:Z3) (σ:St) (H:Hp) (s:Shared) (e:Addr) (h':Heap) (vs:List Value),Inv X pins σ H s->Heap.MadeExcOf s.heap h' e (.ref C) vs->E (.ref C) none H->X.xe (.ref e) { s with heap:=h' }
def zkA{P:Program}{K:PySem.W.Frag} :
  ztt (zg5 (CXE P w) P w K mg base N qual scope f cd A outer s H E) E:=fun C pins σ H1 s1 e h' vs I mk q =>
 zju (X:=zg5 (CXE P w) P w K mg base N qual scope f cd A outer s H E) I rfl rfl rfl mk q
noncomputable def XP(X:Cx)(pins:Z3)(σ:St)(E:XK)(e:Value)(s':Shared):Prop:=∃H1 s1,Inv X pins σ H1 s1/\CXE X.prog X.w X.stack H1 s1 E e s'
def zfP{M:Model}{A:Around}{E:Z5}{K:PySem.W.Frag}{s:Shared}{C D e:Addr}{oe:Obj}{bC bD:List Value}{iC iD:String}{Q:Bool->Shared->Prop}(k:K.In s.heap)(zC:PySem.W.excIn K C bC iC=true)(zD:PySem.W.excIn K D bD iD=true)
  (he:s.heap.get? e=some oe) (hc:oe.cls=.ref C) (hb:bD.contains (.type "BaseException")=true) (up:∃cd d cl sl,K.lookup C=some ⟨cl,d,.cls cd,sl⟩/\cd.mro.contains (.ref D)=true) (q:Q true s):wpAny M A (excMatches (.ref e) (.ref D)) Q E s:=by
 obtain ⟨bm,N,nm,qn,bs,hd,sn,sub,ab,col,dd,c0,c1,c2,c3,c5,mN,o1,o2,o3,o4⟩:=zhP k zC;obtain ⟨bm',N',nm',qn',bs',hd',sn',sub',ab',col',dd',d0,d1,d2,d3,d5,mN',p1,p2,p3,p4⟩:=zhP k zD;obtain ⟨cd,d,cl,sl,lk,ct⟩:=up;have o1':=k _ _ lk;rw [o1] at o1';have hcd:=congrArg Obj.data (Option.some.inj o1')
 have hcC:(Value.ref C::bm).contains (.ref D)=true:=by
  injection hcd with h
  rwa [<-h] at ct
 have hcB:(Value.ref D::bm').contains (.type "BaseException")=true:=by rw [yb9,p4.hasType hb,Bool.or_true]
 have f:=tc_notTuple;obtain ⟨h,g,dr,t,os⟩:=s;unfold excMatches
 repeat (first | (with_reducible refine ybd he ?_;rw [hc]) | with_reducible refine ybd p1 ?_ | (with_reducible refine wpAny_isSubtype_exc p1 ?_;rw [hcB]) | (with_reducible refine wpAny_isSubtype_exc o1 ?_;rw [hcC]) | wp_step)
 exact q
section
variable{X:Cx}{pins:Z3}{σ:St}{H:Hp}{s:Shared}
def zqd{M:Model}{A:Around}{E:Z5}{i:Nat}{x:Str}{Q:Unit->Shared->Prop}(I:Inv X pins σ H s)(hN:X.N.Nodup)(hi:X.N[i]?=some x)(hk:X.env.scope.names.lookup x=some .local)(hv:∃v,σ[i]?=some (some v))
  (h:∀s',Inv X pins (σ.set i none) H s'->Q () s'):wpAny M A (unbindName X.env x) Q E s:=by
 obtain ⟨m,hn,hl⟩:=id I.loc
 have hcls:(X.env.scope.kind == .class||(X.env.scope.kind == .module&&X.env.locals != X.env.globals))=false:=by rw [I.ok.kind];rfl
 obtain ⟨v,hv⟩:=hv;obtain ⟨u,r,lk⟩:=hl i x v hi hv (.inl hk)
 have hm:m x=some u:=by
  rcases lk with ⟨_,z⟩ | ⟨z,_⟩
  ·exact z
  ·have z:X.env.scope.names.lookup x=some .cell\/X.env.scope.names.lookup x=some .free:=z;rw [hk] at z
   rcases z with z | z<;>cases z
 refine wpAny_unbindName_local hk hn hm hcls fun h' u' hn' hs=>h _ ?_
 have far:∀b o,X.s₀.heap.get? b=some o->b≠X.env.locals:=fun b o z=>yas (yah (yal z) I.ok.above)
 refine ⟨I.ok,I.os,I.bare,⟨?_,?_,I.base.free,?_,I.base.tups,I.base.frzs,I.base.tbls⟩,⟨_,hn',?_⟩,?_,I.free,I.freeC,?_,?_,by simpa using I.len⟩
 ·exact fun b o z n hb hx=>(hs.2 b (far b o z)).trans (I.base.keep b o z n hb hx)
 ·exact fun b o z n hb hx=>let ⟨sl,z1⟩:=I.base.slot b o z n hb hx;⟨sl,(hs.2 b (far b o z)).trans z1⟩
 ·exact fun b o z hx=>let ⟨o',z1⟩:=I.base.there b o z hx;⟨o',(hs.2 b (far b o z)).trans z1⟩
 ·intro j y w e1 e2 e3
  have hj:j≠i:=fun z=>by
   subst z;have l1:j<σ.length:=(yai.mp hv).1;rw [yaC l1] at e2;cases e2
  rw [yaO (Ne.symm hj)] at e2;obtain ⟨u1,r1,q⟩:=hl j y w e1 e2 e3;refine ⟨u1,r1,?_⟩
  rcases q with ⟨k1,z⟩ | ⟨k1,c,z,z1⟩
  ·have ny:y≠x:=fun e=>hj (zfN hN e1 (e ▸ hi))
   exact .inl ⟨k1,by simp [ny,z]⟩
  ·exact .inr ⟨k1,c,z,z1.sameBut hs (I.cne y c z)⟩
 ·exact fun y c z=>let ⟨w,z1⟩:=I.cell y c z;⟨w,z1.sameBut hs (I.cne y c z)⟩
 ·exact fun p hp=>let ⟨z,n,ne,nf,d⟩:=I.pin p hp;⟨(hs.2 p.1 ne).trans z,n,ne,nf,d⟩
 ·exact I.hok.same fun b o z n=>(hs.2 b fun e=>n (by rw [e];exact I.free)).trans z
def zfW{M:Model}{A:Around}{E:Z5}{i:Nat}{x:Str}{pos:Pos}{Q:Unit->Shared->Prop}(I:Inv X pins σ H s)(hN:X.N.Nodup)(hi:X.N[i]?=some x)(hk:X.env.scope.names.lookup x=some .local)
  (h:∀s',Inv X pins (σ.set i none) H s'->Q () s'):wpAny M A (do bindName X.env x .none;unbindBehindTheSuite X.env x pos) Q E s:=by
 refine yab (wpAny_bindName (zdb (v:=.non) I hN hi (.inl hk) rfl (fun s2 I2=>?_) (.inr hk)));unfold unbindBehindTheSuite;refine wpAny_onRaise ?_
 have l1:i<σ.length:=by rw [I.len];exact (yai.mp hi).1
 refine zqd I2 hN hi hk ⟨.non,yaC l1⟩ fun s3 I3=>h s3 ?_
 rwa [ybl] at I3
end
section
variable{X:Cx}{pins:Z3}{σ:St}{H H':Hp}{s s':Shared}{B h2:Heap}{a:Addr}{cls a0:Value}
noncomputable abbrev Cx.inH(X:Cx)(a:Addr):Cx:={ X with A:=X.A.mark (some (.ref a)),calm:=false,xe:=fun _ _=>False }
theorem Inv.inH(I:Inv X pins σ H s)(a:Addr):Inv (X.inH a) pins σ H s :=
 ⟨⟨I.ok.mod,I.ok.kind,I.ok.glob,I.ok.blt,I.ok.above,I.ok.inj,I.ok.has,I.ok.cab,(fun z=>nomatch z),I.ok.frames,I.ok.stk,I.ok.exf,I.ok.bs,I.ok.bsz,I.ok.noex,I.ok.exfs,I.ok.funs,I.ok.frf⟩,I.os,I.bare,I.base,I.loc,I.cell,I.free,I.freeC,I.pin,I.hok,I.len⟩
def Inv.outH(J:X.Ok)(I:Inv (X.inH a) pins σ H s):Inv X pins σ H s:=⟨J,I.os,I.bare,I.base,I.loc,I.cell,I.free,I.freeC,I.pin,I.hok,I.len⟩
def zfu(I:Inv X pins σ H s)(fl:Heap.FlyingW B X.stack a cls a0 h2)(up:s'.heap.UpToSlots h2)(c1:∀b o,s'.heap.get? b=some o->H' b≠none->B.get? b=some o)
  (c2:∀b o,s.heap.get? b=some o->H b=none->b ∉ frs X.stack->B.get? b=some o) (c3:∀b o,s.heap.get? b=some o->b ∉ frs X.stack->∃o',B.get? b=some o')
  (os:s'.os=s.os) (bare:AllBare s'.gens) (un:Un (frs X.stack) [] H H' s.heap s'.heap) (hok:HOk X.prog X.w H' s'.heap) :
  Inv X pins σ H' { s' with heap:=h2 }/\∃ob,ob.cls=cls/\h2.get? a=some ob/\H' a=none/\Inv X pins σ (upd H' a (.frz ob (.own a))) { s' with heap:=h2 }:=by
 have trk:∀b o,s'.heap.get? b=some o->H' b≠none->h2.get? b=some o:=fun b o z n=>fl.1 b o (c1 b o z n)
 have hok2:HOk X.prog X.w H' h2:=hok.same trk
 have slt:∀b o,s.heap.get? b=some o->H b=none->b∈frs X.stack->∃sl,h2.get? b=some { o with slots:=sl }:=fun b o z n hb=>by
  obtain ⟨_,o',z',hd⟩:=I.stack.mem hb;rw [z] at z';cases z';obtain ⟨sl,r⟩:=un.slot b o z n hb (by simp);obtain ⟨sl',r'⟩:=up b ({ o with slots:=sl }:Obj) r hd;exact ⟨sl',r'⟩
 have th:∀b o,s.heap.get? b=some o->b ∉ ([]:List Addr)->∃o',h2.get? b=some o':=fun b o z _=>by
  by_cases hb:b∈frs X.stack
  ·obtain ⟨sl,r⟩:=slt b o z (I.stkFree b hb) hb;exact ⟨_,r⟩
  ·obtain ⟨o',r⟩:=c3 b o z hb;exact ⟨o',fl.1 b o' r⟩
 have un2:Un (frs X.stack) [] H H' s.heap h2:=⟨fun b o z n hb _=>fl.1 b o (c2 b o z n hb),fun b o z n hb _=>slt b o z n hb,un.free,th,un.tups,un.frzs,un.tbls⟩;refine ⟨I.call' (s':={ s' with heap:=h2 }) (ch:=[]) os un2 hok2 bare (fun b z=>absurd z (by simp)),?_⟩;obtain ⟨oe,vs,he,hc,hd,_⟩:=fl.first
 have na:H' a=none:=by
  cases k:H' a with
  | none=>rfl
  | some u =>
   obtain ⟨o',z'⟩:=(hok a u k).has;have:=c1 a o' z' (by rw [k];exact yaD _);rw [fl.2.1] at this;cases this
 have ns:∀o,s.heap.get? a=some o->False:=fun o z=>by
  by_cases hb:a∈frs X.stack
  ·obtain ⟨_,o',z',hd'⟩:=fl.2.2.1.mem hb;rw [he] at z';cases z';exact hd' _ hd
  ·obtain ⟨o',r⟩:=c3 a o z hb;rw [fl.2.1] at r;cases r
 have ne:∀{b:Addr} {u:HO},H' b=some u->b≠a:=fun {b u} z e=>by rw [e,na] at z;cases z
 refine ⟨oe,hc,he,na,I.call' (s':={ s' with heap:=h2 }) (ch:=[]) os ⟨un2.keep,un2.slot,fun b o z n hx=>?_,th,fun b xs z=>?_,fun b o u z=>?_,fun b ps z=>?_⟩ (fun b u z=>?_) bare (fun b z=>absurd z (by simp))⟩
 ·rw [zag (a:=a) (b:=b) fun e=>ns o (by rw [<-e];exact z)];exact un.free b o z n hx
 ·have:=un.tups b xs z;rw [zag (ne this)];exact this
 ·have:=un.frzs b o u z;rw [zag (ne this)];exact this
 ·obtain ⟨more,this⟩:=un.tbls b ps z;exact ⟨more,by rw [zag (ne this)];exact this⟩
 ·by_cases e:b=a
  ·subst e;unfold upd at z;rw [if_pos rfl] at z;cases z;exact ⟨he,oe,he⟩
  ·rw [zag e] at z;exact (hok2 b u z).stay (fun _ _ _ q=>q) (fun c q=>by rw [zag (ne q)];exact q) (fun c xs q=>by rw [zag (ne q)];exact q)
end
noncomputable def zqH(K:PySem.W.Frag)(C D:Addr):Prop:=(∃bC iC,PySem.W.excIn K C bC iC=true)/\∃cd d cl sl,K.lookup C=some ⟨cl,d,.cls cd,sl⟩/\cd.mro.contains (.ref D)=true
noncomputable def Ends.goes(D:Ends)(i:Nat):Ends:={ nx:=fun σ H=>D.nx (σ.set i none) H,rt:=D.rt,bk:=fun σ H=>D.bk (σ.set i none) H,ct:=fun σ H=>D.ct (σ.set i none) H }
def zoT{X:Cx}{a:Addr}{pins:Z3}{D:Ends}{i:Nat}{n:Str}{pos:Pos}{f:Flow}{s:Shared}{E:Z5}(J:X.Ok)(hN:X.N.Nodup)(hi:X.N[i]?=some n)(hk:X.env.scope.names.lookup n=some .local)(h:SP (X.inH a) pins (D.goes i) f s) :
  wpAny (model X.prog X.w) X.A (do bindName X.env n .none;unbindBehindTheSuite X.env n pos) (fun _ s3=>SP X pins D f s3) E s:=by
 cases f with
 | next =>
  obtain ⟨σ',H',I,q⟩:=h;exact zfW (I.outH J) hN hi hk fun s' I'=>⟨_,H',I',q⟩
 | brk =>
  obtain ⟨σ',H',I,q⟩:=h;exact zfW (I.outH J) hN hi hk fun s' I'=>⟨_,H',I',q⟩
 | cont =>
  obtain ⟨σ',H',I,q⟩:=h;exact zfW (I.outH J) hN hi hk fun s' I'=>⟨_,H',I',q⟩
 | ret u =>
  obtain ⟨v,σ',H',I,r,q⟩:=h;exact zfW (I.outH J) hN hi hk fun s' I'=>⟨v,_,H',I',r,q⟩
end L2
namespace PySem.W
open PySem
structure ExcCls(K:Frag)(C:Addr):Prop where
 ga:findIn K (.ref C) "__getattribute__" = some (some (.builtin "BaseException.__getattribute__"))
 gt:findIn K (.ref C) "__getattr__" = some none
 cl:findIn K (.ref C) "__class__" = some (some (.builtin "object.__class__"))
 ob:subIn K (.ref C) (.type "object")=some true
 be:subIn K (.ref C) (.type "BaseException")=some true
 is:∃c d cd sl,K.lookup C=some ⟨c,d,.cls cd,sl⟩
section
variable{prog:Program}{w:World}{A:Around}{E:Z5}{h:Heap}{g:Array GenState}{d:Drawn}{t:Nat}{os:OsState}{a C:Addr}{o:Obj}{K:Frag}
theorem zf4{R:Result->Shared->Prop}(k:K.In h)(X:ExcCls K C)(hx:h.get? a=some o)(hc:o.cls=.ref C)(hq:R (.ok (.ret (.ref C))) ⟨h,g,d,t,os⟩) :
  codeAny (model prog w) A (.call (.builtin "getset_descriptor.__get__") ⟨[.builtin "object.__class__",.ref a,.ref C],[]⟩) R ⟨h,g,d,t,os⟩:=by
 have isGs:Shared.TypeIs ⟨h,g,d,t,os⟩ (.builtin "object.__class__") "getset_descriptor":=ycp
 have f8:subIn K (.ref C) (.type (".".intercalate ("object.__class__".cutAt '.').dropLast))=some true:=by rw [F.owner_object_class];exact X.ob
 refine ycu F.slot_gs_get.plain F.entry_gs_get ?_;refine F.slot_gs_get.check _ _ _ _ _ _ _ _ isGs (F.args_gs_get _ _ _) ?_
 repeat (any_goals (first | assumption | (with_reducible refine ybd hx ?_;rw [hc]) | with_reducible refine Looks.at (looks_subIn k f8) ?_ | wp_step))
 refine And.intro (Code.quiet_builtin _ (by decide +kernel)) ?_;refine ybN F.entry_object_class ?_
 repeat (any_goals (first | assumption | (with_reducible refine ybd hx ?_;rw [hc]) | wp_step))
def zeJ{tk:Tok}{Q:Fin->Shared->Prop}(k:K.In h)(X:ExcCls K C)(hx:h.get? a=some o)(hc:o.cls=.ref C)(hq:Q (.done (.ret (.ref C))) ⟨h,g,d,t,os⟩) :
  wpAny (model prog w) A (Builtin.«object.__getattribute__» { pos:=[.ref a,.str "__class__" tk],kw:=[] }) Q E ⟨h,g,d,t,os⟩:=by
 have isGs:Shared.TypeIs ⟨h,g,d,t,os⟩ (.builtin "object.__class__") "getset_descriptor":=ycp;have known:=And.intro ycp (And.intro F.slot_gs_get.lookup F.slot_gs_set.lookup);obtain ⟨p5,p6,p7⟩:=known
 repeat (any_goals (first | assumption | (with_reducible refine ybd hx ?_;rw [hc]) | with_reducible refine Looks.at (looks_findIn k X.cl) ?_ | wp_step))
 refine zf4 k X hx hc ?_
 repeat any_goals first | assumption | wp_step
end
section
variable{prog:Program}{w:World}{A:Around}{E:Z5}{h:Heap}{g:Array GenState}{d:Drawn}{t:Nat}{os:OsState}{a C:Addr}{o:Obj}{K:Frag}
theorem zeK{M:Model}{nameV:Value}{Q:Unit->Shared->Prop}(k:K.In h)(X:ExcCls K C)(hx:h.get? a=some o)(hc:o.cls=.ref C)(hq:Q () ⟨h,g,d,t,os⟩) :
  wpAny M A (checkBuiltinCall "BaseException.__getattribute__" ⟨[.ref a,nameV],[]⟩) Q E ⟨h,g,d,t,os⟩:=by
 have k1:builtinKind "BaseException.__getattribute__" = some .slot:=by decide +kernel
 have k2:splitId "BaseException.__getattribute__" = some ("BaseException","__getattribute__"):=by decide +kernel
 have fits:=F.args_bexc_ga (.ref a) nameV;simp only [checkBuiltinCall,k1,k2];refine yab ?_;unfold isInstance
 repeat (first | (with_reducible refine ybd hx ?_;rw [hc]) | with_reducible refine Looks.at (looks_subIn k X.be) ?_ | wp_step)
 exact hq
def ze5{tk:Tok}{R:Result->Shared->Prop}(k:K.In h)(X:ExcCls K C)(hx:h.get? a=some o)(hc:o.cls=.ref C)(hq:R (.ok (.ret (.ref C))) ⟨h,g,d,t,os⟩) :
  codeAny (model prog w) A (.call (.builtin "BaseException.__getattribute__") ⟨[.ref a,.str "__class__" tk],[]⟩) R ⟨h,g,d,t,os⟩ :=
 ycu F.attr_ValueError.ga.plain F.entry_bexc_ga (zeK k X hx hc (zeJ k X hx hc hq))
theorem zgV{tk:Tok}{fill expr:Bool}{Q:Z5}(k:K.In h)(X:ExcCls K C)(hx:h.get? a=some o)(hc:o.cls=.ref C)(hq:Q (.ref C) ⟨h,g,d,t,os⟩) :
  wpAny (model prog w) A (getAttrBy (.ref a) (.str "__class__" tk) fill expr) Q E ⟨h,g,d,t,os⟩:=by
 have f3:=F.attr_ValueError.ga.bind (.ref a)
 have n0:(expr&&onTheHeap (Value.builtin "BaseException.__getattribute__"))=false:=by cases expr<;>rfl
 have n2:(Value.builtin "BaseException.__getattribute__" == Value.builtin "object.__getattribute__")=false:=by decide +kernel
 have n1:(onTheHeap (Value.ref C)&&Value.builtin "BaseException.__getattribute__" == Value.builtin "object.__getattribute__")=false:=by rw [n2];rfl
 repeat (any_goals (first | assumption | (with_reducible refine ybd hx ?_;rw [hc]) | with_reducible refine Looks.at (looks_findIn k X.ga) ?_ | with_reducible refine Looks.at (looks_findIn k X.gt) ?_ | wp_step))
 refine ze5 k X hx hc ?_
 repeat any_goals first | assumption | wp_step
def ze6{Q:Option Value->Shared->Prop}(k:K.In h)(X:ExcCls K C)(hx:h.get? a=some o)(hc:o.cls=.ref C)(hq:Q (some (.ref C)) ⟨h,g,d,t+1,os⟩):wpAny (model prog w) A (getAttr? (.ref a) "__class__") Q E ⟨h,g,d,t,os⟩:=by
 unfold getAttr? getAttrBy?
 repeat (any_goals (first | assumption | with_reducible apply zgV k X hx hc | wp_step))
end
def zmS{K:Frag}{a C:Addr}(X:ExcCls K C):KitX K (.ref a) (.ref C) (fun h=>∃o,h.get? a=some o/\o.cls=.ref C) where
 ty:=fun M h _ p=>by
  obtain ⟨o,h1,h2⟩:=p;rw [<-h2];exact Looks.andThen (Looks.ld h1) .now
 it:=fun _ _ k _=>by
  obtain ⟨c,d,cd,sl,lk⟩:=X.is;intro A' Q' E' s' kk q;unfold isType loadHead;exact yab (wpAny_loadPart (kk _ _ (k _ _ lk)) (yam q))
 ne:=fun h tp dd its n sl k htp=>by
  obtain ⟨c,d,cd,sl',lk⟩:=X.is;refine Bool.eq_false_iff.mpr fun q=>?_
  have e:C=tp:=Value.ref.inj (ybP.mp q);have z:=k _ _ lk;rw [e,htp] at z;cases z
 ca:=fun {_ _ _ _ _ s} k p q=>by
  obtain ⟨o,h1,h2⟩:=p;obtain ⟨h,g,d,t,os⟩:=s;exact ze6 k X h1 h2 q
end PySem.W
namespace L2
open PySem PySem.Spec PyProof.Rows
def zjJ{X:Cx}:zc8 X (.builtin "isinstance") (fun xs H Q=>∃(a C:Addr) (ob:Obj) (c:V) (cv:Value) (k:Bool),xs=[.ref a,c]/\H a=some (.frz ob (.own a))/\ob.cls=.ref C/\PySem.W.ExcCls X.K C/\(∀u,zaX c u->u=cv)/\PySem.W.kitOne X.K (.ref C) cv=some k/\Q (.bl k) H):=by
 intro pins s σ H xs us Q I r h;obtain ⟨a,C,ob,c,cv,k,rfl,ha,hc,Z,hv,e,q⟩:=h
 cases r with
 | cons r1 rr =>
  cases rr with
  | cons r2 r3 =>
   cases r3;cases (show _=Value.ref a from r1);rw [hv _ r2];obtain ⟨h1,_⟩:=(show zaY X.prog X.w H s.heap a (.frz ob (.own a)) from I.hok a _ ha);exact yaS (PySem.W.zmS Z) I.kIn ⟨ob,h1,hc⟩ e (fun z=>nomatch z) fun tk=>⟨.bl k,H,I.tok tk,rfl,q⟩
open PySem PySem.Spec PyProof.Rows PySem.SeqAt
end L2
namespace S2
open PySem PySem.Spec PyProof.Rows L2
mutual
noncomputable def D.py:D->PyData
 | .non=>.none
 | .bl b=>.bool b
 | .int i=>.int i
 | .str x=>.str x
 | .tup l=>.tuple (D.pys l)
 | .lst l=>.list (D.pys l)
 | .scr l=>.list (l.map PyData.int)
 | .dic _=>.none
 | .ref _=>.none
 | .exc _=>.none
noncomputable def D.pys:List D->List PyData
 | []=>[]
 | d::l=>d.py::D.pys l
end
mutual
noncomputable def D.fit:Nat->D->Bool
 | _,.non=>true
 | _,.bl _=>true
 | _,.int _=>true
 | _,.str x=>PyData.strOk x
 | 0,.tup _=>false
 | n+1,.tup l=>D.fits n l
 | 0,.lst _=>false
 | n+1,.lst l=>D.fits n l
 | 0,.scr _=>false
 | _+1,.scr _=>true
 | _,.dic _=>false
 | _,.ref _=>false
 | _,.exc _=>false
noncomputable def D.fits:Nat->List D->Bool
 | _,[]=>true
 | n,d::l=>d.fit n&&D.fits n l
end
theorem D.fits_iff:∀{l:List D},D.fits n l=true↔∀d∈l,d.fit n=true
 | []=>by simp [D.fits]
 | d::l=>by simp [D.fits,D.fits_iff (l:=l)]
theorem ziS:∀(l:List Int),PyData.canLayAll0 (l.map PyData.int)=true/\PyData.depthAll (l.map PyData.int)=0
 | []=>⟨rfl,rfl⟩
 | i::l=>by
  obtain ⟨a,b⟩:=ziS l;exact ⟨by simp [PyData.canLayAll0,PyData.canLay0,a],by simp [PyData.depthAll,PyData.depth,b]⟩
mutual
theorem D.lay:∀{n:Nat} {d:D},d.fit n=true->d.py.canLay0=true/\d.py.depth<=n
 | _,.non,_=>⟨rfl,yaK _⟩
 | _,.bl _,h=>⟨rfl,yaK _⟩
 | _,.int _,_=>⟨rfl,yaK _⟩
 | _,.str x,h=>⟨by simpa [D.fit,D.py,PyData.canLay0] using h,yaK _⟩
 | 0,.tup _,h=>by simp [D.fit] at h
 | 0,.lst _,h=>by simp [D.fit] at h
 | 0,.scr _,h=>by simp [D.fit] at h
 | n+1,.scr l,h=>by
  obtain ⟨a,b⟩:=ziS l;exact ⟨by simpa [D.py,PyData.canLay0] using a,by simp only [D.py,PyData.depth];omega⟩
 | _,.dic _,h=>by simp [D.fit] at h
 | _,.ref _,h=>by simp [D.fit] at h
 | _,.exc _,h=>by simp [D.fit] at h
 | n+1,.tup l,h=>by
  have h':D.fits n l=true:=by simpa [D.fit] using h
  obtain ⟨a,b⟩:=D.lays h';exact ⟨by simpa [D.py,PyData.canLay0] using a,by simp only [D.py,PyData.depth];omega⟩
 | n+1,.lst l,h=>by
  have h':D.fits n l=true:=by simpa [D.fit] using h
  obtain ⟨a,b⟩:=D.lays h';exact ⟨by simpa [D.py,PyData.canLay0] using a,by simp only [D.py,PyData.depth];omega⟩
theorem D.lays:∀{n:Nat} {l:List D},D.fits n l=true->PyData.canLayAll0 (D.pys l)=true/\PyData.depthAll (D.pys l)<=n
 | _,[],_=>⟨rfl,yaK _⟩
 | n,d::l,h=>by
  simp only [D.fits,yaa] at h;obtain ⟨a,b⟩:=D.lay h.1;obtain ⟨c,e⟩:=D.lays h.2;exact ⟨by simp [D.pys,PyData.canLayAll0,a,c],by simp only [D.pys,PyData.depthAll];omega⟩
end
section
variable{X:Cx}{cl:Cf}{w:Wd}
def TopV.lstI(h:TopV cl w v (.lst ds)):∃a xs,v=.ref a/\w.H a=some (.lst xs)/\Shds cl w xs ds:=by
 cases h with
 | sh h=>cases h with
  | lst e k r=>exact ⟨_,_,rfl,e,r⟩
 | ow e t=>cases t with
  | lst r=>exact ⟨_,_,rfl,e,r⟩
def TopV.tupI(h:TopV cl w v (.tup ds)):∃a xs,v=.ref a/\w.H a=some (.tup xs)/\w.ow a=none/\Shds cl w xs ds:=by
 cases h with
 | sh h=>cases h with
  | tup e k r=>exact ⟨_,_,rfl,e,k,r⟩
 | ow e t=>cases t
def TopV.intI(h:TopV cl w v (.int i)):v=.int i:=by
 cases h with
 | sh h=>cases h;rfl
 | ow e t=>cases t
def TopV.strI(h:TopV cl w v (.str i)):v=.str i:=by
 cases h with
 | sh h=>cases h;rfl
 | ow e t=>cases t
def TopV.blI(h:TopV cl w v (.bl i)):v=.bl i:=by
 cases h with
 | sh h=>cases h;rfl
 | ow e t=>cases t
def TopV.nonI(h:TopV cl w v .non):v=.non:=by
 cases h with
 | sh h=>cases h;rfl
 | ow e t=>cases t
def Shd.scrI(hK:X.K=cl.K)(h:Shd cl w v (.scr l)):∃a,v=.ref a/\SqL X.K w.H a (l.map V.int):=by
 cases h with
 | scr e k=>exact ⟨_,rfl,.inl (.inr ⟨_,e⟩)⟩
 | scrK h=>exact ⟨_,rfl,by rw [hK];exact h _⟩
theorem TopV.scrI(hK:X.K=cl.K)(h:TopV cl w v (.scr l)):∃a,v=.ref a/\SqL X.K w.H a (l.map V.int):=by
 cases h with
 | sh h=>exact h.scrI hK
 | ow e t=>cases t
def ziw(I:Inv X pins σ w.H s)(hK:X.K=cl.K)(h:Shd cl w v (.scr l))(r:zaX v u):∃as,Reads s.heap u (D.scr l).py as:=by
  obtain ⟨a,rfl,hq⟩:=h.scrI hK;cases r;obtain ⟨its,rv,p,_⟩:=I.list hq;obtain ⟨o,ho,hc,n,hd⟩:=id p.isList
  have go:∀{l:List Int} {us:List Value},Vals (l.map V.int) us->∃as,ReadsAll s.heap us (l.map PyData.int) as:=by
   intro l
   induction l with
   | nil=>intro us h;cases h;exact ⟨_,.nil⟩
   | cons i l ih =>
    intro us h
    cases h with
    | cons h1 h2 =>
     obtain ⟨t,rfl⟩:=h1;obtain ⟨as,ra⟩:=ih h2;exact ⟨_,.cons (.int i t) ra⟩
  obtain ⟨as,ra⟩:=go rv;exact ⟨_,.list ho hc hd (by simpa using ra)⟩
def zm5{n:Nat}{l:List D}(h:(D.tup l).fit n=true):∃m,n=m+1:=by
 cases n with
 | zero=>simp [D.fit] at h
 | succ m=>exact ⟨m,rfl⟩
def zm6{n:Nat}{l:List D}(h:(D.lst l).fit n=true):∃m,n=m+1:=by
 cases n with
 | zero=>simp [D.fit] at h
 | succ m=>exact ⟨m,rfl⟩
mutual
theorem zmh{pins:Z3}{σ:St}{s:Shared}(I:Inv X pins σ w.H s)(hK:X.K=cl.K):∀{v:V} {d:D} {n:Nat},Shd cl w v d->d.fit n=true->∀{u:Value},zaX v u->∃as,Reads s.heap u d.py as
 | _,_,_,.non,_,_,r=>by cases r;exact ⟨_,.none⟩
 | _,_,_,.bl b,_,_,r=>by cases r;exact ⟨_,.bool b⟩
 | _,_,_,.int i,_,_,r=>by obtain ⟨t,rfl⟩:=r;exact ⟨_,.int i t⟩
 | _,_,_,.str x,_,_,r=>by obtain ⟨t,rfl⟩:=r;exact ⟨_,.str x t⟩
 | _,_,n,.tup (a:=a) e _ rs,h,_,r=>by
  obtain ⟨n,rfl⟩:=zm5 h;cases r;obtain ⟨its,rv,p,_⟩:=I.tuple (SqT.of (K:=X.K) e);obtain ⟨o,ho,hc,n,hd⟩:=id p;obtain ⟨as,ra⟩:=zdp I hK rs (by simpa [D.fit] using h) rv;exact ⟨_,.tuple ho hc hd (by simpa using ra)⟩
 | _,_,n,.lst (a:=a) e _ rs,h,_,r=>by
  obtain ⟨n,rfl⟩:=zm6 h;cases r;obtain ⟨its,rv,p,_⟩:=I.list (SqL.of (K:=X.K) e);obtain ⟨o,ho,hc,n,hd⟩:=id p.isList;obtain ⟨as,ra⟩:=zdp I hK rs (by simpa [D.fit] using h) rv;exact ⟨_,.list ho hc hd (by simpa using ra)⟩
 | _,_,n,.scr e k,h,_,r=>ziw I hK (.scr e k) r
 | _,_,n,.scrK e,h,_,r=>ziw I hK (.scrK e) r
 | _,_,n,.dicK _ _ _,h,_,_=>by simp [D.fit] at h
 | _,_,n,.ref _,h,_,_=>by simp [D.fit] at h
 | _,_,n,.exc _ _ _,h,_,_=>by simp [D.fit] at h
theorem zdp{pins:Z3}{σ:St}{s:Shared}(I:Inv X pins σ w.H s)(hK:X.K=cl.K):∀{vs:List V} {ds:List D} {n:Nat},Shds cl w vs ds->D.fits n ds=true->∀{us:List Value},Vals vs us->∃as,ReadsAll s.heap us (D.pys ds) as
 | _,_,_,.nil,_,_,r=>by cases r;exact ⟨_,.nil⟩
 | _,_,n,.cons h t,f,_,r=>by
  simp only [D.fits,yaa] at f
  cases r with
  | cons r1 r2 =>
   obtain ⟨as,a⟩:=zmh I hK h f.1 r1;obtain ⟨bs,b⟩:=zdp I hK t f.2 r2;exact ⟨_,.cons a b⟩
end
def zgy(I:Inv X pins σ w.H s)(hK:X.K=cl.K)(h:TopV cl w v d)(f:d.fit n=true)(r:zaX v u):∃as,Reads s.heap u d.py as:=by
 cases h with
 | sh h=>exact zmh I hK h f r
 | ow e t =>
  cases t with
  | lst rs =>
   cases n with
   | zero=>simp [D.fit] at f
   | succ n =>
    cases r;obtain ⟨its,rv,p,_⟩:=I.list (SqL.of (K:=X.K) e);obtain ⟨o,ho,hc,n,hd⟩:=id p.isList;obtain ⟨as,ra⟩:=zdp I hK rs (by simpa [D.fit] using f) rv;exact ⟨_,.list ho hc hd (by simpa using ra)⟩
  | dicK _=>simp [D.fit] at f
noncomputable def zel(d e:D):Bool:=d.py.eqv e.py
noncomputable def zln(ds:List (D×D)):Bool:=ds.all fun p=>p.2.fit 8
def eqK(es:List (D×D)):List (D×D)->Bool
 | (.str k,d)::r=>(match zae k es with | some e=>zel d e | none=>false)&&eqK es r
 | _=>true
def zlu(d e:D):Option Bool:=match d,e with | .dic ds,.dic es=>if zai ds&&zai es&&zln ds&&zln es then some (ds.length == es.length&&eqK es ds) else none | _,_=>none
def eqD(d e:D):Option D:=if d.fit 9&&e.fit 9 then some (.bl (zel d e)) else (zlu d e).map D.bl
def neD(d e:D):Option D:=if d.fit 9&&e.fit 9 then some (.bl (!zel d e)) else (zlu d e).map fun b=>D.bl (!b)
theorem zf1{k:Str}:∀{ds:List (D×D)} {d:D},zae k ds=some d->zln ds=true->d.fit 8=true
 | (.str x,e)::r,d,h,f=>by
  unfold zln at f;rw [yaX,yaa] at f;unfold zae at h;split at h
  ·cases h;exact f.1
  ·exact zf1 h f.2
theorem ziM{A:Around}{pins:Z3}{σ:St}{s:Shared}(I:Inv X pins σ w.H s)(hK:X.K=cl.K)(hu:A.units+32<cLine){kb:List (Key×V)}{vb:List (Key×Value)}{es:List (D×D)}(rb:KV kb vb)(hb:ShdK cl w kb es)(ob:zai es=true)(fb:zln es=true) :
  ∀{ka:List (Key×V)} {va:List (Key×Value)} {ds:List (D×D)},ShdK cl w ka ds->KV ka va->zai ds=true->zln ds=true->PySem.W.KeqHits A s vb va (eqK es ds)
 | _,_,_,.nil,.nil,_,_=>.nil
 | _,_,_,.consI _ _,_,o,_=>by cases o
 | _,_,_,.consS (x:=x) (v:=v) (d:=d) hd ht,.cons (b:=q) r t,o,f=>by
  unfold zai at o;rw [yaa] at o;unfold zln at f;rw [yaX,yaa] at f;have ih:=ziM I hK hu rb hb ob fb ht t o.2 f.2;obtain ⟨qk,qv⟩:=q;obtain ⟨e1,rv⟩:=r;dsimp only at e1 rv;subst e1;have hv:=rb.val (.inr x);show PySem.W.KeqHits A s vb _ ((match zae x es with | some e=>zel d e | none=>false)&&eqK es _)
  rcases zcm x hb ob with ⟨h1,h2⟩ | ⟨v',d',h1,h2,h3⟩
  ·rw [h1] at hv;rw [h2]
   cases hz:valueAt vb (.inr x) with
   | none=>exact .miss hz
   | some y=>rw [hz] at hv;exact hv.elim
  ·rw [h1] at hv;rw [h2]
   cases hz:valueAt vb (.inr x) with
   | none=>rw [hz] at hv;exact hv.elim
   | some y =>
    rw [hz] at hv;obtain ⟨as,ra⟩:=zmh I hK hd f.1 rv;obtain ⟨bs,rb'⟩:=zmh I hK h3 (zf1 h2 fb) hv;obtain ⟨l1,d1⟩:=D.lay f.1;obtain ⟨l2,d2⟩:=D.lay (zf1 h2 fb);exact .hit hz (SeqAt.eqAt_reads _ _ A s _ _ as bs ra rb' l1 l2 (by omega)) ih
theorem zlt{pins:Z3}{σ:St}{s:Shared}{x y:V}{v u:Value}{d e:D}{b:Bool}(I:Inv X pins σ w.H s)(hK:X.K=cl.K)(hu:X.A.units+64<cLine)(hx:TopV cl w x d)(hy:TopV cl w y e)(rx:zaX x v)(ry:zaX y u)(h:zlu d e=some b) :
  ∃(a c:Addr) (ka kc:List (Key×Value)) (r:Bool),v=.ref a/\u=.ref c/\(a == sysModules)=false/\(c == sysModules)=false/\s.heap.DictOf (zaB X.prog X.w) a ka/\s.heap.DictOf (zaB X.prog X.w) c kc/\PySem.W.KeqHits X.A.in1 s kc ka r/\b=(ka.length == kc.length&&r):=by
 unfold zlu at h;split at h
 ·rename_i ds es;split at h
  ·rename_i hc;simp only [yaa] at hc;cases h;obtain ⟨a,ka,rfl,ea,ra⟩:=hx.dicI;obtain ⟨c,kc,rfl,ec,rc⟩:=hy.dicI;cases rx;cases ry;obtain ⟨_,z1,va,k1,d1⟩:=zeO I.hok ea;obtain ⟨_,z2,vc,k2,d2⟩:=zeO I.hok ec;refine ⟨a,c,va,vc,eqK es ds,rfl,rfl,z1,z2,d1,d2,ziM I hK (by simp [Around.in1];omega) k2 rc hc.1.1.2 hc.2 ra k1 hc.1.1.1 hc.1.2,?_⟩;rw [<-k1.length,<-k2.length,ra.length,rc.length]
  ·cases h
 ·cases h
theorem zuA(hK:X.K=cl.K)(hu:X.A.units+64<cLine):OpD X cl (compareOp .Eq) eqD:=by
 intro pins s σ H x y v u Q I rx ry h;obtain ⟨w,d,e,r,rfl,hx,hy,hg,q⟩:=h;unfold eqD at hg;split at hg
 ·rename_i hf;cases hg;rw [yaa] at hf;obtain ⟨as,ra⟩:=zgy I hK hx hf.1 rx;obtain ⟨bs,rb⟩:=zgy I hK hy hf.2 ry;obtain ⟨l1,d1⟩:=D.lay hf.1;obtain ⟨l2,d2⟩:=D.lay hf.2;exact SeqAt.compareEq_reads ra rb l1 l2 (by omega) ⟨.bl _,w.H,I,rfl,q _ w (Grow.refl _) (.bl _)⟩
 ·obtain ⟨b,hb,hg⟩:=yap.mp hg;subst hg;obtain ⟨a,c,ka,kc,r,rfl,rfl,z1,z2,d1,d2,hh,rfl⟩:=zlt I hK hu hx hy rx ry hb;exact PySem.W.keq_eq z1 z2 d1 d2 (by omega) (fun _=>hh) ⟨.bl _,w.H,I,rfl,q _ w (Grow.refl _) (.bl _)⟩
def zsi(hK:X.K=cl.K)(hu:X.A.units+64<cLine):OpD X cl (compareOp .NotEq) neD:=by
 intro pins s σ H x y v u Q I rx ry h;obtain ⟨w,d,e,r,rfl,hx,hy,hg,q⟩:=h;unfold neD at hg;split at hg
 ·rename_i hf;cases hg;rw [yaa] at hf;obtain ⟨as,ra⟩:=zgy I hK hx hf.1 rx;obtain ⟨bs,rb⟩:=zgy I hK hy hf.2 ry;obtain ⟨l1,d1⟩:=D.lay hf.1;obtain ⟨l2,d2⟩:=D.lay hf.2;exact SeqAt.compareNe_reads ra rb l1 l2 (by omega) ⟨.bl _,w.H,I,rfl,q _ w (Grow.refl _) (.bl _)⟩
 ·obtain ⟨b,hb,hg⟩:=yap.mp hg;subst hg;obtain ⟨a,c,ka,kc,r,rfl,rfl,z1,z2,d1,d2,hh,rfl⟩:=zlt I hK hu hx hy rx ry hb;exact PySem.W.keq_ne z1 z2 d1 d2 (by omega) (fun _=>hh) ⟨.bl _,w.H,I,rfl,q _ w (Grow.refl _) (.bl _)⟩
noncomputable def zkc:D->Option (List D) | .lst l=>some l | .tup l=>some l | _=>none
noncomputable def zjr(d:D)(l:List D):Bool:=l.any fun e=>zel e d
def zqT(d e:D):Option Bool:=match d,e with | .str k,.dic ds=>if zai ds then some (zae k ds).isSome else none | _,_=>none
def inD(d e:D):Option D:=match zkc e with | some l=>if d.fit 8&&D.fits 8 l then some (.bl (zjr d l)) else none | none=>(zqT d e).map D.bl
def ziG(d e:D):Option D:=match zkc e with | some l=>if d.fit 8&&D.fits 8 l then some (.bl (!zjr d l)) else none | none=>(zqT d e).map fun b=>D.bl (!b)
def zdo{s:Shared}{its:List Value}{d:D}(ra:ReadsAll s.heap its (D.pys ds) as)(f:D.fits 8 ds=true):(its.toArray.any fun y=>(SeqAt.readOf s.heap y).eqv d.py)=zjr d ds:=by
 rw [SeqAt.any_by_data (vs:=its.toArray) (xs:=D.pys ds) (as:=as) (by simpa using ra) (D.lays f).1]
 have:∀{l:List D},((D.pys l).any fun y=>y.eqv d.py)=zjr d l:=by
  intro l
  induction l with
  | nil=>rfl
  | cons e l ih =>
   show (e.py.eqv d.py||(D.pys l).any fun y=>y.eqv d.py)=(zel e d||zjr d l);rw [ih];rfl
 exact this
theorem zb2{A:Around}{s:Shared}{d:D}(hu:A.units+64<cLine)(rx:Reads s.heap x d.py bs)(fd:d.fit 8=true):∀{its:List Value} {ds:List D} {as:List Addr},ReadsAll s.heap its (D.pys ds) as->D.fits 8 ds=true->∀y,y∈its.toArray->SeqAt.EqAt A.in1 s y x ((SeqAt.readOf s.heap y).eqv d.py)
 | [],[],_,_,_,y,hy=>by simp at hy
 | [],_::_,_,h,_,_,_=>by cases h
 | _::_,[],_,h,_,_,_=>by cases h
 | v::its,e::ds,_,h,f,y,hy=>by
  simp only [D.fits,yaa] at f
  cases h with
  | cons h1 h2 =>
   simp at hy
   rcases hy with rfl | hy
   ·rw [zhC (D.lay f.1).1 h1];refine SeqAt.eqAt_reads _ _ _ _ _ _ _ _ h1 rx (D.lay f.1).1 (D.lay fd).1 ?_;have:=(D.lay f.1).2;show A.units+1+_<cLine;omega
   ·exact zb2 hu rx fd h2 f.2 y (by simpa using hy)
def zkb(h:zkc e=some l):e=.lst l\/e=.tup l:=by
 cases e<;>simp [zkc] at h
 ·exact .inr (by rw [h])
 ·exact .inl (by rw [h])
def zn8{w:Wd}{x y:V}{d e:D}{b:Bool}(hx:TopV cl w x d)(hy:TopV cl w y e)(h:zqT d e=some b):∃a ov,y=.ref a/\zh8 w.H a x ov/\ov.isSome=b:=by
 unfold zqT at h;split at h
 ·rename_i k ds;split at h
  ·rename_i ho;cases h;obtain ⟨a,kvs,rfl,ea,ra⟩:=hy.dicI;obtain rfl:=hx.strI;refine ⟨a,_,rfl,.inl ⟨kvs,.inr k,ea,rfl,rfl⟩,?_⟩
   rcases zcm k ra ho with ⟨h1,h2⟩ | ⟨_,_,h1,h2,_⟩<;>rw [h1,h2]<;>rfl
  ·cases h
 ·cases h
theorem zuz(hK:X.K=cl.K)(hu:X.A.units+64<cLine):OpD X cl (compareOp .In) inD:=by
 intro pins s σ H x y v u Q I rx ry h;obtain ⟨w,d,e,r,rfl,hx,hy,hg,q⟩:=h;unfold inD at hg;split at hg
 ·rename_i l hl;split at hg
  ·rename_i hf;cases hg;rw [yaa] at hf;obtain ⟨bs,rb⟩:=zgy I hK hx hf.1 rx
   rcases zkb hl with rfl | rfl
   ·obtain ⟨a,xs,rfl,e,rs⟩:=hy.lstI;cases ry;obtain ⟨its,rv,p,_⟩:=I.list (SqL.of (K:=X.K) e);obtain ⟨as,ra⟩:=zdp I hK rs hf.2 rv;refine SeqAt.in_listAt _ p.isList (zb2 hu rb hf.1 ra hf.2) ?_;rw [zdo ra hf.2];exact ⟨.bl _,w.H,I,rfl,q _ w (Grow.refl _) (.bl _)⟩
   ·obtain ⟨a,xs,rfl,e,_,rs⟩:=hy.tupI;cases ry;obtain ⟨its,rv,p,_⟩:=I.tuple (SqT.of (K:=X.K) e);obtain ⟨as,ra⟩:=zdp I hK rs hf.2 rv;refine SeqAt.in_tupleAt _ p (zb2 hu rb hf.1 ra hf.2) ?_;rw [zdo ra hf.2];exact ⟨.bl _,w.H,I,rfl,q _ w (Grow.refl _) (.bl _)⟩
  ·cases hg
 ·obtain ⟨b,hb,hg⟩:=yap.mp hg;subst hg;obtain ⟨a,ov,rfl,g,rfl⟩:=zn8 hx hy hb;cases ry;exact zwx (by omega) I g rx fun s' I'=>⟨.bl _,w.H,I',rfl,q _ w (Grow.refl _) (.bl _)⟩
def zsh(hK:X.K=cl.K)(hu:X.A.units+64<cLine):OpD X cl (compareOp .NotIn) ziG:=by
 intro pins s σ H x y v u Q I rx ry h;obtain ⟨w,d,e,r,rfl,hx,hy,hg,q⟩:=h;unfold ziG at hg;split at hg
 ·rename_i l hl;split at hg
  ·rename_i hf;cases hg;rw [yaa] at hf;obtain ⟨bs,rb⟩:=zgy I hK hx hf.1 rx
   rcases zkb hl with rfl | rfl
   ·obtain ⟨a,xs,rfl,e,rs⟩:=hy.lstI;cases ry;obtain ⟨its,rv,p,_⟩:=I.list (SqL.of (K:=X.K) e);obtain ⟨as,ra⟩:=zdp I hK rs hf.2 rv;refine SeqAt.notIn_listAt _ p.isList (zb2 hu rb hf.1 ra hf.2) ?_;rw [zdo ra hf.2];exact ⟨.bl _,w.H,I,rfl,q _ w (Grow.refl _) (.bl _)⟩
   ·obtain ⟨a,xs,rfl,e,_,rs⟩:=hy.tupI;cases ry;obtain ⟨its,rv,p,_⟩:=I.tuple (SqT.of (K:=X.K) e);obtain ⟨as,ra⟩:=zdp I hK rs hf.2 rv;refine SeqAt.notIn_tupleAt _ p (zb2 hu rb hf.1 ra hf.2) ?_;rw [zdo ra hf.2];exact ⟨.bl _,w.H,I,rfl,q _ w (Grow.refl _) (.bl _)⟩
  ·cases hg
 ·obtain ⟨b,hb,hg⟩:=yap.mp hg;subst hg;obtain ⟨a,ov,rfl,g,rfl⟩:=zn8 hx hy hb;cases ry;exact zlz (by omega) I g rx fun s' I'=>⟨.bl _,w.H,I',rfl,q _ w (Grow.refl _) (.bl _)⟩
def zb8:D->D->Option D
 | .int i,.int j=>some (.int (i+j))
 | .tup a,.tup b=>if zaK (a.length+b.length) then some (.tup (a++b)) else none
 | .lst a,.lst b=>if zaK (a.length+b.length) then some (.lst (a++b)) else none
 | .str a,.str b=>if zaK (a.length+b.length) then some (.str (a++b)) else none
 | _,_=>none
def znZ:OpD X cl (binaryOp .Add) zb8:=by
 intro pins s σ H x y v u Q I rx ry h;obtain ⟨w,d,e,r,rfl,hx,hy,hg,q⟩:=h;unfold zb8 at hg;split at hg
 ·cases hg;rename_i i j;obtain rfl:=hx.intI;obtain rfl:=hy.intI;exact zsd pins s σ w.H _ _ v u Q I rx ry ⟨i,j,rfl,rfl,q _ w (Grow.refl _) (.int _)⟩
 ·rename_i a b;split at hg
  ·rename_i hz;cases hg;obtain ⟨p,xs,rfl,ep,kp,rs⟩:=hx.tupI;obtain ⟨p2,ys,rfl,ep2,kp2,rs2⟩:=hy.tupI
   by_cases hxe:xs=[]
   ·subst hxe;cases rs;exact zmG pins s σ w.H _ _ v u Q I rx ry ⟨p,p2,ys,rfl,rfl,SqT.of ep,SqT.of ep2,q _ w (Grow.refl _) (.tup ep2 kp2 rs2)⟩
   ·refine zpE pins s σ w.H _ _ v u Q I rx ry ⟨p,p2,xs,ys,rfl,rfl,SqT.of ep,SqT.of ep2,hxe,by rw [rs.length,rs2.length];exact za5 hz,fun z=>?_,fun z l hl=>?_⟩
    ·subst z;cases rs2;rw [yaQ] at q;exact q _ w (Grow.refl _) (.tup ep kp rs)
    ·exact q _ (w.add l _) (zaH hl _) (Shd.newT hl (rs.append rs2))
  ·cases hg
 ·rename_i a b;split at hg
  ·rename_i hz;cases hg;obtain ⟨p,xs,rfl,ep,rs⟩:=hx.lstI;obtain ⟨p2,ys,rfl,ep2,rs2⟩:=hy.lstI;exact zsc pins s σ w.H _ _ v u Q I rx ry ⟨p,p2,xs,ys,rfl,rfl,ep,ep2,by rw [rs.length,rs2.length];exact za5 hz,fun l hl=>q _ (w.add l _) (zaH hl _) (Shd.newL hl (rs.append rs2))⟩
  ·cases hg
 ·rename_i a b;split at hg
  ·rename_i hz;cases hg;obtain rfl:=hx.strI;obtain rfl:=hy.strI;exact zjq pins s σ w.H _ _ v u Q I rx ry ⟨a,b,rfl,rfl,za5 hz,q _ w (Grow.refl _) (.str _)⟩
  ·cases hg
 ·cases hg
noncomputable def zqO:D->D->Option D | .int i,.int j=>some (.int (i-j)) | _,_=>none
def zsg:OpD X cl (binaryOp .Sub) zqO:=by
 intro pins s σ H x y v u Q I rx ry h;obtain ⟨w,d,e,r,rfl,hx,hy,hg,q⟩:=h;unfold zqO at hg;split at hg
 ·cases hg;rename_i i j;obtain rfl:=hx.intI;obtain rfl:=hy.intI;exact zr6 pins s σ w.H _ _ v u Q I rx ry ⟨i,j,rfl,rfl,q _ w (Grow.refl _) (.int _)⟩
 ·cases hg
noncomputable def zb3(i:Int):Bool:=decide (-(2 ^ 64)<i/\i<2 ^ 64)
def ziH:D->D->Option D
 | .int i,.int j=>if zb3 i||zb3 j then some (.int (i*j)) else none
 | _,_=>none
theorem zsj:OpD X cl (binaryOp .Mult) ziH:=by
 intro pins s σ H x y v u Q I rx ry h;obtain ⟨w,d,e,r,rfl,hx,hy,hg,q⟩:=h;unfold ziH at hg;split at hg
 ·rename_i i j;split at hg
  ·rename_i hz;cases hg;obtain rfl:=hx.intI;obtain rfl:=hy.intI;refine zr8 pins s σ w.H _ _ v u Q I rx ry ⟨i,j,rfl,rfl,?_,q _ w (Grow.refl _) (.int _)⟩;rw [ycB] at hz;exact hz.imp (fun z=>yaj z) fun z=>yaj z
  ·cases hg
 ·cases hg
noncomputable def zn1:D->D->Option D | .int i,.int j=>if 0<j then some (.int (i % j)) else none | _,_=>none
noncomputable def zs7:D->D->Option D | .int i,.int j=>if 0<j/\j<1073741824 then some (.int (i / j)) else none | _,_=>none
def zsk:OpD X cl (binaryOp .Mod) zn1:=by
 intro pins s σ H x y v u Q I rx ry h;obtain ⟨w,d,e,r,rfl,hx,hy,hg,q⟩:=h;unfold zn1 at hg;split at hg
 ·rename_i i j;split at hg
  ·rename_i hz;cases hg;obtain rfl:=hx.intI;obtain rfl:=hy.intI;exact zr9 pins s σ w.H _ _ v u Q I rx ry ⟨i,j,rfl,rfl,hz,q _ w (Grow.refl _) (.int _)⟩
  ·cases hg
 ·cases hg
def zsn:OpD X cl (binaryOp .FloorDiv) zs7:=by
 intro pins s σ H x y v u Q I rx ry h;obtain ⟨w,d,e,r,rfl,hx,hy,hg,q⟩:=h;unfold zs7 at hg;split at hg
 ·rename_i i j;split at hg
  ·rename_i hz;cases hg;obtain rfl:=hx.intI;obtain rfl:=hy.intI;exact zpD pins s σ w.H _ _ v u Q I rx ry ⟨i,j,rfl,rfl,hz,q _ w (Grow.refl _) (.int _)⟩
  ·cases hg
 ·cases hg
noncomputable def zmK:D->Option D | .int i=>some (.int (-i)) | _=>none
def zq0:UnD X cl (unaryOp .USub) zmK:=by
 intro pins s σ H x v Q I rx h;obtain ⟨w,d,r,rfl,hx,hg,q⟩:=h;unfold zmK at hg;split at hg
 ·cases hg;rename_i i;obtain rfl:=hx.intI;exact zqZ pins s σ w.H _ v Q I rx ⟨i,rfl,q _ w (Grow.refl _) (.int _)⟩
 ·cases hg
noncomputable def zqV(p:Int->Int->Bool):D->D->Option D | .int i,.int j=>some (.bl (p i j)) | _,_=>none
def zfM(ho:OpR X (compareOp op) (rI0 fun i j=>.bl (p i j))):OpD X cl (compareOp op) (zqV p):=by
 intro pins s σ H x y v u Q I rx ry h;obtain ⟨w,d,e,r,rfl,hx,hy,hg,q⟩:=h;unfold zqV at hg;split at hg
 ·cases hg;rename_i i j;obtain rfl:=hx.intI;obtain rfl:=hy.intI;exact ho pins s σ w.H _ _ v u Q I rx ry ⟨i,j,rfl,rfl,q _ w (Grow.refl _) (.bl _)⟩
 ·cases hg
noncomputable def zuF:D->D->Option D
 | .str a,.str b=>some (.bl (!decide (b.cps.toList<a.cps.toList)))
 | d,e=>zqV (fun i j=>decide (i<=j)) d e
def zsl:OpD X cl (compareOp .LtE) zuF:=by
 intro pins s σ H x y v u Q I rx ry h;obtain ⟨w,d,e,r,rfl,hx,hy,hg,q⟩:=h;unfold zuF at hg;split at hg
 ·cases hg;rename_i a b;obtain rfl:=hx.strI;obtain rfl:=hy.strI;exact zsa pins s σ w.H _ _ v u Q I rx ry ⟨a,b,rfl,rfl,q _ w (Grow.refl _) (.bl _)⟩
 ·exact zfM zuw pins s σ w.H _ _ v u Q I rx ry ⟨w,_,_,r,rfl,hx,hy,hg,q⟩
noncomputable def zcu:D->Bool | .non=>true | _=>false
def zlT(d e:D):Option D:=if zcu e then some (.bl (zcu d)) else none
def TopV.non_iff(h:TopV cl w v d):decide (v=.non)=zcu d:=by
 cases h with
 | sh h=>cases h<;>simp [zcu]
 | ow e t=>cases t<;>simp [zcu]
def zcX(h:zcu d=true):d=.non:=by cases d<;>simp [zcu] at h;rfl
def zsm:OpD X cl (compareOp .Is) zlT:=by
 intro pins s σ H x y v u Q I rx ry h;obtain ⟨w,d,e,r,rfl,hx,hy,hg,q⟩:=h;unfold zlT at hg;split at hg
 ·rename_i hz;cases hg;rw [zcX hz] at hy;obtain rfl:=hy.nonI;refine zsb pins s σ w.H _ _ v u Q I rx ry ⟨rfl,?_⟩;rw [hx.non_iff];exact q _ w (Grow.refl _) (.bl _)
 ·cases hg
def ixD:D->D->Option D
 | .lst l,.int i=>atI l i
 | .tup l,.int i=>atI l i
 | .scr l,.int i=>(atI l i).map D.int
 | .dic ds,.str k=>if zai ds then zae k ds else none
 | _,_=>none
def ziq(r:Shds cl w xs ds)(h:atI ds i=some d):∃v,atI xs i=some v/\Shd cl w v d:=by
 unfold atI at h ⊢;rw [r.length]
 cases e:ixN ds.length i with
 | none=>rw [e] at h;cases h
 | some j =>
  rw [e] at h;exact r.at h
def zp3(hu:X.A.units+64<cLine):IxR X fun x y H Q=>∃a z,x=.ref a/\zh8 H a y (some z)/\Q z H:=by
 intro value slice pins s σ H x y v u Q I rx ry h hs;obtain ⟨a,z,rfl,g,q⟩:=h;cases rx;have hT:=zeP I g;unfold subscriptTail;refine yab ?_;rw [getitemInPython_of_ne hT.not_modules];refine yab (wpAny_specialOf hT PySem.F.slot_dict_getitem.lookup ?_)
 have fin:wpAny (model X.prog X.w) X.A (subscripted slice false (.ref a) u) (fun r s₃=>wpAny (model X.prog X.w) X.A (letTemporaryGo value (.ref a) r >>= fun _=>pure r) (EP X pins σ Q) X.xe s₃) X.xe s:=by
  rw [hs];exact wpAny_operating (zg4 (by omega) I g ry fun w' s3 I3 rw'=>yab (wpAny_letTemporaryGo (yam ⟨z,H,I3,rw',q⟩)))
 first
  | exact yam (yab fin)
  | exact yab (yam (yab fin))
  | exact yab fin
def zsT(hK:X.K=cl.K)(hu:X.A.units+64<cLine):IxD X cl ixD:=by
 intro value slice pins s σ H x y v u Q I rx ry h hsub;obtain ⟨w,d,e,r,rfl,hx,hy,hg,q⟩:=h;unfold ixD at hg;split at hg
 ·rename_i l i;obtain ⟨p,xs,rfl,ep,rs⟩:=hx.lstI;obtain rfl:=hy.intI;obtain ⟨z,e1,e2⟩:=ziq rs hg;exact zk5 value slice pins s σ w.H _ _ v u Q I rx ry ⟨p,xs,i,z,rfl,rfl,SqL.of ep,e1,q _ w (Grow.refl _) e2⟩ hsub
 ·rename_i l i;obtain ⟨p,xs,rfl,ep,_,rs⟩:=hx.tupI;obtain rfl:=hy.intI;obtain ⟨z,e1,e2⟩:=ziq rs hg;exact zsN value slice pins s σ w.H _ _ v u Q I rx ry ⟨p,xs,i,z,rfl,rfl,SqT.of ep,e1,q _ w (Grow.refl _) e2⟩ hsub
 ·rename_i l i;obtain ⟨p,rfl,ep⟩:=hx.scrI hK;obtain rfl:=hy.intI
  cases hl:atI l i with
  | none=>rw [hl] at hg;cases hg
  | some k =>
   rw [hl] at hg;cases hg
   have e1:atI (l.map V.int) i=some (.int k):=by
    unfold atI at hl ⊢;rw [yad]
    cases e:ixN l.length i with
    | none=>rw [e] at hl;cases hl
    | some j =>
     rw [e] at hl;have hl':l[j]?=some k:=hl;show (l.map V.int)[j]?=_;rw [yao,hl'];rfl
   exact zk5 value slice pins s σ w.H _ _ v u Q I rx ry ⟨p,_,i,_,rfl,rfl,ep,e1,q _ w (Grow.refl _) (.int _)⟩ hsub
 ·rename_i ds k;split at hg
  ·rename_i ho;obtain ⟨a,kvs,rfl,ea,ra⟩:=hx.dicI;obtain rfl:=hy.strI
   rcases zcm k ra ho with ⟨_,h2⟩ | ⟨z,d',h1,h2,h3⟩
   ·rw [h2] at hg;cases hg
   ·rw [h2] at hg;cases hg;exact zp3 hu value slice pins s σ w.H _ _ v u Q I rx ry ⟨a,z,rfl,.inl ⟨kvs,.inr k,ea,rfl,h1.symm⟩,q _ w (Grow.refl _) h3⟩ hsub
  ·cases hg
 ·cases hg
def zcO:List D->Option D
 | [.lst l]=>some (.int l.length)
 | [.tup l]=>some (.int l.length)
 | [.scr l]=>some (.int l.length)
 | [.str x]=>if zaK x.length then some (.int x.length) else none
 | _=>none
def ztd(hK:X.K=cl.K):zjP X cl (.builtin "len") zcO:=by
 intro pins s σ H xs us Q I r h;obtain ⟨w,ds,d,rfl,hx,hg,q⟩:=h;unfold zcO at hg;split at hg
 ·rename_i l;cases hg
  cases hx with
  | cons h1 h2 =>
   cases h2;obtain ⟨p,ys,rfl,ep,rs⟩:=h1.lstI;refine zcg pins s σ w.H _ us Q I r ⟨p,ys,rfl,.inl (SqL.of ep),?_⟩;rw [rs.length];exact q _ w (Grow.refl _) (.int _)
 ·rename_i l;cases hg
  cases hx with
  | cons h1 h2 =>
   cases h2;obtain ⟨p,ys,rfl,ep,_,rs⟩:=h1.tupI;refine zcg pins s σ w.H _ us Q I r ⟨p,ys,rfl,.inr (SqT.of ep),?_⟩;rw [rs.length];exact q _ w (Grow.refl _) (.int _)
 ·rename_i l;cases hg
  cases hx with
  | cons h1 h2 =>
   cases h2;obtain ⟨p,rfl,ep⟩:=h1.scrI hK;refine zcg pins s σ w.H _ us Q I r ⟨p,l.map V.int,rfl,.inl ep,?_⟩;rw [yad];exact q _ w (Grow.refl _) (.int _)
 ·rename_i x;split at hg
  ·rename_i hz;cases hg
   cases hx with
   | cons h1 h2 =>
    cases h2;obtain rfl:=h1.strI;exact zha pins s σ w.H _ us Q I r ⟨x,rfl,za5 hz,q _ w (Grow.refl _) (.int _)⟩
  ·cases hg
 ·cases hg
noncomputable def zcQ:List D->Option D
 | [.lst l]=>some (.tup l)
 | [.tup l]=>some (.tup l)
 | _=>none
def znl:zjP X cl (.type "tuple") zcQ:=by
 intro pins s σ H xs us Q I r h;obtain ⟨w,ds,d,rfl,hx,hg,q⟩:=h;unfold zcQ at hg;split at hg
 ·rename_i l;cases hg
  cases hx with
  | cons h1 h2 =>
   cases h2;obtain ⟨p,ys,rfl,ep,rs⟩:=h1.lstI;exact zdP pins s σ w.H _ us Q I r ⟨p,ys,rfl,.inl ⟨SqL.of ep,fun l hl=>q _ (w.add l _) (zaH hl _) (Shd.newT hl rs)⟩⟩
 ·rename_i l;cases hg
  cases hx with
  | cons h1 h2 =>
   cases h2;obtain ⟨p,ys,rfl,ep,kp,rs⟩:=h1.tupI;exact zdP pins s σ w.H _ us Q I r ⟨p,ys,rfl,.inr ⟨SqT.of ep,q _ w (Grow.refl _) (.tup ep kp rs)⟩⟩
 ·cases hg
noncomputable def zgb:List D->Option (List Bool)
 | []=>some []
 | .bl b::l=>(zgb l).map (b::·)
 | _=>none
def znt:∀{xs:List V},Shds cl w xs ds->zgb ds=some bs->xs=bs.map V.bl:=by
 induction ds generalizing bs with
 | nil=>intro xs r h;cases r;cases h;rfl
 | cons d ds ih =>
  intro xs r e
  cases r with
  | cons h t =>
   cases d with
   | bl b =>
    cases h;unfold zgb at e
    cases hr:zgb ds with
    | none=>rw [hr] at e;cases e
    | some cs=>rw [hr] at e;cases e;rw [ih t hr];rfl
   | _=>cases e
def zlV:List D->Option D
 | [.lst l]=>(zgb l).map fun bs=>.bl (bs.all id)
 | _=>none
def ztf(hc:X.calm=true):zjP X cl (.builtin "all") zlV:=by
 intro pins s σ H xs us Q I r h;obtain ⟨w,ds,d,rfl,hx,hg,q⟩:=h;unfold zlV at hg;split at hg
 ·rename_i l
  cases hb:zgb l with
  | none=>rw [hb] at hg;cases hg
  | some bs =>
   rw [hb] at hg;cases hg
   cases hx with
   | cons h1 h2 =>
    cases h2;obtain ⟨p,ys,rfl,ep,rs⟩:=h1.lstI;obtain rfl:=znt rs hb;exact zh1 hc pins s σ w.H _ us Q I r ⟨p,bs,rfl,SqL.of ep,q _ w (Grow.refl _) (.bl _)⟩
 ·cases hg
noncomputable def zd8:List D->Option (List Int)
 | []=>some []
 | .int b::l=>(zd8 l).map (b::·)
 | _=>none
def zk9:∀{xs:List V},Shds cl w xs ds->zd8 ds=some bs->xs=bs.map V.int:=by
 induction ds generalizing bs with
 | nil=>intro xs r h;cases r;cases h;rfl
 | cons d ds ih =>
  intro xs r e
  cases r with
  | cons h t =>
   cases d with
   | int b =>
    cases h;unfold zd8 at e
    cases hr:zd8 ds with
    | none=>rw [hr] at e;cases e
    | some cs=>rw [hr] at e;cases e;rw [ih t hr];rfl
   | _=>cases e
end
end S2
namespace L2
open PySem PySem.Spec PyProof.Rows
def Itk(a:Addr)(ob:Obj)(kvs:List (Key×V)):It:=⟨fun i H=>H a=some (.frz ob (.dK kvs))/\i<kvs.length,fun i H v H'=>H'=H/\∃x,(kvs.map (·.1))[i]?=some (.inr x)/\v=.str x,fun i H=>H a=some (.frz ob (.dK kvs))/\i=kvs.length⟩
def zpW{P:Program}{w:World}{x:Str}{v:Value}(h:(zaB P w).is (.inr x) v=true):∃t,v=.str x t:=by
 have h':Value.isStrOf x v=true:=h
 cases v<;>first | (cases h';done) | skip
 rename_i y t
 have e:y=x:=by simpa [Value.isStrOf] using h'
 exact ⟨t,by rw [e]⟩
def zn9{X:Cx}{pins:Z3}{σ:St}{H:Hp}{s:Shared}{a:Addr}{ob:Obj}{kvs:List (Key×V)}{es:Array DictEntry}{ep:Nat}(I:Inv X pins σ H s)(e:H a=some (.frz ob (.dK kvs)))(hd:ob.data=.dict es ep):∃vs,KV kvs vs/\s.heap.DictAt (zaB X.prog X.w) a vs ep:=by
 obtain ⟨g,x⟩:=(show zaY X.prog X.w H s.heap a (.frz ob (.dK kvs)) from I.hok a _ e);obtain ⟨_,_,vs,r,o',es',ep',g',c,d,zbD⟩:=(show zaY X.prog X.w H s.heap a (.dK kvs) from x);rw [g] at g';cases g';rw [hd] at d;cases d;exact ⟨vs,r,ob,es,g,c,hd,zbD⟩
def zjY{P:Program}{w:World}{K:PySem.W.Frag}{tg:Expr}(it a:Addr)(ob:Obj)(kvs:List (Key×V))(es:Array DictEntry)(ep:Nat)(hd:ob.data=.dict es ep)(ks:List Str)(hks:kvs.map (·.1)=ks.map Sum.inr):Turn P w K tg (Itk a ob kvs) [it] it (fun i h=>h.IsKeyIter it a i kvs.length ep) where
 mem:=by simp
 obj:=fun i h st b hb=>by
  have e:b=it:=by simpa using hb
  subst e;obtain ⟨o,e,c,d⟩:=st;exact ⟨o,e,fun v z=>by rw [d] at z;cases z⟩
 keep:=fun i h h' st k=>by
  obtain ⟨o,e,r⟩:=st;exact ⟨o,k it (by simp) o e,r⟩
 item:=by
  intro X hP hw hK hc i pins s σ H E I hf st hg;subst hP hw hK;obtain ⟨f0,f1,f2,f3,f4,f5⟩:=hf it (by simp);obtain ⟨vs,r,da⟩:=zn9 I hg.1 hd
  have hne:a≠it:=fun z=>by have h1:H a=_:=hg.1;rw [z,f0] at h1;cases h1
  have st':s.heap.IsKeyIter it a i vs.length ep:=by rw [<-r.length];exact st
  refine (Walks.dictKeys (I.ok.hd hc) it a hne vs ep).item i s _ _ (by rw [<-r.length];exact hg.2) ⟨st',da⟩ fun v h' tk hv st2 kk=>?_
  obtain ⟨k,x,hx,hk⟩:=hv;have I1:Inv X pins σ H { s with heap:=h',toks:=tk }:=I.turned (fun b o hb e=>kk b o (by simpa using hb) e) f0 f1 f3 f4 f5
  have hki:(kvs.map (·.1))[i]?=some k:=by rw [r.keys,yao,hx];rfl
  have hki':=hki;rw [hks,yao] at hki';obtain ⟨y,hy,ek⟩:=yap.mp hki';subst ek;have st3:=st2.1;rw [<-r.length] at st3;obtain ⟨o,e,c',d⟩:=id st3;exact ⟨_,rfl,zlh (s:={ s with heap:=h',toks:=tk }) e c' d (by decide) ⟨.str y,H,I1,zpW hk,⟨rfl,y,hki,rfl⟩,st3,fun b hb=>(hf b hb).1⟩⟩
 done:=by
  intro X hP hw hK hc i pins s σ H E I hf st hg;subst hP hw hK;obtain ⟨f0,f1,f2,f3,f4,f5⟩:=hf it (by simp);obtain ⟨vs,r,da⟩:=zn9 I hg.1 hd
  have hne:a≠it:=fun z=>by have h1:H a=_:=hg.1;rw [z,f0] at h1;cases h1
  have hi:i=vs.length:=by rw [<-r.length];exact hg.2
  have st':s.heap.IsKeyIter it a vs.length vs.length ep:=by
   have:=st;rwa [r.length,hi] at this
  exact (Walks.dictKeys (I.ok.hd hc) it a hne vs ep).done s _ _ ⟨st',da⟩ fun h' tk kk=>⟨rfl,I.turned (fun b o hb e=>kk b o (by simpa using hb) e) f0 f1 f3 f4 f5⟩
 self:=fun A i s Q E st h=>wpAny_pyIter_keyiter st h
noncomputable def zxN(tl:TE):TI:=fun σ H R=>tl σ H fun v H1=>∃a ob kvs,v=.ref a/\H1 a=some (.frz ob (.dK kvs))/\(∃ks:List Str,kvs.map (·.1)=ks.map Sum.inr)/\R (Itk a ob kvs) H1
def zps{X:Cx}{tg l:Expr}{tl:TE}(hl:PE X l tl):PI X tg l (zxN tl):=by
 intro pins s σ H R I h;refine thn (hl pins s σ H _ I h) fun v s1 ⟨x,H1,I1,r1,q1⟩=>?_
 obtain ⟨a,ob,kvs,e,ha,⟨ks,hks⟩,q⟩:=q1;subst e;cases r1;obtain ⟨g,x⟩:=(show zaY X.prog X.w H1 s1.heap a (.frz ob (.dK kvs)) from I1.hok a _ ha);obtain ⟨_,z,vs,r,o',es,ep,g',c,d,zbD⟩:=(show zaY X.prog X.w H1 s1.heap a (.dK kvs) from x)
 have eo:o'=ob:=by rw [g] at g';cases g';rfl
 subst eo;have da:s1.heap.DictAt (zaB X.prog X.w) a vs ep:=⟨o',es,g,c,d,zbD⟩;refine wpAny_pyIter_dict z da ?_;refine ⟨s1.heap.objs.size,[s1.heap.objs.size],_,_,H1,rfl,I1.kept (t':=s1.toks) fun b o e=>yae _ e,zjY _ a o' kvs es ep d ks hks,?_,fun b hb=>?_,q⟩
 ·rw [r.length];exact ⟨_,yaq _ rfl,rfl,rfl⟩
 ·have e:b=s1.heap.objs.size:=by simpa using hb
  subst e;exact I1.fpOk (yag _) (I1.hok.fresh (yag _))
theorem zfZ{α β:Type}{f g:α->Option β}:∀{l:List α},(∀x∈l,f x=g x)->l.filterMap f=l.filterMap g
 | [],_=>rfl
 | x::l,h=>by
  have:=zfZ fun y hy=>h y (.tail x hy)
  rw [ybe,ybe,h x (.head _),this]
theorem ziV{α:Type}(l:List α):∀n,n<=l.length->(List.range n).filterMap (fun k=>l[k]?)=l.take n
 | 0,_=>rfl
 | n+1,h=>by
  rw [ycC,List.filterMap_append,ziV l n (by omega),List.take_add_one]
  cases h2:l[n]? with
  | none=>rw [List.getElem?_eq_none_iff] at h2;omega
  | some x=>simp [h2]
def zms(its:List Value):slicePick its.toArray none none (some (-1))=its.reverse.toArray:=by
 unfold slicePick
 have e:sliceBounds none none (some (-1)) its.toArray.size=((its.length:Int)-1,-1,-1):=by simp [sliceBounds]
 rw [e];congr 1;unfold sliceRange;dsimp only
 have hc:(if (-1:Int) > 0 then (if (its.length:Int)-1 < -1 then (-1-((its.length:Int)-1)+-1-1) / -1 else 0) else (if (its.length:Int)-1 > -1 then ((its.length:Int)-1 - -1 - -1-1) / (- -1) else 0)).toNat=its.length:=by
  rw [if_neg (by decide)];split
  ·have:((its.length:Int)-1 - -1 - -1-1) / (- -1)=(its.length:Int):=by
    rw [show (- -1:Int)=1 by decide,Int.ediv_one];omega
   rw [this];simp
  ·have:its.length=0:=by omega
   rw [this];rfl
 rw [hc,List.filterMap_map]
 have h1:((List.range its.length).filterMap ((fun k=>its.toArray[k]?)∘fun k:Nat=>((its.length:Int)-1+-1*(k:Int)).toNat))=(List.range its.length).filterMap fun k=>its[its.length-1-k]?:=by
  apply zfZ;intro k _;show its.toArray[((its.length:Int)-1+-1*(k:Int)).toNat]?=_
  have:((its.length:Int)-1+-1*(k:Int)).toNat=its.length-1-k:=by omega
  rw [this];simp
 rw [h1]
 have h2:(List.range its.length).filterMap (fun k=>its[its.length-1-k]?)=its.reverse:=by
  have:(List.range its.length).filterMap (fun k=>its[its.length-1-k]?)=(List.range its.length).filterMap fun k=>its.reverse[k]?:=by
   apply zfZ;intro k hk;rw [List.getElem?_reverse (ybB.mp hk)]
  rw [this]
  have e2:its.length=its.reverse.length:=by simp
  rw [e2];rw [ziV its.reverse _ (yag _),List.take_length]
 rw [h2]
section
variable{X:Cx}{e st:Expr}{te ts:TE}{pos p2:Pos}
def zmu(he:PE X e te)(hst:PE X st ts):PE X (.Subscript e (.Slice none none (some st) p2) pos) (fun σ H Q=>te σ H fun x H1=>ts σ H1 fun y H2=>y=.int (-1)/\∃a xs,x=.ref a/\SqL X.K H2 a xs/\∀p,H2 p=none->Q (.ref p) (upd H2 p (.lst xs.reverse))):=by
 intro pins s σ H Q I h;refine Subscript_ (thn (he pins s σ H _ I h) fun v s1 ⟨x,H1,I1,r1,q1⟩=>?_);refine wpAny_Slice ?_;rw [evalPart_none];refine yam (yam ?_);rw [evalPart_some];refine thn (hst pins s1 σ H1 _ I1 q1) fun u s3 ⟨y,H3,I3,r3,q3⟩=>?_
 obtain ⟨rfl,a,xs,rfl,hx,q⟩:=q3;obtain ⟨t,rfl⟩:=r3;cases r1;have I4:Inv X pins σ H3 { s3 with heap:=s3.heap.push { cls:=.type "slice",data:=.fields #[.none,.none,.int (-1) t] } }:=I3.kept (t':=s3.toks) fun b ob q=>yae _ q
 obtain ⟨its,r,ht,hz⟩:=I4.list hx;have hlen:=r.length;show wpAny (model X.prog X.w) X.A (subscriptTail e (.Slice none none (some st) p2) (.ref a) (.ref s3.heap.objs.size)) (EP X pins σ Q) X.xe { s3 with heap:=s3.heap.push { cls:=.type "slice",data:=.fields #[.none,.none,.int (-1) t] } };refine tail_any (ops:=[.ref a,.ref s3.heap.objs.size]) ht.isList.typeIs slot_list_getitem.lookup ?_ (by with_unfolding_all rfl);refine wpAny_getItem_list_slice ht.isList (Heap.IsSliceOf.new ..) .none .none (.int (-1) t) (by decide) ?_ (by rw [yak]<;>omega);rw [zms];refine ⟨.ref _,_,I4.laid (t':=s3.toks) (o:=.lst xs.reverse) (fun b ob q=>yae _ q) (yag _) ?_,rfl,q _ (I4.hok.fresh (yag _))⟩;exact ⟨by rw [ycD];exact hz,_,0,r.reverse,yaq _ rfl⟩
end
end L2
namespace S2
open PySem PySem.Spec PyProof.Rows L2
def zc5(g g':D->D->Option D)(f h k:Fe):Fe:=fun ρ S=>(f ρ S).bind fun a S1=>(h ρ S1).bind fun b S2=>match (g a b).bind isB with
 | some true=>(k ρ S2).bind fun c S3=>Out.of (g' b c) S3
 | some false=>.ok (.bl false) S2
 | none=>.bad
section
variable{X:Cx}{cl:Cf}{E:St->XK}{a b c e:Expr}{f h k:Fe}{pos:Pos}
def zik(hr:∀x y H Q,(∃w d e r,w.H=H/\TopV cl w x d/\TopV cl w y e/\g d e=some r/\∀v w',Grow w w'->Shd cl w' v r->Q v w'.H)->r x y H Q)
  (hr':∀x y H Q,(∃w d e r,w.H=H/\TopV cl w x d/\TopV cl w y e/\g' d e=some r/\∀v w',Grow w w'->Shd cl w' v r->Q v w'.H)->r' x y H Q) (q:tE cl E (zc5 g g' f h k) σ H Q):zj4 r r' (tH cl E f) (tH cl E h) (tH cl E k) σ H Q:=by
 obtain ⟨B,w,ρ,S,rfl,R,q⟩:=q;refine ⟨B,w,ρ,S,rfl,R,?_⟩;unfold zc5 at q
 cases hf:f ρ S with
 | bad=>rwa [hf] at q
 | exc c S1=>rwa [hf] at q
 | ok d S1 =>
  rw [hf] at q;intro v w1 R1 F1 h1;refine ⟨B,w1,ρ,S1,rfl,R1,?_⟩;dsimp only [Out.bind] at q
  cases hh:h ρ S1 with
  | bad=>rwa [hh] at q
  | exc c S2=>rw [hh] at q;exact fun w2 R2 F2=>q w2 R2 (F1.trans F2)
  | ok e S2 =>
   rw [hh] at q;intro y w2 R2 F2 h2;dsimp only at q
   cases hg:g d e with
   | none=>rw [hg] at q;exact q.elim
   | some z =>
    rw [hg] at q;dsimp only [Option.bind] at q
    cases hb:isB z with
    | none=>rw [hb] at q;exact q.elim
    | some bb =>
     rw [hb] at q;rw [zdh hb] at hg;refine hr _ _ _ _ ⟨w2,d,e,_,rfl,(h1.up F2).top R2,h2.top R2,hg,fun v' w3 gr sh=>⟨bb,zgs sh,?_⟩⟩;have R3:=R2.grow gr
     cases bb with
     | false=>exact zn5 (q _ w3 R3 (F1.trans (F2.trans gr.fut)) (.bl _))
     | true =>
      refine zn4 ⟨B,w3,ρ,S2,rfl,R3,?_⟩;dsimp only at q
      cases hk:k ρ S2 with
      | bad=>rwa [hk] at q
      | exc c S3=>rw [hk] at q;exact fun w4 R4 F4=>q w4 R4 (F1.trans (F2.trans (gr.fut.trans F4)))
      | ok c S3 =>
       rw [hk] at q;intro z' w4 R4 F4 h4;dsimp only at q
       cases hg':g' e c with
       | none=>rw [hg'] at q;exact q.elim
       | some r2 =>
        rw [hg'] at q;exact hr' _ _ _ _ ⟨w4,e,c,r2,rfl,(h2.up (gr.fut.trans F4)).top R4,h4.top R4,hg',fun v' w5 gr5 sh5=>q v' w5 (R4.grow gr5) (F1.trans (F2.trans (gr.fut.trans (F4.trans gr5.fut)))) sh5⟩
def zl7(ho:OpD X cl (compareOp op) g)(ho':OpD X cl (compareOp op') g')(ha:PE X a (tH cl E f))(hb:PE X b (tH cl E h))(hc:PE X c (tH cl E k))(hm:lastMarks [op,op'] [b,c]=false):PE X (.Compare a [op,op'] [b,c] pos) (tE cl E (zc5 g g' f h k)) :=
 PE.imp (zmB ho ho' ha hb hc hm) fun _ _ _ q=>zik (fun _ _ _ _ z=>z) (fun _ _ _ _ z=>z) q
def zl3(ho:OpD X cl (compareOp op) g)(ho':OpD X cl (compareOp op') g')(ha:PE X a (tH cl E f))(hb:PE X b (tH cl E h))(hc:PE X c (tH cl E k))(hm:lastMarks [op,op'] [b,c]=false):PT X (.Compare a [op,op'] [b,c] pos) (tTr cl E (zc5 g g' f h k)) :=
 PT.imp (zmm ho ho' ha hb hc hm) fun _ _ _ q=>zik (fun _ _ _ _ z=>z) (fun _ _ _ _ z=>z) (zgl q)
noncomputable def zeA(T:String)(d:D):Option D :=
 if T = "int" then (match d with | .int _=>some (.bl true) | .bl _=>some (.bl true) | .non=>some (.bl false) | .str _=>some (.bl false) | .tup _=>some (.bl false) | .lst _=>some (.bl false) | _=>none)
 else if T = "bool" then (match d with | .int _=>some (.bl false) | .bl _=>some (.bl true) | .non=>some (.bl false) | .str _=>some (.bl false) | .tup _=>some (.bl false) | .lst _=>some (.bl false) | _=>none)
 else if T = "tuple" then (match d with | .int _=>some (.bl false) | .bl _=>some (.bl false) | .non=>some (.bl false) | .str _=>some (.bl false) | .tup _=>some (.bl true) | .lst _=>some (.bl false) | _=>none)
 else if T = "str" then (match d with | .int _=>some (.bl false) | .bl _=>some (.bl false) | .non=>some (.bl false) | .str _=>some (.bl true) | .tup _=>some (.bl false) | .lst _=>some (.bl false) | _=>none)
 else none
def zdi{K:PySem.W.Frag}{t:Value}{r:D}{T:String}{b1 b2 b3 b4:Bool}(hg:(if T = "int" then some (D.bl b1) else if T = "bool" then some (.bl b2) else if T = "tuple" then some (.bl b3) else if T = "str" then some (.bl b4) else none)=some r)(k1:PySem.W.kitOne K t (.type "int")=some b1)(k2:PySem.W.kitOne K t (.type "bool")=some b2)(k3:PySem.W.kitOne K t (.type "tuple")=some b3)(k4:PySem.W.kitOne K t (.type "str")=some b4):∃b,PySem.W.kitOne K t (.type T)=some b/\r=.bl b:=by
 split at hg
 ·rename_i e;cases hg;exact ⟨b1,by rw [e];exact k1,rfl⟩
 split at hg
 ·rename_i e;cases hg;exact ⟨b2,by rw [e];exact k2,rfl⟩
 split at hg
 ·rename_i e;cases hg;exact ⟨b3,by rw [e];exact k3,rfl⟩
 split at hg
 ·rename_i e;cases hg;exact ⟨b4,by rw [e];exact k4,rfl⟩
 ·cases hg
def zqc{r:D}{T:String}(hg:(if T = "int" then none else if T = "bool" then none else if T = "tuple" then none else if T = "str" then none else none)=some r):False:=by
 simp at hg
def zqb{K:PySem.W.Frag}{w:Wd}(h:TopV cl w v d)(hg:zeA T d=some r):∃t b,TyOf K w.H v t/\PySem.W.kitOne K t (.type T)=some b/\r=.bl b:=by
 cases d with
 | int i=>obtain rfl:=h.intI;obtain ⟨b,h1,h2⟩:=zdi (K:=K) (t:=.type "int") hg (by with_unfolding_all rfl) (by with_unfolding_all rfl) (by with_unfolding_all rfl) (by with_unfolding_all rfl);exact ⟨_,b,.int _,h1,h2⟩
 | bl i=>obtain rfl:=h.blI;obtain ⟨b,h1,h2⟩:=zdi (K:=K) (t:=.type "bool") hg (by with_unfolding_all rfl) (by with_unfolding_all rfl) (by with_unfolding_all rfl) (by with_unfolding_all rfl);exact ⟨_,b,.bl _,h1,h2⟩
 | non=>obtain rfl:=h.nonI;obtain ⟨b,h1,h2⟩:=zdi (K:=K) (t:=.type "NoneType") hg (by with_unfolding_all rfl) (by with_unfolding_all rfl) (by with_unfolding_all rfl) (by with_unfolding_all rfl);exact ⟨_,b,.non,h1,h2⟩
 | str i=>obtain rfl:=h.strI;obtain ⟨b,h1,h2⟩:=zdi (K:=K) (t:=.type "str") hg (by with_unfolding_all rfl) (by with_unfolding_all rfl) (by with_unfolding_all rfl) (by with_unfolding_all rfl);exact ⟨_,b,.str _,h1,h2⟩
 | tup i=>obtain ⟨_,_,rfl,e,_⟩:=h.tupI;obtain ⟨b,h1,h2⟩:=zdi (K:=K) (t:=.type "tuple") hg (by with_unfolding_all rfl) (by with_unfolding_all rfl) (by with_unfolding_all rfl) (by with_unfolding_all rfl);exact ⟨_,b,.tup e,h1,h2⟩
 | lst i=>obtain ⟨_,_,rfl,e,_⟩:=h.lstI;obtain ⟨b,h1,h2⟩:=zdi (K:=K) (t:=.type "list") hg (by with_unfolding_all rfl) (by with_unfolding_all rfl) (by with_unfolding_all rfl) (by with_unfolding_all rfl);exact ⟨_,b,.lst e,h1,h2⟩
 | _=>exact (zqc hg).elim
theorem zhd:bootBuiltins "isinstance" = some (.builtin "isinstance"):=by decide +kernel
def zo3(hg:Gl X "isinstance")(hm:X.mg "isinstance" = none)(hgT:Gl X x)(hmT:X.mg x=none)(hvT:bootBuiltins x=some (.type T))(hn:x ≠ "__name__")(hdb:(x == ("__debug__":Str))=false)(hp:zby e=true)(he:PE X e (tH cl E f)) :
  PE X (.Call (.Name "isinstance" p) [e,.Name x p2] [] pos) (tE cl E (eUn (zeA T) f)):=by
 refine PE.imp (zde zh0 hg hm zhd (zaU he (zaU (zhH (v:=.ty T) hgT hmT hvT rfl hn hdb) zbG rfl) (zbp hp)) (he:=zbp hp) (hpl:=rfl)) ?_;rintro σ H Q ⟨B,w,ρ,S,rfl,R,q⟩;refine ⟨B,w,ρ,S,rfl,R,?_⟩;unfold eUn at q
 cases hf:f ρ S with
 | bad=>rwa [hf] at q
 | exc c S1=>rwa [hf] at q
 | ok d S1 =>
  rw [hf] at q;intro v w1 R1 F1 h1;dsimp only [Out.bind] at q
  cases hg:zeA T d with
  | none=>rw [hg] at q;exact q.elim
  | some r =>
   rw [hg] at q;obtain ⟨t,b,h2,h3,rfl⟩:=zqb (K:=X.K) (h1.top R1) hg;exact ⟨v,t,T,b,rfl,h2,h3,q _ w1 R1 F1 (.bl _)⟩
noncomputable def zkx:D->D->Option D
 | .lst l,.int i=>if i=-1 then some (.lst l.reverse) else none
 | _,_=>none
def zir{a b:Expr}{h:Fe}{p2:Pos}(ha:PE X a (tH cl E f))(hb:PE X b (tH cl E h)):PE X (.Subscript a (.Slice none none (some b) p2) pos) (tE cl E (zaj zkx f h)) :=
 PE.imp (zmu ha hb) (two (r2:=fun x y H Q=>y=.int (-1)/\∃a xs,x=.ref a/\SqL X.K H a xs/\∀p,H p=none->Q (.ref p) (upd H p (.lst xs.reverse))) fun x y H Q z=>by
  obtain ⟨w,d,e,r,rfl,hx,hy,hg,q⟩:=z;unfold zkx at hg;split at hg
  ·rename_i l i;split at hg
   ·rename_i hi;subst hi;cases hg;obtain ⟨p,xs,rfl,ep,rs⟩:=hx.lstI;exact ⟨hy.intI,p,xs,rfl,SqL.of ep,fun p' hp=>q _ (w.add p' _) (zaH hp _) (Shd.newL hp rs.rev)⟩
   ·cases hg
  ·cases hg)
noncomputable def znH(x:Str):List D:=x.cps.toList.map fun c=>D.str ⟨#[c]⟩
def zhU(f:Fe):Fi:=fun ρ S=>(f ρ S).bind fun d S1=>match d with | .str x=>.ok (znH x) S1 | _=>.bad
def zrr{tg:Expr}(he:PE X e (tE cl E f)):PI X tg e (tI cl E (zhU f)):=by
 refine PI.imp (zrV he) ?_;rintro σ H Q ⟨B,w,ρ,S,rfl,R,q⟩;refine ⟨B,w,ρ,S,rfl,R,?_⟩;unfold zhU at q
 cases hf:f ρ S with
 | bad=>rwa [hf] at q
 | exc c S1=>rwa [hf] at q
 | ok d S1 =>
  rw [hf] at q;intro v w' R' F' h';dsimp only [Out.bind] at q
  cases h' with
  | str x =>
   refine ⟨x,rfl,q _ w' R' F' ?_⟩
   have hl:(znH x).length=x.cps.size:=by simp [znH]
   refine ⟨fun w1 F1 i hi=>?_,fun w1 F1=>?_,fun w1 F1 i d v H1 hd y=>?_⟩
   ·show i<x.cps.size;rw [<-hl];exact hi
   ·exact hl
   ·obtain ⟨rfl,c,hc,rfl⟩:=y;refine ⟨w1,rfl,Grow.refl _,?_⟩
    have e:(znH x)[i]?=some (.str ⟨#[c]⟩):=by
     unfold znH;rw [yao,ybj,hc];rfl
    rw [hd] at e;cases e;exact .str _
  | _=>exact q.elim
def zhT(f:Fe):Fi:=fun ρ S=>(f ρ S).bind fun d S1=>match d with | .dic ds=>if zai ds then .ok ((zbI ds).map D.str) S1 else .bad | _=>.bad
def zrs{tg:Expr}(he:PE X e (tE cl E f)):PI X tg e (tI cl E (zhT f)):=by
 refine PI.imp (zps he) ?_;rintro σ H Q ⟨B,w,ρ,S,rfl,R,q⟩;refine ⟨B,w,ρ,S,rfl,R,?_⟩;unfold zhT at q
 cases hf:f ρ S with
 | bad=>rwa [hf] at q
 | exc c S1=>rwa [hf] at q
 | ok d S1 =>
  rw [hf] at q;intro v w' R' F' h';dsimp only [Out.bind] at q
  cases h' with
  | dicK ea ka ra =>
   rename_i ob kvs ds
   by_cases ho:zai ds=true
   ·dsimp only at q;rw [if_pos ho] at q;obtain ⟨h1,h2⟩:=zfR ra ho
    have hl:kvs.length=((zbI ds).map D.str).length:=by rw [yad,h2,ra.length]
    refine ⟨_,ob,kvs,rfl,ea,⟨_,h1⟩,q _ w' R' F' ⟨fun w1 F1 i hi=>⟨(F1.keep _ _ ea ka).1,by rw [hl];exact hi⟩,fun w1 F1=>⟨(F1.keep _ _ ea ka).1,hl.symm⟩,fun w1 F1 i d v H1 hd y=>?_⟩⟩;obtain ⟨rfl,x,hx,rfl⟩:=y;rw [h1,yao] at hx;obtain ⟨z,hz,ez⟩:=yap.mp hx;cases ez;rw [yao,hz] at hd;cases hd;exact ⟨w1,rfl,Grow.refl _,.str _⟩
   ·dsimp only at q;rw [if_neg ho] at q;exact q.elim
  | _=>exact q.elim
def zbl(f:Fe):Fi:=fun ρ S=>(f ρ S).bind fun d S1=>match d with | .str x=>.ok (znH x) S1 | .lst l=>.ok l S1 | .tup l=>.ok l S1 | .dic ds=>if zai ds then .ok ((zbI ds).map D.str) S1 else .bad | _=>.bad
def zrt(hK:X.K=cl.K)(he:PE X e (tE cl E f)):PI X tg e (tI cl E (zbl f)):=by
 intro pins s σ H R' I q;obtain ⟨B,w,ρ,S,rfl,R,q⟩:=q;unfold zbl at q
 cases hf:f ρ S with
 | bad=>rw [hf] at q;exact q.elim
 | exc c S1 =>
  refine zj9 he pins s σ w.H R' I ⟨B,w,ρ,S,rfl,R,?_⟩;unfold ziX;rw [hf] at q ⊢;exact q
 | ok d S1 =>
  rw [hf] at q;dsimp only [Out.bind] at q
  cases d with
  | lst l =>
   refine zj9 he pins s σ w.H R' I ⟨B,w,ρ,S,rfl,R,?_⟩;unfold ziX;rw [hf];exact q
  | tup l =>
   refine zrq he pins s σ w.H R' I ⟨B,w,ρ,S,rfl,R,?_⟩;unfold zhS;rw [hf];exact q
  | str x =>
   refine zrr he pins s σ w.H R' I ⟨B,w,ρ,S,rfl,R,?_⟩;unfold zhU;rw [hf];exact q
  | dic ds =>
   refine zrs he pins s σ w.H R' I ⟨B,w,ρ,S,rfl,R,?_⟩;unfold zhT;rw [hf];exact q
  | _=>exact q.elim
end
end S2
namespace L2
open PySem PySem.Spec PyProof.Rows
noncomputable abbrev IsT(h:Heap)(T:Addr)(os:List Value):Prop:=h.get? T=some { cls:=.type "tuple",data:=.seq os.toArray }
noncomputable abbrev Stops(h:Heap)(e:Addr):Prop:=∃o,h.get? e=some o/\o.cls=.type "StopIteration"
structure ZSt(a l m i:Nat)(f:Value)(h:Heap):Prop where
 z:IsZip h (a+4) (a+2) (a+3) f
 ti:IsT h (a+2) [.ref a,.ref (a+1)]
 to:∃x y,IsT h (a+3) [x,y]
 i1:h.IsTupleIter a l i
 i2:h.IsTupleIter (a+1) m i
section
variable{prog:Program}{w:World}{A:Around}{E:Z5}{s:Shared}{a l m k:Nat}{us vs:Array Value}
def zii{h h':Heap}{t:Addr}(p:h.IsTuple t vs)(q:∀o,h.get? t=some o->h'.get? t=some o):h'.IsTuple t vs:=by
 obtain ⟨o,ho,r⟩:=p;exact ⟨o,q o ho,r⟩
theorem zom{β:Type}{f:Value×Nat->β->Sem (ForInStep β)}{b:β}{Q:β->Shared->Prop}{x0 y0:Value}
  (hf:∀(c l n:Nat) (vs:Array Value) (os:List Value) (s:Shared) (Q:ForInStep β->Shared->Prop),l<c->c<a+3->os.length=2->IsZip s.heap (a+4) (a+2) (a+3) .ellipsis->IsT s.heap (a+3) os->s.heap.IsTupleIter c l k->s.heap.IsTuple l vs->k<=vs.size →
   (∀x h' tk,vs[k]?=some x->IsT h' (a+3) (os.set n x)->h'.IsTupleIter c l (k+1)->h'.objs.size=s.heap.objs.size->(∀(d:Nat) (o:Obj),d≠a+3->d≠c->s.heap.get? d=some o->h'.get? d=some o)->Q (.yield b) { s with heap:=h',toks:=tk }) →
   (k=vs.size->∀h' e tk,(∀(d:Nat) (o:Obj),d≠a+4->d≠c->s.heap.get? d=some o->h'.get? d=some o)->Stops h' e->E (.ref e) { s with heap:=h',toks:=tk })->wpAny (model prog w) A (f (.ref c,n) b) Q E s)
  (hl:l<a) (hm:m<a) (hz:IsZip s.heap (a+4) (a+2) (a+3) .ellipsis) (hO:IsT s.heap (a+3) [x0,y0]) (h1:s.heap.IsTupleIter a l k) (h2:s.heap.IsTupleIter (a+1) m k) (hu:s.heap.IsTuple l us) (hv:s.heap.IsTuple m vs) (hk:k<=us.size) (hk2:k<=vs.size)
  (hQ:∀x y h' tk,us[k]?=some x->vs[k]?=some y->IsT h' (a+3) [x,y]->h'.IsTupleIter a l (k+1)->h'.IsTupleIter (a+1) m (k+1)->h'.objs.size=s.heap.objs.size->(∀(d:Nat) (o:Obj),d≠a->d≠a+1->d≠a+3->s.heap.get? d=some o->h'.get? d=some o)->Q b { s with heap:=h',toks:=tk })
  (hE:(k=us.size\/k=vs.size)->∀h' e tk,(∀(d:Nat) (o:Obj),(d<a\/a+4<d)->s.heap.get? d=some o->h'.get? d=some o)->Stops h' e->E (.ref e) { s with heap:=h',toks:=tk }) :
  wpAny (model prog w) A (forIn [((.ref a:Value),0),(.ref (a+1),1)] b f) Q E s:=by
 rw [ybL];refine yab (hf a l 0 us _ s _ hl (by omega) rfl hz hO h1 hu hk (fun x g tk hx hO1 hI1 hs1 k1=>?_) (fun e h' e' tk k1=>hE (.inl e) h' e' tk fun d o p q=>k1 d o (by omega) (by omega) q));show wpAny _ _ (forIn [((.ref (a+1):Value),1)] b f) _ _ _;rw [ybL];refine yab (hf (a+1) m 1 vs _ _ _ (by omega) (by omega) rfl (k1 _ _ (by omega) (by omega) hz) hO1 (h2.at fun o e=>k1 _ o (by omega) (by omega) e) (zii hv fun o e=>k1 _ o (by omega) (by omega) e) hk2 (fun y g2 tk2 hy hO2 hI2 hs2 k2=>?_) (fun e h' e' tk' k2=>hE (.inr e) h' e' tk' fun d o p q=>k2 d o (by omega) (by omega) (k1 d o (by omega) (by omega) q)));exact yam (hQ x y g2 tk2 hx hy hO2 (hI1.at fun o e=>k2 _ o (by omega) (by omega) e) hI2 (hs2.trans hs1) fun d o p1 p2 p3 e=>k2 d o p3 p2 (k1 d o p3 p1 e))
theorem zia{Q:Z5}(hh:A.handled=none)(Z:ZSt a l m k .none s.heap)(hl:l<a)(hm:m<a)(hu:s.heap.IsTuple l us)(hv:s.heap.IsTuple m vs)(hk:k<=us.size)(hk2:k<=vs.size)
  (hQ:∀x y h' tk,us[k]?=some x->vs[k]?=some y->ZSt a l m (k+1) (rawInt s.heap.objs.size) h'->IsT h' s.heap.objs.size [x,y]->(∀(c:Nat) (o:Obj),(c<a\/a+4<c)->s.heap.get? c=some o->h'.get? c=some o)->Q (.ref s.heap.objs.size) { s with heap:=h',toks:=tk })
  (hE:(k=us.size\/k=vs.size)->∀h' e tk,(∀(c:Nat) (o:Obj),(c<a\/a+4<c)->s.heap.get? c=some o->h'.get? c=some o)->Stops h' e->E (.ref e) { s with heap:=h',toks:=tk }) :
  wpAny (model prog w) A (Builtin.«zip.__next__» ⟨[.ref (a+4)],[]⟩) (fun fin s'=>∃v,fin=.done (.ret v)/\Q v s') E s:=by
 obtain ⟨hz,hI,⟨x0,y0,hO⟩,h1,h2⟩:=Z;show wpAny _ _ (field (.ref (a+4)) 2 >>= _) _ _ _;refine yab (ybY hz rfl (x:=.bool false) rfl ?_);show wpAny _ _ (field (.ref (a+4)) 3 >>= _) _ _ _;refine yab (ybY hz rfl (x:=.ref (a+2)) rfl ?_);refine yab (ybm hI rfl ?_);show wpAny _ _ (Builtin.SmallTypes.ownedTupleIsFree (.ref (a+4)) >>= _) _ _ _;refine yab ?_;unfold Builtin.SmallTypes.ownedTupleIsFree;refine yab (ybY hz rfl (x:=.none) rfl (yam ?_));simp only [ycT];refine yab (wpAny_rule ?_);refine yab (ybY hz rfl (x:=.ref (a+3)) rfl ?_);refine yab (yca hz (by simp) fun g hz₁ hs₁=>?_);replace hz₁:IsZip g (a+4) (a+2) (a+3) .ellipsis:=hz₁;have k₁:∀(c:Nat) (o:Obj),c≠a+4->s.heap.get? c=some o->g.get? c=some o:=fun c o hc e=>hs₁.extBut _ _ hc e
 refine yab (zom (a:=a) (l:=l) (m:=m) (k:=k) (us:=us) (vs:=vs) (fun c l n vs os s Q hc hb ho hz hO hI hv hk hx he=>?_) hl hm hz₁ (k₁ _ _ (by omega) hO) (h1.at fun o e=>k₁ _ o (by omega) e) (h2.at fun o e=>k₁ _ o (by omega) e) (zii hu fun o e=>k₁ _ o (by omega) e) (zii hv fun o e=>k₁ _ o (by omega) e) hk hk2 (fun x y h₂ tk hx hy hO₂ i1 i2 hs₂ k₂=>?_) (fun e h' e' tk k'=>hE e h' e' tk fun c o hc q=>k' c o hc (k₁ c o (by omega) q)))
 ·have D:=zlr (prog:=prog) (w:=w) hh c l (yas hc) vs;refine yab (wpAny_onRaise ?_);show wpAny _ _ (Builtin.SmallTypes.nextOf (.ref c) >>= _) _ _ _
  rcases Nat.lt_or_eq_of_le hk with hlt | rfl
  ·refine yab (D.item k _ _ _ hlt ⟨hI,hv⟩ fun x h₂ tk₂ px hI₂ hs₂=>yam ?_);have hO₂:IsT h₂ (a+3) os:=hs₂.extBut _ _ (yaP hb) hO;refine yab (ybm hO₂ rfl ?_)
   have h9:os.length<=9:=by omega
   refine yab (wpAny_updateSeq hO₂ rfl ?_ (by simp;exact yau h9 (by decide)) (by simp;exact yau h9 (by decide)));have hs₃:=Heap.SameBut.update h₂ (a+3) (Obj.mapSeq (·.setIfInBounds n x));refine yab (wpAny_letGo (yam (hx x _ tk₂ px ?_ (hI₂.1.at fun o e=>hs₃.extBut _ _ (yas hb) e) (hs₃.1.trans hs₂.1) fun d o c1 c2 e=>hs₃.extBut _ _ c1 (hs₂.extBut _ _ c2 e))));show Heap.get? _ (a+3)=_;rw [yco _ hO₂ rfl];simp [Obj.mapSeq]
  ·refine yab (D.done _ _ _ ⟨hI,hv⟩ fun h₂ e hs₂ hs=>?_);obtain ⟨oe,hoe,hce⟩:=hs;have hz₂:=hs₂ _ _ (show a+4≠c by omega) hz
   have hez:e≠a+4:=fun x=>by subst x;rw [hz₂] at hoe;cases hoe;simp at hce
   exact yca hz₂ (by simp) fun h₃ _ hs₃=>he rfl h₃ e _ (fun d o c1 c2 q=>hs₃.extBut _ _ c1 (hs₂ _ _ c2 q)) ⟨oe,hs₃.extBut _ _ hez hoe,hce⟩
 ·refine yab (ybm hO₂ rfl ?_);refine yab (wpAny_newTuple ?_ (hsz:=by show (2:Nat)<=_;decide));have hz₂:IsZip h₂ (a+4) (a+2) (a+3) .ellipsis:=k₂ _ _ (by omega) (by omega) (by omega) hz₁;have hsz:h₂.objs.size=s.heap.objs.size:=hs₂.trans hs₁.1;show wpAny _ _ (Builtin.SmallTypes.ownedTupleHandOut (.ref (a+4)) (.ref h₂.objs.size) >>= _) _ _ _;refine yab ?_;unfold Builtin.SmallTypes.ownedTupleHandOut;refine yab (yca (yae _ hz₂) (by simp) fun h₄ hz₄ hs₄=>?_);replace hz₄:IsZip h₄ (a+4) (a+2) (a+3) (rawInt h₂.objs.size):=hz₄;refine yca hz₄ (by simp) fun h₅ hz₅ hs₅=>?_
  replace hz₅:IsZip h₅ (a+4) (a+2) (a+3) (rawInt h₂.objs.size):=hz₅;have lt:a+4<h₂.objs.size:=yal hz₂;have up:∀(c:Nat) (o:Obj),c≠a+4->h₂.get? c=some o->h₅.get? c=some o:=fun c o c1 e=>hs₅.extBut _ _ c1 (hs₄.extBut _ _ c1 (yae _ e))
  have hT:IsT h₅ h₂.objs.size [x,y]:=hs₅.extBut _ _ (yaP lt) (hs₄.extBut _ _ (yaP lt) (yaq _ rfl));rw [hsz] at hz₅ hT;refine yam ⟨_,rfl,?_⟩;show Q (.ref h₂.objs.size) _;rw [hsz];exact hQ x y h₅ tk hx hy ⟨hz₅,up _ _ (by omega) (k₂ _ _ (by omega) (by omega) (by omega) (k₁ _ _ (by omega) hI)),⟨x,y,up _ _ (by omega) hO₂⟩,i1.at fun o e=>up _ o (by omega) e,i2.at fun o e=>up _ o (by omega) e⟩ hT fun c o hc e=>up c o (by omega) (k₂ c o (by omega) (by omega) (by omega) (k₁ c o (by omega) e))
def zkT:Meets (Builtin.«zip.__new__» ⟨[.type "zip",.ref l,.ref m],[]⟩) (fun _ R s=>s.heap.IsTuple l us/\s.heap.IsTuple m vs ∧
   ∀h' n,n=s.heap.objs.size->(∀(c:Nat) (o:Obj),s.heap.get? c=some o->h'.get? c=some o)->ZSt n l m 0 .none h'->R (.ok (.ret (.ref (n+4)))) { s with heap:=h' }) :=
 .of_wp fun prog w A R s h=>by
  obtain ⟨hp,g,d,tk,os⟩:=s;obtain ⟨hl1,hl2,h⟩:=h;have hsub:=sub_zip;have hL1:Heap.IsTuple (Shared.heap ⟨hp,g,d,tk,os⟩) l us:=hl1;have hL2:Heap.IsTuple (Shared.heap ⟨hp.push { cls:=.type "tuple_iterator",data:=.fields #[.ref l,.int 0 0] },g,d,tk,os⟩) m vs:=zii hl2 fun o e=>yae _ e
  wp_walk using yb3 hL1,yb3 hL2
  refine ⟨_,rfl,?_⟩;have p {h:Heap} {o':Obj} {a:Addr} {o:Obj} (e:h.get? a=some o):(h.push o').get? a=some o:=yae _ e
  have u:∀{h:Heap} {o:Obj} {a:Addr},a=h.objs.size->o.isFreed=false->(h.push o).get? a=some o:=fun e ho=>by rw [e];exact yaq _ ho
  simp only [yaW];exact h _ _ rfl (fun c o e=>p (p (p (p (p e))))) ⟨u (by simp only [yaW]) rfl,p (p (u (by simp only [yaW]) rfl)),⟨_,_,p (u (by simp only [yaW]) rfl)⟩,⟨_,p (p (p (p (u rfl rfl)))),rfl,rfl⟩,⟨_,p (p (p (u (by simp only [yaW]) rfl))),rfl,rfl⟩⟩
end
noncomputable def zFp(a:Nat):List Addr:=(List.range 5).map (a+·)
theorem zdQ{a b:Nat}:b∈zFp a↔a<=b/\b<a+5:=by
 unfold zFp;rw [yax];exact ⟨fun ⟨j,hj,e⟩=>by rw [ybB] at hj;have e:a+j=b:=e;omega,fun ⟨h1,h2⟩=>⟨b-a,ybB.mpr (by omega),by show a+(b-a)=b;omega⟩⟩
theorem zhn{a b:Nat}(h:b ∉ zFp a):b<a\/a+4<b:=by rw [zdQ] at h;omega
theorem ZSt.keep{a l m i:Nat}{f:Value}{h h':Heap}(Z:ZSt a l m i f h)(k:∀(c:Nat) (o:Obj),a<=c->c<a+5->h.get? c=some o->h'.get? c=some o):ZSt a l m i f h' :=
 ⟨k _ _ (by omega) (by omega) Z.z,k _ _ (by omega) (by omega) Z.ti,let ⟨x,y,e⟩:=Z.to;⟨x,y,k _ _ (by omega) (by omega) e⟩,Z.i1.at fun o e=>k _ o (by omega) (by omega) e,Z.i2.at fun o e=>k _ o (by omega) (by omega) e⟩
section
variable{X:Cx}{pins:Z3}{σ:St}{H:Hp}{s:Shared}
noncomputable def ItZ(l m:Addr):It :=
 ⟨fun i H=>∃xs ys,H l=some (.tup xs)/\H m=some (.tup ys)/\i<xs.length/\i<ys.length,
  fun i H v H'=>∃t x y xs ys,v=.ref t/\H t=none/\H'=upd H t (.tup [x,y])/\H l=some (.tup xs)/\H m=some (.tup ys)/\xs[i]?=some x/\ys[i]?=some y,
  fun i H=>∃xs ys,H l=some (.tup xs)/\H m=some (.tup ys)/\i<=xs.length/\i<=ys.length/\(i=xs.length\/i=ys.length)⟩
def zon{fp:List Addr}{T:Addr}{h2:Heap}{tk:Nat}{us:List Value}{ys:List V}(I:Inv X pins σ H s)(hf:∀b∈fp,zlQ X pins H b)(hT:T=s.heap.objs.size)(te:IsT h2 T us)
  (k:∀b o,b ∉ fp->s.heap.get? b=some o->h2.get? b=some o) (r:Vals ys us) (h9:us.length<=9):Inv X pins σ (upd H T (.tup ys)) { s with heap:=h2,toks:=tk }/\H T=none:=by
 have fr:H T=none:=by rw [hT];exact I.hok.fresh (yag _)
 refine ⟨?_,fr⟩;have I1:Inv X pins σ H { s with heap:=h2,toks:=tk }:=I.turnedL (ch:=fp) (fun b o hb q=>k b o hb q) hf;refine I1.track fr (by rw [hT];exact I.sz) (by rw [hT];exact yaP I.lt) (fun z c q=>?_) (fun p hp=>?_) ?_
 ·obtain ⟨v,cq⟩:=I.cell z c q;rw [hT];exact yas cq.lt
 ·rw [hT];exact yas (yal (I.pin p hp).1)
 ·exact ⟨yau (r.length ▸ h9) (by decide),us,r,_,te,rfl,_,rfl,rfl⟩
theorem zlZ{P:Program}{w:World}{K:PySem.W.Frag}{elts:List Expr}{x1:Nat}{pos:Pos}{a l m:Nat}(hl:l<a)(hm:m<a) :
  Turn P w K (.Tuple elts x1 pos) (ItZ l m) (zFp a) (a+4) (fun i h=>ZSt a l m i .none h) where
 mem:=zdQ.mpr (by omega)
 obj:=fun i h st b hb=>by
  obtain ⟨hz,hI,⟨x,y,hO⟩,⟨o1,e1,_,d1⟩,⟨o2,e2,_,d2⟩⟩:=st;obtain ⟨h1,h2⟩:=zdQ.mp hb;obtain ⟨j,rfl⟩:∃j,b=a+j:=⟨b-a,(Nat.add_sub_cancel' h1).symm⟩
  match j,h2 with
  | 0,_=>exact ⟨_,e1,fun v e=>by rw [d1] at e;cases e⟩
  | 1,_=>exact ⟨_,e2,fun v e=>by rw [d2] at e;cases e⟩
  | 2,_=>exact ⟨_,hI,fun v e=>by cases e⟩
  | 3,_=>exact ⟨_,hO,fun v e=>by cases e⟩
  | 4,_=>exact ⟨_,hz,fun v e=>by cases e⟩
  | j+5,h=>omega
 keep:=fun i h h' st k=>st.keep fun c o c1 c2 e=>k _ (zdQ.mpr ⟨c1,c2⟩) _ e
 item:=by
  intro X hP hw hK hc i pins s σ H E I hf st hg;subst hP hw hK;obtain ⟨xs,ys,g1,g2,hi,hj⟩:=hg;obtain ⟨us,ru,t1,_⟩:=I.tuple (SqT.of g1);obtain ⟨vs,rv,t2,_⟩:=I.tuple (SqT.of g2);have hT:s.TypeIs (.ref (a+4)) "zip":=⟨_,st.z,rfl⟩;unfold pyNext
  refine yab (wpAny_attempt (ybw (name:=Str.ofString "__next__") hT ycE (ybX ycE hT F.entry_zip_next
   (zia (A:=X.A.in1) (I.ok.hd hc) st hl hm t1 t2 (by rw [yak,<-ru.length];exact yck hi) (by rw [yak,<-rv.length];exact yck hj) (fun x y h' tk hx hy a1 a4 a5=>yam ?_)
    (fun e=>by rw [yak,yak,<-ru.length,<-rv.length] at e;omega)) (F.args_zip_next_1 _))))
  have ltz:a+4<s.heap.objs.size:=yal st.z;refine ⟨_,rfl,wpAny_letOwnedTupleGo_zip a1.z fun h2' hz2 sb=>?_⟩;have kb:∀(c:Nat) (o:Obj),c≠a+4->h'.get? c=some o->h2'.get? c=some o:=fun c o hc e=>(sb.2 c hc).trans e
  obtain ⟨x',hx1,hx2⟩:=ru.get (yac hi);obtain ⟨y',hy1,hy2⟩:=rv.get (yac hj);rw [ycq,hx1] at hx;cases hx;rw [ycq,hy1] at hy;cases hy;obtain ⟨I2,fr⟩:=zon (tk:=tk) (h2:=h2') I hf rfl (kb _ _ (yaP ltz) a4) (fun b o hb q=>kb b o (by have:=zhn hb;omega) (a5 b o (zhn hb) q)) (.cons hx2 (.cons hy2 .nil)) (by simp);refine ⟨.ref s.heap.objs.size,_,I2,rfl,⟨_,_,_,xs,ys,rfl,fr,rfl,g1,g2,yac hi,yac hj⟩,⟨hz2,kb _ _ (by omega) a1.ti,let ⟨x,y,e⟩:=a1.to;⟨x,y,kb _ _ (by omega) e⟩,a1.i1.at fun o e=>kb _ o (by omega) e,a1.i2.at fun o e=>kb _ o (by omega) e⟩,fun b hb=>?_⟩;rw [zag (fun e=>by have:=(zdQ.mp (e ▸ hb)).2;omega)];exact (hf b hb).1
 done:=by
  intro X hP hw hK hc i pins s σ H E I hf st hg;subst hP hw hK;obtain ⟨xs,ys,g1,g2,h1,h2,hi⟩:=hg;obtain ⟨us,ru,t1,_⟩:=I.tuple (SqT.of g1);obtain ⟨vs,rv,t2,_⟩:=I.tuple (SqT.of g2);have hT:s.TypeIs (.ref (a+4)) "zip":=⟨_,st.z,rfl⟩;unfold pyNext
  refine yab (wpAny_attempt (ybw (name:=Str.ofString "__next__") hT ycE (ybX ycE hT F.entry_zip_next
   (zia (A:=X.A.in1) (I.ok.hd hc) st hl hm t1 t2 (by rw [yak,<-ru.length];exact h1) (by rw [yak,<-rv.length];exact h2) (fun x y h' tk hx hy=>by
     have e1:=(ybg.mp hx).1;have e2:=(ybg.mp hy).1;rw [yak,<-ru.length] at e1;rw [yak,<-rv.length] at e2
     omega) (fun _ h' e tk hk he'=>?_)) (F.args_zip_next_1 _))))
  obtain ⟨o,ho,hcl⟩:=he';refine yab (wpAny_isInstance (T:="StopIteration") (b:=true) ⟨o,ho,hcl⟩ isSubtype_stop ?_);exact yam ⟨rfl,I.turnedL (ch:=zFp a) (fun b o hb q=>hk b o (zhn hb) q) hf⟩
 self:=fun _ _ _ _ _ st h=>wpAny_pyIter_zip st.z h
theorem znq:bootBuiltins "zip" = some (.type "zip"):=by decide +kernel
def zqW(I1:Inv X pins σ H1 s1)(g1:H1 l=some (.tup xs))(g2:H1 m=some (.tup ys))(q:R (ItZ l m) H1) :
  wpAny (model X.prog X.w) X.A (call (.type "zip") [.ref l,.ref m]) (fun v s2=>wpAny (model X.prog X.w) X.A (pyIter v) (PIE X pins σ (.Tuple elts x1 tp) R) X.xe s2) X.xe s1:=by
 obtain ⟨us,ru,t1,_⟩:=I1.tuple (SqT.of g1);obtain ⟨vs,rv,t2,_⟩:=I1.tuple (SqT.of g2);refine callType_new F.called_zip (by decide) (F.typeCall_zip_2 _ _) (F.newCall_zip_2 _ _) (fun o=>F.args_object_init_3 o _ _) F.entry_zip_new zkT ⟨t1,t2,fun h' n hn hk Z=>?_⟩;refine ⟨⟨_,Z.z,rfl⟩,wpAny_pyIter_zip Z.z ?_⟩;refine ⟨n+4,zFp n,_,_,H1,rfl,I1.kept (t':=s1.toks) hk,zlZ ?_ ?_,Z,fun c hb=>?_,q⟩
 ·obtain ⟨o,ho,_⟩:=t1;rw [hn];exact yal ho
 ·obtain ⟨o,ho,_⟩:=t2;rw [hn];exact yal ho
 ·have hc:s1.heap.objs.size<=c:=hn ▸ (zdQ.mp hb).1;exact I1.fpOk hc (I1.hok.fresh hc)
end
end L2
namespace S2
open PySem PySem.Spec PyProof.Rows L2
section
variable{X:Cx}{cl:Cf}{E:St->XK}{e tg:Expr}{f:Fe}{own:Bool}{pos pos':Pos}
noncomputable def zqa:List D->Option D | [.int i]=>some (.int i) | [.bl b]=>some (.int (if b then 1 else 0)) | _=>none
def zte:zjP X cl (.type "int") zqa:=by
 intro pins s σ H xs us Q I r h;obtain ⟨w,ds,d,rfl,hx,hg,q⟩:=h;unfold zqa at hg;split at hg
 ·rename_i i;cases hg
  cases hx with
  | cons h1 h2 =>
   cases h2;obtain rfl:=h1.intI;exact zhb pins s σ w.H _ us Q I r (.inl ⟨i,rfl,q _ w (Grow.refl _) (.int _)⟩)
 ·rename_i b;cases hg
  cases hx with
  | cons h1 h2 =>
   cases h2;obtain rfl:=h1.blI;exact zhb pins s σ w.H _ us Q I r (.inr ⟨b,rfl,q _ w (Grow.refl _) (.int _)⟩)
 ·cases hg
noncomputable def zgi:List D->List D->List D
 | x::xs,y::ys=>.tup [x,y]::zgi xs ys
 | _,_=>[]
theorem zib:∀(xs ys:List D),(zgi xs ys).length=min xs.length ys.length
 | [],_=>by simp [zgi]
 | _::_,[]=>by simp [zgi]
 | _::xs,_::ys=>by simp [zgi,zib xs ys]
theorem zic:∀{xs ys:List D} {i:Nat} {d:D},(zgi xs ys)[i]?=some d->∃x y,xs[i]?=some x/\ys[i]?=some y/\d=.tup [x,y]
 | [],_,_,_,h=>by simp [zgi] at h
 | _::_,[],_,_,h=>by simp [zgi] at h
 | x::xs,y::ys,0,d,h=>by
  simp only [zgi,List.getElem?_cons_zero,Option.some.injEq] at h;exact ⟨x,y,rfl,rfl,h.symm⟩
 | x::xs,y::ys,i+1,d,h=>by
  simp only [zgi,List.getElem?_cons_succ] at h ⊢;exact zic h
def zqU(f g:Fe):Fi:=fun ρ S=>(zau [f,g] ρ S).bind fun ds S1=>match ds with | [.tup l,.tup k]=>.ok (zgi l k) S1 | _=>.bad
theorem zsO(h1:∀w',Fut w w'->w'.H l1=some (.tup xs))(h2:∀w',Fut w w'->w'.H l2=some (.tup ys))(r1:Shds cl w xs ds)(r2:Shds cl w ys es):ItOk cl w (ItZ l1 l2) (zgi ds es):=by
 have e1:=r1.length;have e2:=r2.length;have el:=zib ds es;refine ⟨fun w1 F1 i hi=>⟨xs,ys,h1 w1 F1,h2 w1 F1,by omega,by omega⟩,fun w1 F1=>⟨xs,ys,h1 w1 F1,h2 w1 F1,by omega,by omega,by omega⟩,fun w1 F1 i d x H1 hd y=>?_⟩;obtain ⟨t,v1,v2,xs',ys',rfl,ht,rfl,g1,g2,hx,hy⟩:=y;obtain ⟨z1,z2,hz1,hz2,rfl⟩:=zic hd;cases (h1 w1 F1).symm.trans g1;cases (h2 w1 F1).symm.trans g2;obtain ⟨d1,q1,s1⟩:=r1.get hx;obtain ⟨d2,q2,s2⟩:=r2.get hy;rw [hz1] at q1;cases q1;rw [hz2] at q2;cases q2;exact ⟨w1.add t _,rfl,zaH ht _,Shd.newT ht (.cons (s1.up F1) (.cons (s2.up F1) .nil))⟩
def zrp(hg:Gl X "zip")(hm:X.mg "zip" = none)(ha:PA X [a,e] (tAs cl E [fa,f]))(hs:starEach [a,e] X.env=(false,eval a X.env)::starEach [e] X.env)(hs2:(backTo pos (starEach [e] X.env)).any (·.1)=false):PI X (.Tuple es kk tp) (.Call (.Name "zip" p) [a,e] [] pos) (tI cl E (zqU fa f)):=by
 intro pins s σ H R' I q;refine Call_ (zgM I hg hm L2.znq (ybJ (thn (ha pos pins s σ H (fun vs H1=>∃l m xs ys,vs=[.ref l,.ref m]/\H1 l=some (.tup xs)/\H1 m=some (.tup ys)/\R' (ItZ l m) H1) I ?_) fun us s1 ⟨vs,H1,I1,r1,q1⟩=>?_) hs hs2))
 ·obtain ⟨B,w,ρ,S,rfl,R,q⟩:=q;refine ⟨B,w,ρ,S,rfl,R,?_⟩;dsimp only [zqU] at q
  cases hf:zau [fa,f] ρ S with
  | bad=>rw [hf] at q;exact q.elim
  | exc c S1=>rwa [hf] at q
  | ok ds S1 =>
   rw [hf] at q;dsimp only [Out.bind] at q;intro vs w' R2 F2 sh
   have hz:(∃l k,ds=[.tup l,.tup k])\/(match ds with | [.tup l,.tup k]=>Out.ok (zgi l k) S1 | _=>.bad)=.bad:=by
    split
    ·exact .inl ⟨_,_,rfl⟩
    ·exact .inr rfl
   rcases hz with ⟨l,k,rfl⟩ | e
   ·cases sh with
    | cons h1 h2 =>
     cases h2 with
     | cons h2 h3 =>
      cases h3
      cases h1 with
      | tup e1 k1 r1 =>
       cases h2 with
       | tup e2 k2 r2 =>
        exact ⟨_,_,_,_,rfl,(Fut.refl w').keep _ _ e1 k1 |>.1,(Fut.refl w').keep _ _ e2 k2 |>.1,q _ w' R2 F2 (zsO (fun w1 F1=>(F1.keep _ _ e1 k1).1) (fun w1 F1=>(F1.keep _ _ e2 k2).1) r1 r2)⟩
   ·rw [e] at q;exact q.elim
 ·obtain ⟨l,m,xs,ys,rfl,g1,g2,q⟩:=q1
  cases r1 with
  | cons a1 r1 =>
   cases r1 with
   | cons a2 r1=>cases r1;cases a1;cases a2;exact zqW I1 g1 g2 q
end
section
variable{X:Cx}{cl:Cf}{E:St->XK}{e:Expr}{f:Fe}{pos':Pos}
def eMt(g:List D->D->Option D)(i:Nat)(f:Fe):Fe:=fun ρ S=>match ρ[i]? with | some (some (_,.lst l))=>(f ρ S).bind fun d S1=>Out.of (g l d) S1 | _=>.bad
def zfq(l:List D)(d:D):Option D:=if d.fit 8&&D.fits 8 l then some (.int ((l.countP (zel · d):Nat):Int)) else none
def zfl(l:List D)(d:D):Option D:=if d.fit 8&&D.fits 8 l&&decide (l.length<=1000000)&&zjr d l then some (.int ((l.findIdx (zel · d):Nat):Int)) else none
def Rel.lstAny{B:Base}{σ:St}{w:Wd}{ρ:Env}{S:Sto}{i:Nat}{o:Bool}{l:List D}(R:Rel cl B σ w ρ S)(h:ρ[i]?=some (some (o,.lst l))):∃a xs,σ[i]?=some (some (.ref a))/\w.H a=some (.lst xs)/\Shds cl w xs l:=by
 cases o with
 | true=>obtain ⟨a,xs,e1,_,h2,t⟩:=R.list h;exact ⟨a,xs,e1,h2,t⟩
 | false =>
  obtain ⟨v,e1,sh⟩:=R.slots i false _ h
  cases sh with
  | lst ep k r=>exact ⟨_,_,e1,ep,r⟩
noncomputable def MtB(X:Cx)(cl:Cf)(id:String)(g:List D->D->Option D):Prop:=MtM X id fun x vs H Q=>∃(a:Addr) (xs:List V) (l:List D) (w:Wd) (d:D) (v:V) (r:Int),w.H=H/\x=.ref a/\vs=[v]/\w.H a=some (.lst xs)/\Shds cl w xs l/\TopV cl w v d/\g l d=some (.int r)/\Q (.int r) H
theorem zd9{s:Shared}{d:D}:∀{its:List Value} {ds:List D} {as:List Addr},ReadsAll s.heap its (D.pys ds) as->D.fits 8 ds=true->its.countP (fun y=>(SeqAt.readOf s.heap y).eqv d.py)=ds.countP (zel · d)
 | [],[],_,_,_=>rfl
 | [],_::_,_,h,_=>by cases h
 | _::_,[],_,h,_=>by cases h
 | v::its,e::ds,_,h,f=>by
  simp only [D.fits,yaa] at f
  cases h with
  | cons h1 h2 =>
   rw [List.countP_cons,List.countP_cons,zd9 h2 f.2,zhC (D.lay f.1).1 h1];rfl
theorem zdW{s:Shared}{d:D}:∀{its:List Value} {ds:List D} {as:List Addr},ReadsAll s.heap its (D.pys ds) as->D.fits 8 ds=true->∀(m:Nat) (hm:m<its.length),∃e,ds[m]?=some e/\(SeqAt.readOf s.heap its[m]).eqv d.py=zel e d
 | [],_,_,_,_,m,hm=>by simp at hm
 | _::_,[],_,h,_,_,_=>by cases h
 | v::its,e::ds,_,h,f,m,hm=>by
  simp only [D.fits,yaa] at f
  cases h with
  | cons h1 h2 =>
   cases m with
   | zero=>exact ⟨e,rfl,by show (SeqAt.readOf s.heap v).eqv d.py=_;rw [zhC (D.lay f.1).1 h1];rfl⟩
   | succ m =>
    obtain ⟨e',h3,h4⟩:=zdW h2 f.2 m (by simpa using hm);exact ⟨e',by simpa using h3,by simpa using h4⟩
theorem zfd{s:Shared}:∀{its:List Value} {ds:List D} {as:List Addr},ReadsAll s.heap its (D.pys ds) as->its.length=ds.length
 | [],[],_,_=>rfl
 | [],_::_,_,h=>by cases h
 | _::_,[],_,h=>by cases h
 | _::its,_::ds,_,h=>by
  cases h with
  | cons _ h2=>rw [yaf,yaf,zfd h2]
def zmO(hK:X.K=cl.K)(hu:X.A.units+64<cLine):MtB X cl "list.count" zfq:=by
 intro pins s σ H x vs v us Q I rx rv h;obtain ⟨a,xs,l,w,d,v',r,rfl,rfl,rfl,hH,sh,tv,hg,q⟩:=h;unfold zfq at hg;split at hg
 ·rename_i hf;cases hg;rw [yaa] at hf;cases rx;obtain ⟨u,rfl,ru⟩:=rv.one;obtain ⟨bs,rb⟩:=zgy I hK tv hf.1 ru;obtain ⟨z,its,n,r,hl,e⟩:=I.lstM hH;obtain ⟨as,ra⟩:=zdp I hK sh hf.2 r;refine ycv F.slot_list_count ⟨_,e,rfl⟩ F.entry_list_count (F.args_list_count_2 _ _) (SeqAt.list_countAt a _ n none #[] u (fun y=>(SeqAt.readOf s.heap y).eqv d.py)) ⟨e,fun y hy=>zb2 hu rb hf.1 ra hf.2 y hy,?_⟩;rw [zd9 ra hf.2];exact ⟨.int _,w.H,I.tok _,⟨_,rfl⟩,q⟩
 ·cases hg
theorem zmN(hK:X.K=cl.K)(hu:X.A.units+64<cLine):MtB X cl "list.index" zfl:=by
 intro pins s σ H x vs v us Q I rx rv h;obtain ⟨a,xs,l,w,d,v',r,rfl,rfl,rfl,hH,sh,tv,hg,q⟩:=h;unfold zfl at hg;split at hg
 ·rename_i hf;cases hg;simp only [yaa,ya5] at hf;obtain ⟨⟨⟨f1,f2⟩,f3⟩,f4⟩:=hf;cases rx;obtain ⟨u,rfl,ru⟩:=rv.one;obtain ⟨bs,rb⟩:=zgy I hK tv f1 ru;obtain ⟨z,its,n,r,hl,e⟩:=I.lstM hH;obtain ⟨as,ra⟩:=zdp I hK sh f2 r;have hlen:=zfd ra
  have hlt:l.findIdx (zel · d)<l.length:=by
   rw [List.findIdx_lt_length];unfold zjr at f4;rwa [List.any_eq_true] at f4
  refine ycv F.slot_list_index ⟨_,e,rfl⟩ F.entry_list_index (F.args_list_index_2 _ _) (SeqAt.list_indexAt a _ n none #[] u (fun y=>(SeqAt.readOf s.heap y).eqv d.py) (l.findIdx (zel · d)) (by rw [yak];omega) (by omega) ?_ ?_) ⟨e,fun y hy=>zb2 hu rb f1 ra f2 y hy,?_⟩
  ·obtain ⟨e',h1,h2⟩:=zdW (d:=d) ra f2 (l.findIdx (zel · d)) (by omega);simp only [List.getElem_toArray];rw [h2];rw [yac hlt] at h1;cases h1;exact List.findIdx_getElem (w:=hlt)
  ·intro m hm hmj
   have lm:m<its.length:=by rwa [yak] at hm
   obtain ⟨e',h1,h2⟩:=zdW (d:=d) ra f2 m lm;simp only [List.getElem_toArray];rw [h2];rw [yac (by omega)] at h1;cases h1;exact List.not_of_lt_findIdx hmj
  ·exact ⟨.int _,w.H,I.tok _,⟨_,rfl⟩,q⟩
 ·cases hg
def zrz{id:String}{ap cp:Pos}(slot:Slot "list" name id)(hty:typeOf (.builtin id)=pure (.type "method_descriptor"))(hm:MtB X cl id g)(hgb:∀l d r,g l d=some r->∃n,r=.int n)
  (hN:X.N[i]?=some x) (hv:Vis X.env.scope x) (hd:(x == ("__debug__":Str))=false) (hcd:(x == ("__classdict__":Str))=false) (he:PE X e (tH cl E f)) (hpl:zby e=true) (hln:(ap.endLine == cp.line)=true) :
  PE X (.Call (.Attribute (.Name x pos') name ap) [e] [] cp) (tE cl E (eMt g i f)):=by
 refine PE.imp (zmD (es:=[]) ybb slot hty hm (zaP hN hv hd hcd) (zka he znG (zbp hpl)) (hfew:=ziW (by simp [hpl]) (by simp)) (hline:=hln) (hs:=zbp hpl) (hplain:=rfl)) ?_;rintro σ H Q ⟨B,w,ρ,S,rfl,R,q⟩
 have key:(∃o l,ρ[i]?=some (some (o,.lst l)))\/eMt g i f ρ S=.bad:=by
  unfold eMt;split
  ·rename_i o l hl;exact .inl ⟨o,l,hl⟩
  ·exact .inr rfl
 rcases key with ⟨o,l,hl⟩ | hb
 ·have e':eMt g i f ρ S=(f ρ S).bind fun d S1=>Out.of (g l d) S1:=by unfold eMt;rw [hl]
  rw [e'] at q;obtain ⟨a,xs,e1,h2,t⟩:=R.lstAny hl;refine ⟨_,e1,.inl ⟨rfl,_,SqL.of h2⟩,B,w,ρ,S,rfl,R,?_⟩
  cases hf:f ρ S with
  | bad=>rw [hf] at q;exact q.elim
  | exc c S1 =>
   rw [hf] at q;simp only [zau,hf,Out.bind];exact q
  | ok d S1 =>
   rw [hf] at q;simp only [zau,hf,Out.bind];intro vs w' R' F' sh;dsimp only [Out.bind] at q
   cases hg:g l d with
   | none=>rw [hg] at q;exact q.elim
   | some r =>
    rw [hg] at q;obtain ⟨n,rfl⟩:=hgb l d r hg;obtain ⟨a',xs',e1',h2',t'⟩:=R'.lstAny hl;rw [e1] at e1';cases e1'
    cases sh with
    | cons h1 hn =>
     cases hn;exact ⟨a,xs',l,w',d,_,n,rfl,rfl,rfl,h2',t',h1.top R',hg,q _ w' R' F' (.int _)⟩
 ·rw [hb] at q;exact q.elim
end
noncomputable def zjy(g:Str->Str->Option Bool)(C:Str):D->Option D
 | .exc c=>(g c C).map .bl
 | _=>none
noncomputable def clsV(cl:Cf)(C:Str):Value:=if C = "ValueError" then .type "ValueError" else .ref (cl C)
section
variable{X:Cx}{cl:Cf}{E:St->XK}{own:Bool}{e:Expr}{f fe:Fe}{pos pos':Pos}
def Shd.excI{w:Wd}{v:V}{c:Str}(h:Shd cl w v (.exc c)):∃a ob,v=.ref a/\w.H a=some (.frz ob (.own a))/\ob.cls=.ref (cl c):=by
 cases h with
 | exc h1 _ h2=>exact ⟨_,_,rfl,h1,h2⟩
theorem TopV.excI{w:Wd}{v:V}{c:Str}(h:TopV cl w v (.exc c)):∃a ob,v=.ref a/\w.H a=some (.frz ob (.own a))/\ob.cls=.ref (cl c):=by
 cases h with
 | sh h=>exact h.excI
 | ow _ t=>cases t
theorem zfx:bootBuiltins "ValueError" = some (.type "ValueError"):=by decide +kernel
def zit{g:Str->Str->Option Bool}{C:Str}{vC:V}{p p2:Pos}(hg:Gl X "isinstance")(hm:X.mg "isinstance" = none)(hC:PE X (.Name C p2) (tC vC))(hv:∀u,zaX vC u->u=clsV cl C)
  (hk:∀c b,g c C=some b->PySem.W.ExcCls X.K (cl c)/\PySem.W.kitOne X.K (.ref (cl c)) (clsV cl C)=some b) (hp:zby e=true) (he:PE X e (tH cl E f)) :
  PE X (.Call (.Name "isinstance" p) [e,.Name C p2] [] pos) (tE cl E (eUn (zjy g C) f)):=by
 refine PE.imp (zde zjJ hg hm zhd (zaU he (zaU hC zbG rfl) (zbp hp)) (he:=zbp hp) (hpl:=rfl)) ?_;rintro σ H Q ⟨B,w,ρ,S,rfl,R,q⟩;refine ⟨B,w,ρ,S,rfl,R,?_⟩;unfold eUn at q
 cases hf:f ρ S with
 | bad=>rwa [hf] at q
 | exc c S1=>rwa [hf] at q
 | ok d S1 =>
  rw [hf] at q;intro v w1 R1 F1 h1;dsimp only [Out.bind] at q
  cases d with
  | exc c =>
   dsimp only [zjy] at q
   cases hb:g c C with
   | none=>rw [hb] at q;exact q.elim
   | some b =>
    rw [hb] at q;obtain ⟨k1,k2⟩:=hk c b hb;obtain ⟨a,ob,rfl,h2,h3⟩:=(h1.top R1).excI;exact ⟨a,_,ob,vC,_,b,rfl,h2,h3,k1,hv,k2,q _ w1 R1 F1 (.bl _)⟩
  | _=>exact q.elim
noncomputable def OpN(X:Cx)(cl:Cf)(op:Value->Value->Sem Value)(g:D->D->Option D):Prop:=OpR X op fun x y H Q=>∃w d e r,w.H=H/\TopV cl w x d/\TopV cl w y e/\g d e=some r/\∀p o w',Grow w w'->w'.H p=none->Top cl w' o r->Q (.ref p) (upd w'.H p o)
def zwZ{a b:Expr}{h:Fe}{gg:D->D->Option D}{r2:R2}(hr:∀x y H Q,(∃w d e r,w.H=H/\TopV cl w x d/\TopV cl w y e/\gg d e=some r/\∀p o w',Grow w w'->w'.H p=none->Top cl w' o r->Q (.ref p) (upd w'.H p o))->r2 x y H Q)(σ:St)(H:Hp)(Q:VK)(q:tN cl E (zaj gg f h) σ H Q):tOp r2 (tH cl E f) (tH cl E h) σ H Q:=by
 obtain ⟨B,w,ρ,S,rfl,R,q⟩:=q;refine ⟨B,w,ρ,S,rfl,R,?_⟩;unfold zaj at q
 cases hf:f ρ S with
 | bad=>rwa [hf] at q
 | exc c S1=>rwa [hf] at q
 | ok d S1 =>
  rw [hf] at q;intro v w1 R1 F1 h1;refine ⟨B,w1,ρ,S1,rfl,R1,?_⟩;dsimp only [Out.bind] at q
  cases hh:h ρ S1 with
  | bad=>rwa [hh] at q
  | exc c S2=>rw [hh] at q;exact fun w2 R2 F2=>q w2 R2 (F1.trans F2)
  | ok e S2 =>
   rw [hh] at q;intro y w2 R2 F2 h2;dsimp only at q
   cases hg:gg d e with
   | none=>rw [hg] at q;exact q.elim
   | some r =>
    rw [hg] at q;exact hr _ _ _ _ ⟨w2,d,e,r,rfl,(h1.up F2).top R2,h2.top R2,hg,fun p o w' gr hp t=>q p o w' (R2.grow gr) (F1.trans (F2.trans gr.fut)) hp t⟩
noncomputable def zhJ:D->D->Option D
 | .lst a,.int j=>if decide (0<=j/\j<=1000/\a.length<=1000) then some (.lst (List.replicate j.toNat a).flatten) else none
 | _,_=>none
def zpG:OpN X cl (binaryOp .Mult) zhJ:=by
 intro pins s σ H x y v u Q I rx ry h;obtain ⟨w,d,e,r,rfl,hx,hy,hg,q⟩:=h;unfold zhJ at hg;split at hg
 ·rename_i a j;split at hg
  ·rename_i hz;cases hg;have hz':=yaj hz;obtain ⟨p,xs,rfl,ep,rs⟩:=hx.lstI;obtain rfl:=hy.intI;have hl:=rs.length;refine zr7 pins s σ w.H _ _ v u Q I rx ry ⟨p,j,xs,rfl,rfl,ep,by omega,by omega,?_,fun l hl=>q l _ w (Grow.refl _) hl (.lst (rs.flat _))⟩;refine yau (Nat.mul_le_mul (show xs.length<=1000 by omega) (show j.toNat<=1000 by omega)) (by decide)
  ·cases hg
 ·cases hg
def zo1(ha:PE X a (tH cl E f))(hb:PE X b (tH cl E h)):PE X (.BinOp a .Mult b pos) (tN cl E (zaj zhJ f h)) :=
 PE.imp (zrY zpG ha hb) (zwZ (a:=a) (b:=b) fun _ _ _ _ z=>z)
noncomputable def zp8:Expr->Bool | .List _ _=>true | _=>false
noncomputable def zsR:Operator->Bool | .Mult=>true | _=>false
end
end S2
namespace PySem.F
end PySem.F
namespace L2
open PySem PySem.Spec PyProof.Rows
end L2
namespace PySem.F
end PySem.F
namespace L2
open PySem PySem.Spec PyProof.Rows
end L2
namespace S2
open PySem PySem.Spec PyProof.Rows L2
section
variable{X:Cx}{cl:Cf}{E:St->XK}{e:Expr}{f:Fe}{pos:Pos}
noncomputable def zpX:D->Option (List Int) | .tup l=>zd8 l | _=>none
def keysOf:List D->Option (List (List Int))
 | []=>some []
 | d::l=>(zpX d).bind fun k=>(keysOf l).bind fun ks=>some (k::ks)
def zdv:D->Option D | .tup l=>(keysOf l).bind fun ks=>if ks.length<=5/\ks.Nodup then some (.int ks.length) else none | _=>none
theorem zk1{K:PySem.W.Frag}{w:Wd}:∀{xs:List V} {ds:List D} {ks:Z2},Shds cl w xs ds->keysOf ds=some ks->zhm K w.H xs ks
 | _,_,ks,.nil,h=>by cases h;exact .nil
 | _,_,ks,.cons r t,h=>by
  unfold keysOf at h;rename_i v d vs ds'
  cases hk:zpX d with
  | none=>rw [hk] at h;cases h
  | some k =>
   rw [hk] at h;dsimp only [Option.bind] at h
   cases hks:keysOf ds' with
   | none=>rw [hks] at h;cases h
   | some ks' =>
    rw [hks] at h;cases h;refine .cons ?_ (zk1 t hks)
    cases r with
    | tup e' _ rs =>
     have:zd8 _=some k:=hk;obtain rfl:=zk9 rs this;exact ⟨_,rfl,SqT.of e'⟩
    | _=>cases hk
theorem zkd{p p2 pos2:Pos}(hc:X.calm=true)(hu:X.A.units+8<cLine)(hg:Gl X "len")(hm:X.mg "len" = none)(hg2:Gl X "set")(hm2:X.mg "set" = none)(he:PE X e (tE cl E f))(hs:starEach [e] X.env=[(false,eval e X.env)]) :
  PE X (.Call (.Name "len" p) [.Call (.Name "set" p2) [e] [] pos2] [] pos) (tE cl E (eUn zdv f)):=by
 refine PE.imp (zde zf8 hg hm PySem.boot_len (zaU (zcT (ze8 hc hu) hg2 hm2 (by decide +kernel) (zaT he zej hs) (he:=hs) (hpl:=rfl)) zbG)) ?_;rintro σ H Q ⟨B,w,ρ,S,rfl,R,q⟩;refine ⟨B,w,ρ,S,rfl,R,?_⟩;unfold eUn at q
 cases hf:f ρ S with
 | bad=>rw [hf] at q;exact q.elim
 | exc c S1=>rw [hf] at q;simp only [zau,hf,Out.bind];exact q
 | ok d S1 =>
  rw [hf] at q;simp only [zau,hf,Out.bind];intro vs w1 R1 F1 sh;dsimp only [Out.bind] at q
  cases d with
  | tup l =>
   cases hk:keysOf l with
   | none=>simp [zdv,hk,Out.of] at q
   | some ks =>
    by_cases h18:ks.length<=5/\ks.Nodup
    ·simp only [zdv,hk,Option.bind,if_pos h18] at q
     cases sh with
     | cons h1 hn =>
      cases hn
      cases h1 with
      | tup ep k r =>
       refine ⟨_,_,ks,rfl,SqT.of ep,zk1 r hk,h18.1,h18.2,fun l hl=>?_⟩;refine ⟨l,_,rfl,zap,yau h18.1 (by decide),?_⟩;exact q _ (w1.add l (.ext (zi9 l ks.length))) (R1.grow (zaH hl _)) (F1.trans (zaH hl _).fut) (.int _)
    ·simp only [zdv,hk,Option.bind,if_neg h18,Out.of] at q
  | _=>exact q.elim
end
noncomputable def zjp(f:Str)(o:Bool)(d:D):List (Str×Bool×D)->List (Str×Bool×D)
 | []=>[(f,o,d)]
 | (g,x)::r=>if g=f then (g,o,d)::r else (g,x)::zjp f o d r
def Ob.put(ob:Ob)(f:Str)(o:Bool)(d:D):Ob:=⟨ob.cls,zjp f o d ob.fs⟩
section
variable{cl:Cf}{w:Wd}{n:Nat}
def zcP.len(h:zcP cl w n fs gs):fs.length=gs.length:=Paired.length h
def zcP.look(h:zcP cl w n fs gs)(e:gs.lookup f=some (o,d)):∃v,fs.lookup f=some v/\zh7 cl w (.fld n f) o v d:=by
 induction h with
 | nil=>cases e
 | @cons p q l1 l2 h t ih =>
  obtain ⟨h1,h2⟩:=h;obtain ⟨g,v⟩:=p;obtain ⟨g',o',d'⟩:=q;have h1':g=g':=h1;subst h1';rw [yaB] at e ⊢
  cases hb:f == g with
  | true =>
   rw [hb] at e;cases e;have:=eq_of_beq hb;subst this;exact ⟨v,rfl,h2⟩
  | false =>
   rw [hb] at e;exact ih e
def zcP.miss(h:zcP cl w n fs gs)(e:gs.lookup f=none):fs.lookup f=none:=by
 induction h with
 | nil=>rfl
 | @cons p q l1 l2 h t ih =>
  obtain ⟨h1,h2⟩:=h;obtain ⟨g,v⟩:=p;obtain ⟨g',o',d'⟩:=q;have h1':g=g':=h1;subst h1';rw [yaB] at e ⊢
  cases hb:f == g with
  | true=>rw [hb] at e;cases e
  | false=>rw [hb] at e;exact ih e
def zcP.put(h:zcP cl w n fs gs)(hy:zh7 cl w (.fld n f) o y d):zcP cl w n (zdq f y fs) (zjp f o d gs):=by
 induction h with
 | nil=>exact .cons ⟨rfl,hy⟩ .nil
 | @cons p q l1 l2 h t ih =>
  obtain ⟨h1,h2⟩:=h;obtain ⟨g,v⟩:=p;obtain ⟨g',o',d'⟩:=q;have h1':g=g':=h1;subst h1';show zcP cl w n (if g=f then (g,y)::l1 else (g,v)::zdq f y l1) (if g=f then (g,o,d)::l2 else (g,o',d')::zjp f o d l2)
  by_cases hg:g=f
  ·subst hg;rw [if_pos rfl,if_pos rfl];exact .cons ⟨rfl,hy⟩ t
  ·rw [if_neg hg,if_neg hg];exact .cons ⟨rfl,h2⟩ ih
def zcP.keepBut(f:Fut w w')(k:∀a o g,g≠x->w.H a=some o->w.ow a=some (.fld n g)->w'.H a=some o/\w'.ow a=some (.fld n g))(h:zcP cl w n fs gs)(hn:∀q∈gs,q.1=x->q.2.1=false):zcP cl w' n fs gs:=by
 induction h with
 | nil=>exact .nil
 | @cons p q l1 l2 h t ih =>
  obtain ⟨h1,h2⟩:=h;refine .cons ⟨h1,?_⟩ (ih fun q hq=>hn q (yar _ hq))
  by_cases hx:q.1=x
  ·have ho:=hn q yaw hx;rw [ho] at h2 ⊢
   rcases h2 with ⟨_,h2⟩ | ⟨e,_⟩
   ·exact .inl ⟨rfl,Shd.up f h2⟩
   ·cases e
  ·exact h2.keep f fun a o ha hr=>k a o q.1 hx ha hr
def zcP.keepF(f:Fut w w')(k:∀a o g,w.H a=some o->w.ow a=some (.fld n g)->w'.H a=some o/\w'.ow a=some (.fld n g))(h:zcP cl w n fs gs):zcP cl w' n fs gs:=by
 induction h with
 | nil=>exact .nil
 | @cons p q l1 l2 h t ih=>exact .cons ⟨h.1,h.2.keep f fun a o ha hr=>k a o q.1 ha hr⟩ ih
variable{B:Base}{σ:St}{ρ:Env}{S:Sto}
def World'.atObj(W:World' cl B w S)(h:S[n]?=some ob)(e:w.mu[n]?=some a):ztu cl w n a ob:=by
 obtain ⟨a',e',x⟩:=W.obj n ob h;rw [e] at e';cases e';exact x
def zhN(h:(S.set n ob)[m]?=some ob'):(m=n/\ob'=ob)\/(m≠n/\S[m]?=some ob'):=by
 by_cases e:n=m
 ·subst e
  have hlt:n<S.length:=by
   have:=(yai.mp h).1;rwa [yaJ] at this
  rw [yaC hlt] at h;cases h;exact .inl ⟨rfl,rfl⟩
 ·rw [yaO e] at h;exact .inr ⟨fun z=>e z.symm,h⟩
def Rel.setf(R:Rel cl B σ w ρ S)(hn:S[n]?=some ob)(hmu:w.mu[n]?=some a)(how:w.ow a=some (.obj n))(hH:w.H a=some (.ins (cl ob.cls) dx fs))(hF:zcP cl w n fs ob.fs)(hy:Shd cl w y d) :
  Rel cl B σ (w.mut a (.ins (cl ob.cls) dx (zdq f y fs))) ρ (S.set n (ob.put f false d))/\Fut w (w.mut a (.ins (cl ob.cls) dx (zdq f y fs))):=by
 have ff:=zdX (w:=w) (p:=a) (o:=.ins (cl ob.cls) dx (zdq f y fs)) (by rw [how];exact yaD _)
 have kp:∀b u,w.H b=some u->w.ow b≠some (.obj n)->(w.mut a (.ins (cl ob.cls) dx (zdq f y fs))).H b=some u/\(w.mut a (.ins (cl ob.cls) dx (zdq f y fs))).ow b=w.ow b:=fun b u hb hne=>⟨by
  show upd w.H a _ b=_
  rw [zag (fun z=>hne (by rw [z];exact how))];exact hb,rfl⟩
 have hB:B.Fr a=none:=(R.wd.own a _ how).elim (fun z=>by cases z) fun z=>z
 refine ⟨⟨⟨fun b u h=>?_,R.wd.own,by rw [yaJ];exact R.wd.len,fun m ob' h=>?_,R.wd.tab.keep ff fun P ps h1 h2=>⟨(kp P _ h1 (by rw [h2];simp)).1,(kp P _ h1 (by rw [h2];simp)).2.trans h2⟩⟩,R.len,fun i o e h=>?_⟩,ff⟩
 ·refine ⟨?_,(R.wd.fr b u h).2⟩;show upd w.H a _ b=_;rw [zag (fun z=>by rw [z,hB] at h;cases h)];exact (R.wd.fr b u h).1
 ·rcases zhN h with ⟨rfl,rfl⟩ | ⟨hne,h⟩
  ·refine ⟨a,hmu,how,dx,_,zap,?_⟩;exact zcP.put (hF.keepF ff fun b u g hb hg=>⟨(kp b u hb (by rw [hg];exact fun z=>by cases z)).1,hg⟩) (.inl ⟨rfl,hy.up ff⟩)
  ·obtain ⟨b,e,x⟩:=R.wd.obj m ob' h;exact ⟨b,e,x.keep ff fun b u hb hm=>kp b u hb fun z=>by rw [z] at hm;exact hne hm.symm⟩
 ·obtain ⟨v,e1,x⟩:=R.slots i o e h;exact ⟨v,e1,x.keep ff fun b u hb hr=>⟨(kp b u hb (by rw [hr];exact fun z=>by cases z)).1,hr⟩⟩
def Wd.addF(w:Wd)(p:Addr)(o:HO)(n:Nat)(f:Str):Wd:=⟨upd w.H p o,fun b=>if b=p then some (.fld n f) else w.ow b,w.mu⟩
noncomputable def zd7(ob:Ob):Bool:=decide (ob.fs.map (·.1)).Nodup
def zcP.dic(ff:Fut w w')(k:∀b o g,g≠f->w.H b=some o->w.ow b=some (.fld n g)->w'.H b=some o/\w'.ow b=some (.fld n g))(hy:zh7 cl w' (.fld n f) true (.ref a) d):∀{fs:List (Str×V)} {gs:List (Str×Bool×D)},zcP cl w n fs gs->(gs.map (·.1)).Nodup->fs.lookup f=some (.ref a)->zcP cl w' n fs (zjp f true d gs):=by
 intro fs gs h
 induction h with
 | nil=>intro _ e;cases e
 | @cons p q l1 l2 h t ih =>
  intro nd e;obtain ⟨h1,h2⟩:=h;obtain ⟨g,v⟩:=p;obtain ⟨g',o',d'⟩:=q;have h1':g=g':=h1;subst h1';rw [yaz,ya6] at nd;show zcP cl w' n ((g,v)::l1) (if g=f then (g,true,d)::l2 else (g,o',d')::zjp f true d l2);rw [yaB] at e
  by_cases hg:g=f
  ·subst hg;rw [if_pos rfl];simp only [ybx] at e;cases e;refine .cons ⟨rfl,hy⟩ ?_;have t':zcP cl w n l1 l2:=t;exact t'.keepBut ff k fun q hq hx=>absurd (yax.mpr ⟨q,hq,hx⟩) nd.1
  ·rw [if_neg hg];have hb:(f == g)=false:=yaY.mpr fun z=>hg z.symm
   rw [hb] at e;exact .cons ⟨rfl,h2.keep ff fun b o hb hr=>k b o g hg hb hr⟩ (ih nd.2 e)
def Wd.addO(w:Wd)(x dx C:Addr)(n:Nat):Wd:=⟨upd (upd w.H dx (.own x)) x (.ins C dx []),fun b=>if b=x then some (.obj n) else if b=dx then none else w.ow b,w.mu++[x]⟩
theorem Rel.made(R:Rel cl B σ w ρ S)(hx:w.H x=none)(hdx:w.H dx=none)(ne:dx≠x):Rel cl B σ (w.addO x dx (cl c) S.length) ρ (S++[⟨c,[]⟩])/\Fut w (w.addO x dx (cl c) S.length):=by
 have kp:∀b o,w.H b=some o->(w.addO x dx (cl c) S.length).H b=some o/\(w.addO x dx (cl c) S.length).ow b=w.ow b:=fun b o hb=>by
  have n1:b≠x:=zaw hb hx;have n2:b≠dx:=zaw hb hdx;refine ⟨?_,?_⟩
  ·show upd (upd w.H dx _) x _ b=_;rw [zag n1,zag n2];exact hb
  ·show (if b=x then _ else if b=dx then _ else w.ow b)=_;rw [if_neg n1,if_neg n2]
 have ff:Fut w (w.addO x dx (cl c) S.length):=⟨fun b o hb hk=>⟨(kp b o hb).1,(kp b o hb).2.trans hk⟩,fun n a h=>by
  show (w.mu++[x])[n]?=some a
  rw [yat (yai.mp h).1];exact h⟩
 have hBx:B.Fr x=none:=by
  cases z:B.Fr x with
  | none=>rfl
  | some u=>have:=(R.wd.fr x u z).1;rw [hx] at this;cases this
 refine ⟨⟨⟨fun b o h=>?_,fun b r h=>?_,by show (w.mu++[x]).length=_;rw [yan,yan,R.wd.len];rfl,fun m ob h=>?_,R.wd.tab.keep ff fun P ps h1 h2=>⟨(kp P _ h1).1,(kp P _ h1).2.trans h2⟩⟩,R.len,fun i o e h=>?_⟩,ff⟩
 ·have:=kp b o (R.wd.fr b o h).1;exact ⟨this.1,this.2.trans (R.wd.fr b o h).2⟩
 ·have h':(if b=x then some (Root.obj S.length) else if b=dx then none else w.ow b)=some r:=h;split at h'
  ·rename_i z;rw [z];exact .inr hBx
  ·split at h'
   ·cases h'
   ·exact R.wd.own b r h'
 ·by_cases hm:m<S.length
  ·rw [yat hm] at h;obtain ⟨b,e,y⟩:=R.wd.obj m ob h;exact ⟨b,ff.mu _ _ e,y.keep ff fun b o hb _=>kp b o hb⟩
  ·have hm':m=S.length:=by
    have:=(yai.mp h).1;rw [yan,List.length_singleton] at this;omega
   subst hm';rw [yay (yag _),ybk] at h;cases h;refine ⟨x,?_,if_pos rfl,dx,[],zap,.nil⟩;show (w.mu++[x])[S.length]?=some x;rw [yay (by rw [R.wd.len];exact yag _),R.wd.len,ybk];rfl
 ·obtain ⟨v,e1,y⟩:=R.slots i o e h;exact ⟨v,e1,y.keep ff fun b o hb hr=>⟨(kp b o hb).1,(kp b o hb).2.trans hr⟩⟩
end
noncomputable def zob(cn f:Str)(d:D)(S:Sto):Option D:=match d with
 | .ref n=>(match S[n]? with
  | some ob=>if ob.cls=cn then (match ob.fs.lookup f with | some (false,d)=>some d | _=>none) else none
  | none=>none)
 | _=>none
def zm9(cn f:Str)(fe:Fe):Fe:=fun ρ S=>(fe ρ S).bind fun d S1=>match zob cn f d S1 with | some r=>.ok r S1 | none=>.bad
noncomputable def zeX(cl:Cf)(cn f:Str):Prop:=Cls cl.K (cl cn)/\zci cl.K (cl cn) f
section
variable{cl:Cf}{cn:Str}{X:Cx}{E:St->XK}{e:Expr}{fe:Fe}{f:Str}{pos:Pos}{B:Base}{σ:St}{w:Wd}{ρ:Env}{S:Sto}
def zeW(R:Rel cl B σ w ρ S)(hv:Shd cl w v (.ref n))(hn:S[n]?=some ob):∃a dx fs,v=.ref a/\w.mu[n]?=some a/\w.ow a=some (.obj n)/\w.H a=some (.ins (cl ob.cls) dx fs)/\zcP cl w n fs ob.fs:=by
 cases hv with
 | ref e =>
  obtain ⟨h1,dx,fs,h2,h3⟩:=R.wd.atObj hn e;exact ⟨_,dx,fs,rfl,e,h1,h2,h3⟩
def ztl(hk:zeX cl cn f)(R:Rel cl B σ w ρ S)(hv:Shd cl w v d)(hd:zob cn f d S=some r):∃a C dx fs y,v=.ref a/\w.H a=some (.ins C dx fs)/\Cls cl.K C/\zci cl.K C f/\fs.lookup f=some y/\Shd cl w y r:=by
 unfold zob at hd
 cases d with
 | ref n =>
  dsimp only at hd
  cases hS:S[n]? with
  | none=>rw [hS] at hd;cases hd
  | some ob =>
   rw [hS] at hd;dsimp only at hd;split at hd
   ·rename_i hfk;split at hd
    ·rename_i d hl;cases hd;obtain ⟨a,dx,fs,rfl,_,_,hH,hF⟩:=zeW R hv hS;obtain ⟨v,lv,fr⟩:=hF.look hl
     rcases fr with ⟨_,fr⟩ | ⟨z,_⟩
     ·exact ⟨a,_,dx,fs,v,rfl,hH,hfk ▸ hk.1,hfk ▸ hk.2,lv,fr⟩
     ·cases z
    ·cases hd
   ·cases hd
 | _=>cases hd
def zrB(hk:zeX cl cn f)(kk:X.K=cl.K)(he:PE X e (tE cl E fe))(hb:attributeBase e f X.env (eval e X.env)=eval e X.env):PE X (.Attribute e f pos) (tE cl E (zm9 cn f fe)):=by
 refine PE.imp (zbQ he hb) ?_;rintro σ H Q ⟨B,w,ρ,S,rfl,R,q⟩;refine ⟨B,w,ρ,S,rfl,R,?_⟩;unfold zm9 at q
 cases hf:fe ρ S with
 | bad=>rwa [hf] at q
 | exc c S1=>rwa [hf] at q
 | ok d S1 =>
  rw [hf] at q;intro v w1 R1 F1 h1;dsimp only [Out.bind] at q
  cases hd:zob cn f d S1 with
  | none=>rw [hd] at q;exact q.elim
  | some r =>
   rw [hd] at q;obtain ⟨a,C,dx,fs,y,rfl,e1,e2,e3,e4,e5⟩:=ztl hk R1 h1 hd;rw [kk];exact ⟨a,C,dx,fs,y,rfl,e1,e2,e3,e4,q y w1 R1 F1 e5⟩
end
end S2
namespace L2
open PySem PySem.Spec PyProof.Rows
end L2
namespace S2
open PySem PySem.Spec PyProof.Rows L2
def zki(cn f:Str)(fo fe:Fe):Fs:=fun ρ S=>match fe ρ S with
 | .bad=>.bad
 | .exc c S1=>.ex c ρ S1
 | .ok r S1=>(match fo ρ S1 with
  | .bad=>.bad
  | .exc c S2=>.ex c ρ S2
  | .ok (.ref n) S2=>(match S2[n]? with
   | some ob=>if decide (ob.cls=cn)&&decide (ob.fs.length<1000) then .nx ρ (S2.set n (ob.put f false r)) else .bad
   | none=>.bad)
  | .ok _ _=>.bad)
noncomputable def zaz(c m:Str)(d:D)(S:Sto):Bool:=match d with
 | .ref n=>(match S[n]? with | some ob=>decide (ob.cls=c)&&(ob.fs.lookup m).isNone | none=>false)
 | _=>false
def zaR(c m:Str)(G:List D->Sto->Out D)(fo:Fe)(fs:List Fe):Fe:=fun ρ S=>(fo ρ S).bind fun d S1=>if zaz c m d S1 then (zau fs ρ S1).bind fun ds S2=>G (d::ds) S2 else .bad
def eMk(c:Str)(dds:List D)(G:List D->Sto->Out D)(fs:List Fe):Fe:=fun ρ S=>(zau fs ρ S).bind fun ds S1=>(G (.ref S1.length::(ds++dds)) (S1++[⟨c,[]⟩])).bind fun r S2=>match r with | .non=>.ok (.ref S1.length) S2 | _=>.bad
structure Same'(cl:Cf)(X:Cx):Prop where
 kk:X.K=cl.K
 pp:X.prog=cl.P
 ww:X.w=cl.wo
section
variable{cl:Cf}{cn:Str}{X:Cx}{E:St->XK}{a o e:Expr}{fa fo fe:Fe}{f:Str}{pos apos:Pos}{own:Bool}
def zoN(sm:Same' cl X)(hk:zeX cl cn f)(ho:PE X o (tE cl E fo))(he:PE X e (tE cl E fe))(hs:swapsWith e (some (.Attribute o f apos)) pos.line X.env=pure false):PS X (.Assign [.Attribute o f apos] e pos) (tS cl E own (zki cn f fo fe)):=by
 refine PS.imp (zgB ho he hs) ?_;rintro De σ H ⟨B,w,ρ,S,rfl,R,q⟩;refine ⟨B,w,ρ,S,rfl,R,?_⟩;unfold zki at q
 cases hf:fe ρ S with
 | bad=>rwa [hf] at q
 | exc c S1=>rw [hf] at q;exact fun w' R' F'=>q σ w' R' F'
 | ok r S1 =>
  rw [hf] at q;intro v w1 R1 F1 h1;dsimp only at q;refine ⟨B,w1,ρ,S1,rfl,R1,?_⟩
  cases hfo:fo ρ S1 with
  | bad=>rwa [hfo] at q
  | exc c S2=>rw [hfo] at q;exact fun w' R' F'=>q σ w' R' (F1.trans F')
  | ok d S2 =>
   rw [hfo] at q;intro y w2 R2 F2 h2
   cases d with
   | ref n =>
    dsimp only at q
    cases hS:S2[n]? with
    | none=>rw [hS] at q;exact q.elim
    | some ob =>
     rw [hS] at q;dsimp only at q;split at q
     ·rename_i hc0;rw [yaa] at hc0;obtain ⟨a,dx,fs,rfl,hmu,how,hH,hF⟩:=zeW R2 h2 hS;rw [sm.kk];refine ⟨a,_,dx,fs,rfl,hH,yaj hc0.1 ▸ hk.1,yaj hc0.1 ▸ hk.2,by rw [hF.len];exact yaj hc0.2,?_⟩;obtain ⟨R3,F3⟩:=R2.setf (f:=f) hS hmu how hH hF (h1.up F2);exact q σ _ R3 (F1.trans (F2.trans F3))
     ·exact q.elim
   | _=>exact q.elim
end
noncomputable def zgm(C:Addr)(m:Str)(sp:Sp)(dvs:List V)(E:St->XK)(ta:TE)(t:TA):TE:=fun σ H Q=>ta σ H fun x H1=>∃a dx fs,x=.ref a/\H1 a=some (.ins C dx fs)/\fs.lookup m=none ∧
 t σ H1 fun vs H2=>sp (x::(vs++dvs)) H2 Q (E σ)
noncomputable def znB(C:Addr)(sp:Sp)(dvs:List V)(E:St->XK)(t:TA):TE:=fun σ H Q=>t σ H fun vs H1=>∀x dx,H1 x=none->H1 dx=none->dx≠x →
 sp (.ref x::(vs++dvs)) (upd (upd H1 dx (.own x)) x (.ins C dx [])) (fun v H2=>v=.non/\Q (.ref x) H2) (E σ)
section
variable{X:Cx}{CX:CXT}{k:Nat}{f C:Addr}{fd:FuncData}{ps:List Str}{sp:Sp}{dvs:List V}{ds:List Value}{E:St->XK}{x m:Str}{p pos apos:Pos}{e o:Expr}{es:List Expr}{ta:TE}{t:TA}
def zmv(he:PE X o ta)(c:Cls X.K C)(hm:Meth X.K C m f)(F:FnOk X.prog X.w X.K X.mg X.base CX k f fd ps sp)(hr:Room k X.A)(hb:zcM X.K fd ps ds)(hd:Vals dvs ds)(hx:zc7 CX X E)(ha:PA X (e::es) t)
  (hst:starEach (e::es) X.env=(false,eval e X.env)::starEach es X.env) (hpl:(backTo pos (starEach es X.env)).any (·.1)=false)
  (ht:eval (.Call (.Attribute o m apos) (e::es) [] pos) X.env=(do
   let ov ← eval o X.env
   standAt apos.atName
   let (f,first) ← holding [ov] (getMethod ov m pl)
   callWith pos f first (backTo pos (starEach (e::es) X.env)) (backToKw pos (keywordEach [] X.env)))) :
  PE X (.Call (.Attribute o m apos) (e::es) [] pos) (zgm C m sp dvs E ta t):=by
 intro pins s σ H Q I h;refine PySem.W.methodCall_KW (pl:=pl) (thn (he pins s σ H _ I h) fun u s1 ⟨x,H1,I1,rx,a,dx,fs,ex,ea,l,q⟩=>?_) ht;subst ex;obtain rfl:u=Value.ref a:=rx;refine zfm I1 ea c hm l ?_;refine ybF (first:=[.ref a]) (h₀:=X.base) I.ok.mod.kin hm.kp (thn (ha pos pins s1 σ H1 _ I1 q) fun us s2 ⟨vs,H2,I2,r,q2⟩=>⟨I2.kIn,?_⟩) hst hpl;exact zfI (us:=.ref a::us) (vs:=.ref a::vs) F hr hb hd hx I2 (.cons rfl r) q2
def zkJ(he:PE X o ta)(c:Cls X.K C)(hm:Meth X.K C m f)(F:FnOk X.prog X.w X.K X.mg X.base CX k f fd ps sp)(hr:Room k X.A)(hb:zcM X.K fd ps ds)(hd:Vals dvs ds)(hx:zc7 CX X E)
  (ht:eval (.Call (.Attribute o m apos) [] [] pos) X.env=(do
   let ov ← eval o X.env
   standAt apos.atName
   let (f,first) ← holding [ov] (getMethod ov m pl)
   callWith pos f first (backTo pos (starEach [] X.env)) (backToKw pos (keywordEach [] X.env)))) :
  PE X (.Call (.Attribute o m apos) [] [] pos) (zgm C m sp dvs E ta zty):=by
 intro pins s σ H Q I h;refine PySem.W.methodCall_KW (pl:=pl) (thn (he pins s σ H _ I h) fun u s1 ⟨x,H1,I1,rx,a,dx,fs,ex,ea,l,q⟩=>?_) ht;subst ex;obtain rfl:u=Value.ref a:=rx;refine zfm I1 ea c hm l ?_;exact PySem.W.callWith_K0 (first:=[.ref a]) I1.kIn hm.kp (zfI (us:=[.ref a]) (vs:=[.ref a]) F hr hb hd hx I1 (.cons rfl .nil) q)
def zko(M:Mk X.K C f)(F:FnOk X.prog X.w X.K X.mg X.base CX k f fd ps sp)(hr:Room (k+1) X.A)(hb:zcM X.K fd ps ds)(hd:Vals dvs ds)
  (hx:zc7 CX X E) (I:Inv X pins σ H s) (r:Vals vs us)
  (h:∀x dx,H x=none->H dx=none->dx≠x->sp (.ref x::(vs++dvs)) (upd (upd H dx (.own x)) x (.ins C dx [])) (fun v H2=>v=.non/\Q (.ref x) H2) (E σ)) :
  wpAny (model X.prog X.w) X.A (call (.ref C) us) (EP X pins σ Q) X.xe s:=by
 have hq:=h (s.heap.objs.size+1) s.heap.objs.size (I.hok.fresh (ya4 _)) (I.hok.fresh (yag _)) (yas (ybV _));have I2:=Inv.made (C:=C) I;have r2:Vals (V.ref (s.heap.objs.size+1)::(vs++dvs)) (Value.ref (s.heap.objs.size+1)::(us++ds)):=.cons rfl (r.append hd)
 have hl:(Value.ref (s.heap.objs.size+1)::us++ds).length=ps.length:=by
  have e:=r2.length;rw [F.len _ _ _ _ hq] at e;exact e.symm
 refine ycO (zmP (f:=f) I.kIn M.makes M.init (ybP.mp M.fn) (ybu (F.run _ X.stack _ _ ⟨Value.ref (s.heap.objs.size+1)::us,[]⟩ (Value.ref (s.heap.objs.size+1)::(us++ds)) _ _ (E σ) (hr.make C us [])
  (I2.env0.make C us []) (hb _ (Value.ref (s.heap.objs.size+1)::us) I2.kIn hl) r2 hq) fun r s' hq'=>?_))
 cases r with
 | error e=>exact hx pins σ _ _ e s' I2 hq'
 | ok fl =>
  cases fl with
  | ret u =>
   obtain ⟨v,H',I3,rv,ev,q3⟩:=I2.after hq';subst ev;exact ⟨rv,⟨V.ref (s.heap.objs.size+1),H',I3,rfl,q3⟩⟩
  | next=>exact False.elim hq'
  | brk=>exact False.elim hq'
  | cont=>exact False.elim hq'
def ziA(M:Mk X.K C f)(F:FnOk X.prog X.w X.K X.mg X.base CX k f fd ps sp)(hr:Room (k+1) X.A)(hg:Gl X x)(hm:X.mg x=some (.ref C))(hb:zcM X.K fd ps ds)(hd:Vals dvs ds)(hx:zc7 CX X E)
  (ha:PA X (e::es) t) (hdb:(x == ("__debug__":Str))=false) (he:starEach (e::es) X.env=(false,eval e X.env)::starEach es X.env) (hpl:(backTo pos (starEach es X.env)).any (·.1)=false) :
  PE X (.Call (.Name x p) (e::es) [] pos) (znB C sp dvs E t):=by
 intro pins s σ H Q I h;refine ya0 (zcW I hg hm ?_ hdb);refine ybF (h₀:=X.base) I.ok.mod.kin M.kp (thn (ha pos pins s σ H _ I h) fun us s1 ⟨vs,H1,I1,r,q⟩=>⟨I1.kIn,?_⟩) he hpl;exact zko M F hr hb hd hx I1 r q
end
section
variable{cl:Cf}{E:St->XK}{fs:List Fe}{fo:Fe}{G:List D->Sto->Out D}{σ:St}{H:Hp}{Q:VK}{n:Nat}{c m:Str}{ρ:Env}
theorem zdN:∀{fs:List Fe} {S S1:Sto} {ds:List D},zau fs ρ S=.ok ds S1->ds.length=fs.length
 | [],S,S1,ds,h=>by cases h;rfl
 | f::fs,S,S1,ds,h=>by
  unfold zau at h
  cases h1:f ρ S with
  | bad=>rw [h1] at h;cases h
  | exc c S2=>rw [h1] at h;cases h
  | ok d S2 =>
   rw [h1] at h;dsimp only [Out.bind] at h
   cases h2:zau fs ρ S2 with
   | bad=>rw [h2] at h;cases h
   | exc c S3=>rw [h2] at h;cases h
   | ok es S3=>rw [h2] at h;cases h;rw [yaf,yaf,zdN h2]
def zkS(R:Rel cl B σ w ρ S)(hv:Shd cl w v d)(h:zaz c m d S=true):∃a dx fs,v=.ref a/\w.H a=some (.ins (cl c) dx fs)/\fs.lookup m=none:=by
 unfold zaz at h
 cases d with
 | ref n =>
  dsimp only at h
  cases hS:S[n]? with
  | none=>rw [hS] at h;cases h
  | some ob =>
   rw [hS] at h;dsimp only at h;rw [yaa] at h;obtain ⟨a,dx,fs,rfl,_,_,hH,hF⟩:=zeW R hv hS;have e:=yaj h.1;subst e;exact ⟨a,dx,fs,rfl,hH,hF.miss (by simpa using h.2)⟩
 | _=>cases h
def zsA(q:tE cl E (zaR c m G fo fs) σ H Q)(hn:fs.length+1=n):zgm (cl c) m (zgh cl n false G) [] E (tE cl E fo) (tAs cl E fs) σ H Q:=by
 obtain ⟨B,w,ρ,S,rfl,R,q⟩:=q;refine ⟨B,w,ρ,S,rfl,R,?_⟩;unfold zaR at q
 cases hfo:fo ρ S with
 | bad=>rwa [hfo] at q
 | exc c S1=>rwa [hfo] at q
 | ok d S0 =>
 rw [hfo] at q;intro v w0 R0 F0 h0;dsimp only [Out.bind] at q
 cases hok:zaz c m d S0 with
 | false=>rw [hok] at q;exact q.elim
 | true =>
 rw [hok,if_pos rfl] at q;obtain ⟨a,dx,fs',rfl,hH,hm⟩:=zkS R0 h0 hok;refine ⟨a,dx,fs',rfl,hH,hm,B,w0,ρ,S0,rfl,R0,?_⟩
 cases hf:zau fs ρ S0 with
 | bad=>rwa [hf] at q
 | exc c S1=>rw [hf] at q;exact fun w1 R1 F1=>q w1 R1 (F0.trans F1)
 | ok ds S1 =>
  rw [hf] at q;intro vs w1 R1 F1 h1;dsimp only at q;refine ⟨?_,w1.base,w1.inn,d::ds,S1,rfl,R1.wd.enter,?_,?_⟩
  ·rw [yaQ,yaf,h1.length,zdN hf];exact hn
  ·rw [yaQ];exact .cons ((h0.up F1).up (zbL w1)) (h1.up (zbL w1))
  cases hg:G (d::ds) S1 with
  | bad=>rwa [hg] at q
  | exc c S2 =>
   rw [hg] at q;intro w2 W2 F2;obtain ⟨R3,F3⟩:=R1.leave W2 F2;exact q (w1.back w2) R3 (F0.trans (F1.trans F3))
  | ok r S2 =>
   rw [hg] at q;intro v w2 W2 F2 r2;obtain ⟨R3,F3⟩:=R1.leave W2 F2;exact q v (w1.back w2) R3 (F0.trans (F1.trans F3)) (Shd.up (zcd W2) r2)
def zsz(q:tN cl E (zaR c m G fo fs) σ H Q)(hn:fs.length+1=n):zgm (cl c) m (zgh cl n true G) [] E (tE cl E fo) (tAs cl E fs) σ H Q:=by
 obtain ⟨B,w,ρ,S,rfl,R,q⟩:=q;refine ⟨B,w,ρ,S,rfl,R,?_⟩;unfold zaR at q
 cases hfo:fo ρ S with
 | bad=>rwa [hfo] at q
 | exc c S1=>rwa [hfo] at q
 | ok d S0 =>
 rw [hfo] at q;intro v w0 R0 F0 h0;dsimp only [Out.bind] at q
 cases hok:zaz c m d S0 with
 | false=>rw [hok] at q;exact q.elim
 | true =>
 rw [hok,if_pos rfl] at q;obtain ⟨a,dx,fs',rfl,hH,hm⟩:=zkS R0 h0 hok;refine ⟨a,dx,fs',rfl,hH,hm,B,w0,ρ,S0,rfl,R0,?_⟩
 cases hf:zau fs ρ S0 with
 | bad=>rwa [hf] at q
 | exc c S1=>rw [hf] at q;exact fun w1 R1 F1=>q w1 R1 (F0.trans F1)
 | ok ds S1 =>
  rw [hf] at q;intro vs w1 R1 F1 h1;dsimp only at q;refine ⟨?_,w1.base,w1.inn,d::ds,S1,rfl,R1.wd.enter,?_,?_⟩
  ·rw [yaQ,yaf,h1.length,zdN hf];exact hn
  ·rw [yaQ];exact .cons ((h0.up F1).up (zbL w1)) (h1.up (zbL w1))
  cases hg:G (d::ds) S1 with
  | bad=>rwa [hg] at q
  | exc c S2 =>
   rw [hg] at q;intro w2 W2 F2;obtain ⟨R3,F3⟩:=R1.leave W2 F2;exact q (w1.back w2) R3 (F0.trans (F1.trans F3))
  | ok r S2 =>
   rw [hg] at q;intro v w2 W2 F2 r2;obtain ⟨R3,F3⟩:=R1.leave W2 F2;obtain ⟨a,o,i,rfl,k1,k2,t⟩:=r2;have hfr:w1.base.Fr a=none:=(W2.own a _ k1).elim (fun z=>by cases z) fun z=>z
   have k3:(w1.back w2).ow a=some .far:=by
    show (if (w1.base.Fr a).isSome=true then w1.ow a else Root.out (w2.ow a))=_;rw [hfr,k1];rfl
   have hb:B.Fr a=none:=by
    cases z:B.Fr a with
    | none=>rfl
    | some u=>rw [zcJ R1.wd z] at hfr;cases hfr
   have hd:=zfX (w:=w1.back w2) (a:=a) (by rw [k3];exact yaD _);have:=q a o ((w1.back w2).del a) (R3.del k3 hb) (F0.trans (F1.trans (F3.trans hd))) (if_pos rfl) ((t.up (zcd W2)).up hd);rwa [zjW (w:=w1.back w2) k2] at this
def zvS(hdv:∀w,Shds cl w dvs dds)(q:tE cl E (eMk c dds G fs) σ H Q)(hn:fs.length+dds.length+1=n):znB (cl c) (zgh cl n false G) dvs E (tAs cl E fs) σ H Q:=by
 obtain ⟨B,w,ρ,S,rfl,R,q⟩:=q;refine ⟨B,w,ρ,S,rfl,R,?_⟩;unfold eMk at q
 cases hf:zau fs ρ S with
 | bad=>rwa [hf] at q
 | exc c S1=>rwa [hf] at q
 | ok ds S1 =>
  rw [hf] at q;intro vs w1 R1 F1 h1;dsimp only [Out.bind] at q;intro x dx hx hdx ne;obtain ⟨R2,F2⟩:=R1.made (c:=c) hx hdx ne
  have hmu:(w1.addO x dx (cl c) S1.length).mu[S1.length]?=some x:=by
   show (w1.mu++[x])[S1.length]?=some x;rw [yay (by rw [R1.wd.len];exact yag _),R1.wd.len,ybk];rfl
  refine ⟨?_,(w1.addO x dx (cl c) S1.length).base,(w1.addO x dx (cl c) S1.length).inn,.ref S1.length::(ds++dds),S1++[⟨c,[]⟩],rfl,R2.wd.enter,?_,?_⟩
  ·rw [yaf,yan,h1.length,zdN hf,(hdv w1).length];exact hn
  ·exact .cons (.ref hmu) (((h1.up F2).up (zbL _)).append (hdv _))
  cases hg:G (.ref S1.length::(ds++dds)) (S1++[⟨c,[]⟩]) with
  | bad=>rwa [hg] at q
  | exc c S2 =>
   rw [hg] at q;intro w2 W2 F3;obtain ⟨R3,F4⟩:=R2.leave W2 F3;exact q ((w1.addO x dx _ S1.length).back w2) R3 (F1.trans (F2.trans F4))
  | ok r S2 =>
   rw [hg] at q;intro v w2 W2 F3 r2
   cases r with
   | non =>
    obtain ⟨R3,F4⟩:=R2.leave W2 F3;refine ⟨by cases r2;rfl,q (.ref x) ((w1.addO x dx _ S1.length).back w2) R3 (F1.trans (F2.trans F4)) (.ref (F4.mu _ _ hmu))⟩
   | _=>exact q.elim
end
end S2
namespace L2
open PySem PySem.Spec PyProof.Rows
end L2
namespace S2
open PySem PySem.Spec PyProof.Rows L2
end S2
namespace PySem
open Sem (wp)
namespace F
def zgK:typeLookup (.type "list") "keys" = pure none:=by rw [typeLookup_type,builtinLookup_eq_fast];kernel_rfl
end F
section
variable{prog:Program}{w:World}{A:Around}{E:Z5}{s:Shared}{a:Addr}{o:Obj}
theorem zk0{xs:Array Value}{k:Nat}{sl:Array (Option Value)}{Q:Option Value->Shared->Prop}(hx:s.heap.get? a=some { cls:=.type "list",dict:=none,data:=.seq xs k,slots:=sl })(hA:A.handled=none)
  (h:∀h' tk,(∀b o,s.heap.get? b=some o->h'.get? b=some o)->Q none { s with heap:=h',toks:=tk }) :
  wpAny (model prog w) A (getAttr? (.ref a) "keys") Q E s:=by
 obtain ⟨hp,g,d,tk,os⟩:=s;have hT:∀tk',(⟨hp,g,d,tk',os⟩:Shared).TypeIs (.ref a) "list":=fun _=>⟨_,hx,rfl⟩
 have f1:=sub_AttributeError;have f3:=yb2.lookup;have f4:=yb2.bind (.ref a);have f5:=am_list_getattr_none;unfold getAttr? getAttrBy? getAttrBy
 repeat (any_goals (first | assumption | exact hT _ | ((with_reducible show wpAny _ _ (call (Value.builtin "list.__getattribute__") _ _) _ _ _);refine ycv yb2 (hT _) am_entry_list_getattribute (F.args_list_getattribute_2 _ _) (meets_getattribute_miss_list a xs k sl "keys" _ F.zgK (by decide)) ⟨hx,hA,fun h' tk' e hx'=>?_⟩) | wp_step))
 obtain ⟨t',u',he⟩:=hx'.there;show wpAny _ _ (getattributeRaised _ _ _ _ _ _ _) _ _ _;unfold getattributeRaised
 repeat (any_goals (first | assumption | wp_step))
 exact h _ _ fun b o e=>hx'.keeps b o e
end
namespace F
def zbA:entryFor table "dict.update.loop" = some Builtin.«dict.update.loop»:=entryFor_of_tree (by kernel_rfl)
theorem zaJ:plainId "dict.update.loop" = true:=by decide +kernel
end F
end PySem
namespace ST
open PySem PySem.Spec PyProof.Rows
section
variable{prog:Program}{w:World}{K:Type}[DecidableEq K]{knd:KeyKind prog w K}{A:Around}{R:Result->Shared->Prop}{I:Addr}{fp wr:List Addr}{G:Array GenState->Array GenState->Prop}{n:Nat}{P:Nat->Value->Prop}{St:Nat->Shared->Prop}
noncomputable def znN(ks:Nat->K)(vf:Nat->Value)(i:Nat):List (K×Value):=(List.range i).foldl (fun acc j=>stored acc (ks j) (vf j)) []
def zem{ks:Nat->K}{vf:Nat->Value}{i:Nat}:znN ks vf (i+1)=stored (znN ks vf i) (ks i) (vf i):=by
 unfold znN;rw [ycC,List.foldl_append];rfl
theorem ziy{ks:Nat->K}{vf:Nat->Value}:∀{i:Nat},(znN ks vf i).length<=i
 | 0=>yag _
 | i+1=>by
  rw [zem];refine yau ?_ (Nat.succ_le_succ (ziy (ks:=ks) (vf:=vf) (i:=i)));unfold stored;split
  ·rw [yad];exact ya4 _
  ·rw [yan];exact yag _
theorem zls(W:WalksS prog w A.in1 I fp wr G n P St)(S:Addr)(hSf:S ∉ fp)(T:Nat->Addr)(ks:Nat->K)(kf vf:Nat->Value)(hval:∀i v,P i v->v=.ref (T i))(hk:∀i,i<n->knd.is (ks i) (kf i)=true)(hT:∀i,i<n->T i ∉ S::wr)(hn:n<=sizeLine) :
  ∀(k i:Nat) (tk:Tok) (s:Shared),n-i=k->i<=n->St i s->s.heap.DictOf knd S (znN ks vf i)->(∀i,i<n->s.heap.IsTuple (T i) #[kf i,vf i]) →
   (∀s',Moved (S::wr) G s s'->s'.heap.DictOf knd S (znN ks vf n)->R (.ok (.ret .none)) s') →
   codeAny (model prog w) A (.builtin "dict.update.loop" ⟨[.ref S,.ref I,.int i tk,.none],[]⟩) R s:=by
 have hSw:S ∉ wr:=fun h=>hSf (W.sub _ h)
 have hsub:∀b∈wr,b∈S::wr:=fun b hb=>yar _ hb
 intro k
 induction k with
 | zero =>
  intro i tk s hk' hi hst hS hTs hR
  have hin:i=n:=by omega
  subst hin;refine ybN PySem.F.zbA ?_;rw [ybU PySem.F.zaJ _];show wpAny _ A.in1 (pyNext (.ref I) >>= _) _ _ s;refine yab (W.done s _ _ hst fun s' hm=>?_);show wpAny _ A.in1 (Builtin.Dict.addKeywords S [] >>= _) _ _ s';exact yab (yam (yam (hR s' (hm.mono hsub) (hS.at fun o ho=>hm.heap S _ hSw ho))))
 | succ k ih =>
  intro i tk s hk' hi hst hS hTs hR
  have hlt:i<n:=by omega
  refine ybN PySem.F.zbA ?_;rw [ybU PySem.F.zaJ _];show wpAny _ A.in1 (pyNext (.ref I) >>= _) _ _ s;refine yab (W.item i s _ _ hlt hst fun v s' hP hst' hm=>?_);obtain rfl:=hval i v hP
  have hTs':∀i,i<n->s'.heap.IsTuple (T i) #[kf i,vf i]:=fun i hi=>by
   obtain ⟨o,ho,r⟩:=hTs i hi;exact ⟨o,hm.heap _ _ (fun z=>hT i hi (hsub _ z)) ho,r⟩
  have hS':=hS.at (h':=s'.heap) fun o ho=>hm.heap S _ hSw ho
  refine yab (ya9 (yab ?_));refine wpAny_tryCatch ?_;unfold Builtin.Dict.pairItems;obtain ⟨ot,hot,hct,nt,hdt⟩:=hTs' i hlt;have hTy:s'.TypeIs (.ref (T i)) "tuple":=⟨ot,hot,hct⟩;refine yab (wpAny_typeOf hTy ?_);rw [if_pos (by decide)];refine yab (ybm hot hdt (yam ?_));show wpAny _ _ (holding [kf i,vf i] (dictSet S (kf i) (vf i))) _ _ _;refine ya9 (wpAny_dictSet_pairs (hk i hlt) hS' (fun h' hd hsb=>?_) (yau ziy (by omega)));rw [<-zem] at hd;refine yam ⟨plainId_quiet PySem.F.zaJ _,?_⟩;refine ih (i+1) _ _ (by omega) hlt (W.frame _ s' _ _ hst' (ya4 _) fun b hb o e=>?_) hd (fun j hj=>?_) fun s'' hm'' hS''=>?_
  ·rw [hsb.2 b (fun h:b=S=>hSf (by rw [<-h];exact hb))];exact e
  ·obtain ⟨o,ho,r⟩:=hTs' j hj;exact ⟨o,(hsb.2 _ (fun z=>hT j hj (by rw [z];exact yaw))).trans ho,r⟩
  ·refine hR s'' (Moved.trans W.gtrans ((hm.mono hsub).then_heap (ya4 _) fun b o hb e=>?_) hm'') hS'';rw [hsb.2 b (fun h:b=S=>hb (by rw [h];exact yaw))];exact e
end
end ST
namespace PySem
section
variable{prog:Program}{w:World}{K:Type}[DecidableEq K]{knd:KeyKind prog w K}{A:Around}{E:Z5}{s:Shared}
theorem zjK{l:Addr}{items:Array Value}{Q:Z5}(T:Nat->Addr)(ks:Nat->K)(kf vf:Nat->Value)(hh:A.handled=none){kl:Nat}{sl:Array (Option Value)}(hl:s.heap.get? l=some { cls:=.type "list",dict:=none,data:=.seq items kl,slots:=sl })
  (hi:∀(i:Nat) (v:Value),items[i]?=some v->v=.ref (T i)) (hk:∀i,i<items.size->knd.is (ks i) (kf i)=true) (hT:∀i,i<items.size->s.heap.IsTuple (T i) #[kf i,vf i]) (hn:items.size<=sizeLine)
  (h:∀(h':Heap) (tk:Nat),h'.DictOf knd s.heap.objs.size (ST.znN ks vf items.size)->(∀b o,s.heap.get? b=some o->h'.get? b=some o)->Q (.ref s.heap.objs.size) { s with heap:=h',toks:=tk }) :
  wpAny (model prog w) A (call (.type "dict") [.ref l]) Q E s:=by
 refine callType_codes (Q₁:=fun obj s₁=>obj=.ref s.heap.objs.size/\s₁={ s with heap:=s.heap.push { cls:=.type "dict",data:=.dict #[] } }) F.kt_called_dict (F.kt_typeCall_dict_1 _) F.entry_dict_init (kt_code_dict_new _ ⟨rfl,rfl⟩) ?_;rintro obj s₁ ⟨rfl,rfl⟩;generalize hG:s.heap.push { cls:=.type "dict",data:=.dict #[] }=G;have hnew:G.DictOf knd s.heap.objs.size []:=hG ▸ Heap.DictOf.new s.heap;have upG:∀b o,s.heap.get? b=some o->G.get? b=some o:=fun b o e=>hG ▸ yae _ e
 have hl':=upG _ _ hl;refine ⟨hnew.typeIs,F.args_dict_init_2 _ _,?_⟩;unfold Builtin.«dict.__init__»;refine yab ?_;unfold Builtin.Dict.selfAndRest;refine yab (wpAny_notOrdered_dict hnew.typeIs ?_);show wpAny _ _ (pure (s.heap.objs.size,[Value.ref l])) _ _ _;refine yam ?_;show wpAny _ _ (Builtin.Dict.updateFrom "dict.__init__" s.heap.objs.size (.ref l) [] .none) _ _ _;unfold Builtin.Dict.updateFrom;refine yab (wpAny_typeOf (T:="list") ⟨_,hl',rfl⟩ ?_);rw [if_pos (by decide)];refine yab (zk0 hl' (by simp [hh]) fun h₁ tk₁ k₁=>?_);refine yab (wpAny_rule ?_);have hl1:h₁.IsList l items:=⟨_,k₁ _ _ hl',rfl,_,rfl⟩;refine yab (ycK hl1 ?_);have hlS:l<s.heap.objs.size:=yal hl
 have hS1:s.heap.objs.size<h₁.objs.size:=by
  obtain ⟨o,_,_,ho,_⟩:=hnew;exact yal (k₁ _ _ ho)
 have hh3:A.in1.in1.handled=none:=by simp [hh]
 have hneI:l≠h₁.objs.size:=yas (Nat.lt_trans hlS hS1);have kP:∀b o,s.heap.get? b=some o->∀o',(h₁.push o').get? b=some o:=fun b o e o'=>yae _ (k₁ _ _ (upG _ _ e))
 refine yam ⟨plainId_quiet F.zaJ _,?_⟩;refine ST.zls ((Walks.list hh3 _ l hneI items).toS) s.heap.objs.size ?_ T ks kf vf hi hk (fun i hi=>?_) hn (items.size-0) 0 _ _ (by omega) (yaK _) ⟨⟨_,yaq _ rfl,rfl,rfl⟩,(hl1.push _)⟩ ?_ (fun i hi=>?_) ?_
 ·simp only [yav,yaF,ycs,or_false,not_or];exact ⟨yas hS1,yaP hlS⟩
 ·obtain ⟨o,ho,_⟩:=hT i hi;have:=yal ho;simp only [yav,yaF,ycs,or_false,not_or];exact ⟨yas this,yas (Nat.lt_trans this hS1)⟩
 ·exact (hnew.at fun o e=>yae _ (k₁ _ _ e))
 ·obtain ⟨o,ho,r⟩:=hT i hi;exact ⟨o,kP _ _ ho _,r⟩
 ·intro s' hm hS';obtain ⟨h',g',d',tk',os'⟩:=s';have eg:g'=s.gens:=hm.gens;have ed:d'=s.drawn:=hm.drawn;have eo:os'=s.os:=hm.os;subst eg;subst ed;subst eo;refine ⟨rfl,h h' tk' hS' fun b o e=>?_⟩;have hb1:b≠s.heap.objs.size:=yas (yal e);have hb2:b≠h₁.objs.size:=yas (Nat.lt_trans (yal e) hS1);exact hm.heap b o (by simp only [yav,yaF,ycs,or_false,not_or];exact ⟨hb1,hb2⟩) (kP _ _ e _)
end
end PySem
namespace L2
open PySem PySem.Spec PySem.W PyProof.Rows
noncomputable def leS(a b:Str):Prop:=a.cps.toList<=b.cps.toList
noncomputable def zqS(x:Str):List Str->List Str
 | []=>[x]
 | y::r=>if decide (y.cps.toList<x.cps.toList) then y::zqS x r else x::y::r
noncomputable def zdr:List Str->List Str
 | []=>[]
 | x::r=>zqS x (zdr r)
theorem zeB(x:Str):∀l:List Str,(zqS x l).Perm (x::l)
 | []=>.refl _
 | y::r=>by
  unfold zqS;split
  ·exact ((zeB x r).cons y).trans (List.Perm.swap x y r)
  ·exact .refl _
theorem zbm:∀l:List Str,(zdr l).Perm l
 | []=>.refl _
 | x::r=>(zeB x (zdr r)).trans ((zbm r).cons x)
def zgL{a b c:Str}(h:leS a b)(h':leS b c):leS a c:=List.le_trans h h'
theorem ziT(x:Str):∀l:List Str,l.Pairwise leS->(zqS x l).Pairwise leS
 | [],_=>List.pairwise_singleton _ _
 | y::r,h=>by
  have h1:=ybI.mp h;unfold zqS;split
  ·rename_i hl;have hl:=yaj hl;refine ybI.mpr ⟨fun z hz=>?_,ziT x r h1.2⟩
   rcases yav.mp ((zeB x r).mem_iff.mp hz) with rfl | hz
   ·exact List.le_of_lt hl
   ·exact h1.1 z hz
  ·rename_i hl;have hl:¬ y.cps.toList<x.cps.toList:=fun z=>hl (yaE z)
   have hxy:leS x y:=List.not_lt.mp hl;refine ybI.mpr ⟨fun z hz=>?_,h⟩
   rcases yav.mp hz with rfl | hz
   ·exact hxy
   ·exact zgL hxy (h1.1 z hz)
theorem zgq:∀l:List Str,(zdr l).Pairwise leS
 | []=>.nil
 | x::r=>ziT x _ (zgq r)
theorem zgw:∀(p:Str) (l:List Str),risingS p l=true->(p::l).Pairwise leS
 | p,[],_=>List.pairwise_singleton _ _
 | p,x::r,h=>by
  have h':(!ltCps x.cps.toList p.cps.toList&&risingS x r)=true:=h;rw [yaa,ybc] at h';have ih:=zgw x r h'.2
  have hpx:leS p x:=by
   have e:=h'.1;rw [ltCps_eq] at e;exact List.not_lt.mp (of_decide_eq_false e)
  refine ybI.mpr ⟨fun z hz=>?_,ih⟩
  rcases yav.mp hz with rfl | hz
  ·exact hpx
  ·exact zgL hpx ((ybI.mp ih).1 z hz)
theorem zj6:∀(l:List Str),sortedS l=true->l.Pairwise leS
 | [],_=>.nil
 | x::r,h=>zgw x r h
def zl2{a b:Str}(h:a.cps.toList=b.cps.toList):a=b:=by
 cases a;cases b;simp only at h;congr 1;exact Array.toList_inj.mp h
def zjg{a b:List Str}(p:a.Perm b)(h:sortedS a=true):a=zdr b :=
 List.Perm.eq_of_pairwise (le:=leS) (fun x y _ _ h1 h2=>zl2 (List.le_antisymm h1 h2)) (zj6 a h) (zgq b) (p.trans (zbm b).symm)
section
variable{X:Cx}{pins:Z3}{σ:St}{H:Hp}{s:Shared}{a:Addr}{kvs:List (Key×V)}{A:Around}{E:Z5}{ks:List Str}
theorem zd1:∀{vs:List Value} {ss:List Str},StrsAre vs ss->Vals (ss.map V.str) vs
 | _,_,.nil=>.nil
 | _,_,.cons x t h=>.cons ⟨t,rfl⟩ (zd1 h)
theorem zd3:∀{ks:List Str} {vs:List Value} (h:vs.length=ks.length),(∀(i:Nat) (v:Value) (k:Str),vs[i]?=some v->ks[i]?=some k->∃t,v=Value.str k t)->StrsAre vs ks
 | [],[],_,_=>.nil
 | k::ks,v::vs,h,hv=>by
  obtain ⟨t,rfl⟩:=hv 0 v k rfl rfl;exact .cons k t (zd3 (by simpa using h) fun i v k h1 h2=>hv (i+1) v k (by simpa using h1) (by simpa using h2))
theorem zkZ:∀{kvs:List (Key×V)} {vs:List (Key×Value)},KV kvs vs->kvs.map (·.1)=vs.map (·.1)
 | _,_,.nil=>rfl
 | _,_,.cons h t=>by rw [yaz,yaz,h.1,zkZ t]
def zmW{P:Program}{w:World}{k:Str}{v:Value}(h:(zaB P w).is (Sum.inr k) v=true):∃t,v=Value.str k t:=by
 have h':Value.isStrOf k v=true:=h
 cases v<;>first | (cases h';done) | skip
 rename_i x t
 have e:x=k:=by simpa [Value.isStrOf] using h'
 exact ⟨t,by rw [e]⟩
theorem znh{Q:Z5}(hh:A.handled=none)(I:Inv X pins σ H s)(e:Rd H a (.dK kvs))(hk:kvs.map (·.1)=ks.map Sum.inr)(h64:ks.length<64)
  (h:∀p s',H p=none->Inv X pins σ (upd H p (.lst ((zdr ks).map V.str))) s'->Q (.ref p) s'):wpAny (model X.prog X.w) A (call (.builtin "sorted") [.ref a]) Q E s:=by
 obtain ⟨z,hd,vs,rel,dd⟩:=zeO I.hok e;obtain ⟨ep,da⟩:=dd.dictAt
 have hlen:vs.length=ks.length:=by
  rw [<-rel.length];have:=congrArg List.length hk;simpa using this
 have hkeys:vs.map (·.1)=ks.map Sum.inr:=by
  rw [<-hk];exact (zkZ rel).symm
 refine Calls.call_function_entry kind_sorted plain_sorted entry_sorted (args_sorted1 _) ?_;unfold Builtin.«sorted»;refine yab (m:=checkCount "sorted" 1 1 _) (yam ?_);refine yab (kdu_collect (A:=A.in1) (kdl_dict (prog:=X.prog) hd) hh da (by rw [hlen,ycy];omega) fun h' tk acc kp hacc=>?_)
 have hl:acc.toList.length=ks.length:=by rw [ya2,hacc.1,hlen]
 have hS:StrsAre acc.toList ks:=zd3 hl fun i v k h1 h2=>by
  obtain ⟨k',x,e1,e2⟩:=hacc.2 i v (by rw [<-ybj];exact h1);have e3:=congrArg (fun l=>l[i]?) hkeys;simp only [yao,e1,h2,Option.map_some] at e3;cases e3;exact zmW e2
 refine yab (wpAny_newList ?_ (by rw [hl,ycy];omega));have hoL:(h'.push (seqObj "list" acc.toList.toArray 0)).get? h'.objs.size=some (seqObj "list" acc.toList.toArray 0):=yaq _ rfl;refine yab (ya9 (ybX slot_list_sort ⟨_,hoL,rfl⟩ entry_list_sort (list_sort_treeK strKind_oneLt (s:={ s with heap:=h'.push (seqObj "list" acc.toList.toArray 0),toks:=tk }) hoL hS.keysOf (fun v₁ v₂ zbD e=>keyKind_strs (by rw [<-e];exact hS)) (by rw [hl];exact h64) fun st' hp hs=>⟨_,rfl,?_⟩) (args_list_sort _)));refine yam ⟨_,rfl,?_⟩;obtain ⟨ss',b1,b2,b3⟩:=sorted_out_str hS hp hs;obtain ⟨e',he⟩:=sortedHeap_at (out:=(arrOf st').map (·.2)) hoL;have I1:=I.kept kp (t':=tk);have eu:=zjg b2 b3;refine h h'.objs.size _ (I1.hok.fresh (yag _)) (I1.laid (t':=tk) (o:=.lst ((zdr ks).map V.str)) (fun b o hb=>?_) (yag _) (show zaY X.prog X.w _ _ _ (.lst _) from ⟨?_,((arrOf st').map (·.2)).toList,e',?_,?_⟩))
 ·have hlt:b<h'.objs.size:=yal hb;rw [sortedHeap_old (yas hlt) (by rw [size_push'];exact ybs hlt)];exact yae _ hb
 ·rw [yad,(zbm ks).length_eq,ycy];omega
 ·rw [<-eu];exact zd1 b1
 ·rw [Array.toArray_toList];exact he
end
open PySem PySem.Spec PyProof.Rows
noncomputable def kvS(ps:List (Str×V)):List (Key×V):=ps.foldl (fun acc p=>zen acc (.inr p.1) p.2) []
theorem zpT{ps:List (Str×V)}:(kvS ps).length<=ps.length:=by
 have go:∀(ps:List (Str×V)) (acc:List (Key×V)),(ps.foldl (fun acc p=>zen acc (.inr p.1) p.2) acc).length<=acc.length+ps.length:=by
  intro ps
  induction ps with
  | nil=>intro acc;exact yag _
  | cons p ps ih =>
   intro acc;have h1:=ih (zen acc (.inr p.1) p.2);have h2:=zcD acc (.inr p.1:Key) p.2;rw [ybK,yaf];omega
 have:=go ps [];rwa [List.length_nil,Nat.zero_add] at this
section
variable{X:Cx}
theorem zf9(hc:X.calm=true):zc8 X (.type "dict") (fun xs H Q=>∃(p:Addr) (qs:List Addr) (ps:List (Str×V)),xs=[.ref p]/\SqL X.K H p (qs.map V.ref)/\qs.length=ps.length/\(∀(i:Nat) q c,qs[i]?=some q->ps[i]?=some c->SqT X.K H q [.str c.1,c.2])/\∀l,H l=none->Q (.ref l) (upd H l (.dK (kvS ps)))):=by
 intro pins s σ H xs us Q I r h;obtain ⟨p,qs,ps,rfl,hq,hn,ht,q⟩:=h;obtain ⟨u,rfl,rx⟩:=zea r;cases rx;obtain ⟨its,rv,pl,hz⟩:=I.list hq
 have hl:its.length=ps.length:=by rw [<-rv.length,yad];exact hn
 have hz':ps.length<=sizeLine:=by rwa [yad,hn] at hz
 obtain ⟨o,kl,ho,hc1,hc2,hc3⟩:=pl;obtain ⟨c,dc,dt,sl⟩:=o;simp only at hc1 hc2 hc3;subst hc1 hc2 hc3
 have hch:∀i:Nat,∃kv:Value×Value,i<ps.length->s.heap.IsTuple (qs.getD i 0) #[kv.1,kv.2]/\zaX (.str (ps.getD i ("",.non)).1) kv.1/\zaX (ps.getD i ("",.non)).2 kv.2:=by
  intro i
  by_cases hi:i<ps.length
  ·have e1:qs[i]?=some (qs.getD i 0):=by rw [yaL,yac (by omega)];rfl
   have e2:ps[i]?=some (ps.getD i ("",.non)):=by rw [yaL,yac hi];rfl
   obtain ⟨ts,rt,pt,_⟩:=I.tuple (ht i _ _ e1 e2)
   cases rt with
   | cons r1 rt =>
    cases rt with
    | cons r2 rt=>cases rt;exact ⟨(_,_),fun _=>⟨pt,r1,r2⟩⟩
  ·exact ⟨(.none,.none),fun z=>absurd z hi⟩
 obtain ⟨kv,hkv⟩:=Classical.axiomOfChoice hch
 have hits:∀(i:Nat) (v:Value),its.toArray[i]?=some v->v=.ref (qs.getD i 0):=by
  intro i v hv;rw [ycq] at hv;have hi:i<its.length:=(yai.mp hv).1
  have e1:(qs.map V.ref)[i]?=some (.ref (qs.getD i 0)):=by rw [yao,yaL,yac (by omega)];rfl
  obtain ⟨u,hu,ru⟩:=rv.get e1;rw [hu] at hv;cases hv;exact ru
 have hsz:its.toArray.size=ps.length:=by rw [yak];exact hl
 refine zjK (knd:=zaB X.prog X.w) (fun i=>qs.getD i 0) (fun i=>(.inr (ps.getD i ("",.non)).1:Key)) (fun i=>(kv i).1) (fun i=>(kv i).2) (I.ok.hd hc) ho hits (fun i hi=>ze3 (k:=.inr _) (hkv i (hsz ▸ hi)).2.1) (fun i hi=>(hkv i (hsz ▸ hi)).1) (hsz ▸ hz') fun h' tk D k=>?_
 have rel:∀i,i<=ps.length->KV (kvS (ps.take i)) (ST.znN (fun i=>(.inr (ps.getD i ("",.non)).1:Key)) (fun i=>(kv i).2) i):=by
  intro i
  induction i with
  | zero=>intro _;exact .nil
  | succ i ih =>
   intro hi
   have e2:ps[i]?=some (ps.getD i ("",.non)):=by rw [yaL,yac (by omega)];rfl
   rw [ST.zem,List.take_succ,e2];unfold kvS;rw [List.foldl_append];exact (ih (by omega)).put _ (hkv i (by omega)).2.2
 have rel':=rel ps.length (yag _);rw [List.take_length] at rel';rw [hsz] at D;refine ⟨.ref s.heap.objs.size,_,I.laid (t':=tk) (o:=.dK (kvS ps)) k (yag _) ⟨yau zpT hz',?_,_,rel',D⟩,rfl,q _ (I.hok.fresh (yag _))⟩;exact beq_false_of_ne (yaP I.big)
def ze7(hc:X.calm=true):zc8 X (.builtin "sorted") (fun xs H Q=>∃(a:Addr) (kvs:List (Key×V)) (ks:List Str),xs=[.ref a]/\Rd H a (.dK kvs)/\kvs.map (·.1)=ks.map Sum.inr/\ks.length<64/\∀p,H p=none->Q (.ref p) (upd H p (.lst ((zdr ks).map V.str)))):=by
 intro pins s σ H xs us Q I r h;obtain ⟨a,kvs,ks,rfl,ha,hk,h64,q⟩:=h;obtain ⟨u,rfl,rx⟩:=zea r;cases rx;exact znh (I.ok.hd hc) I ha hk h64 fun p s' hp I'=>⟨.ref p,_,I',rfl,q p hp⟩
end
end L2
namespace S2
open PySem PySem.Spec PyProof.Rows L2
noncomputable def zxa:D->Option Str | .str k=>some k | _=>none
noncomputable def zw0:D->Option (List D) | .tup l=>some l | _=>none
def prO(d:D):Option (Str×D):=(zw0 d).bind fun l=>match l with | [a,b]=>(zxa a).map fun k=>(k,b) | _=>none
def zpl:List D->Option (List (Str×D))
 | []=>some []
 | d::l=>(prO d).bind fun p=>(zpl l).map (p::·)
def zrT{d:D}{p:Str×D}(h:prO d=some p):d=.tup [.str p.1,p.2]:=by
 cases d with
 | tup l =>
  cases l with
  | nil=>cases h
  | cons a l=>cases l with
   | nil=>cases h
   | cons b l=>cases l with
    | cons _ _=>cases h
    | nil=>cases a<;>first | (cases h;rfl) | (cases h;done)
 | _=>cases h
noncomputable def zpf(ps:List (Str×D)):List (D×D):=ps.foldl (fun acc p=>putS p.1 p.2 acc) []
def zhW:List D->Option D | [.lst l]=>(zpl l).map fun ps=>.dic (zpf ps) | _=>none
section
variable{X:Cx}{cl:Cf}
theorem zdg{k x:Str}{d:D}:∀{ds:List (D×D)},zai ds=true->zae x (putS k d ds)=if k=x then some d else zae x ds
 | [],_=>rfl
 | (.str y,e)::r,h=>by
  unfold zai at h;rw [yaa] at h;unfold putS
  by_cases hy:y=k
  ·subst hy;rw [if_pos rfl];unfold zae
   by_cases hx:y=x
   ·rw [if_pos hx,if_pos hx]
   ·rw [if_neg hx,if_neg hx,if_neg hx]
  ·rw [if_neg hy];unfold zae
   by_cases hx:y=x
   ·rw [if_pos hx,if_neg (fun z=>hy (hx.trans z.symm)),if_pos hx]
   ·rw [if_neg hx,zdg h.2,if_neg hx]
theorem zdH{k:Str}{d:D}:∀{ds:List (D×D)},zai ds=true->zai (putS k d ds)=true
 | [],_=>rfl
 | (.str y,e)::r,h=>by
  have h':=h;unfold zai at h;rw [yaa] at h;unfold putS
  by_cases hy:y=k
  ·rw [if_pos hy];unfold zai;rw [yaa];exact h
  ·rw [if_neg hy];unfold zai;rw [yaa,zdg h.2,if_neg (fun z=>hy z.symm)];exact ⟨h.1,zdH h.2⟩
def zmp{w:Wd}:∀{l:List D} {ps:List (Str×D)} {xs:List V},zpl l=some ps->Shds cl w xs l->∃(qs:List Addr) (vs:List (Str×V)),xs=qs.map V.ref/\qs.length=vs.length/\(∀(i:Nat) q c,qs[i]?=some q->vs[i]?=some c->w.H q=some (.tup [.str c.1,c.2]))/\Paired (fun (v:Str×V) (p:Str×D)=>v.1=p.1/\Shd cl w v.2 p.2) vs ps:=by
 intro l
 induction l with
 | nil =>
  intro ps xs e r;cases e;cases r;exact ⟨[],[],rfl,rfl,(fun i q c z=>by cases z),.nil⟩
 | cons d l ih =>
  intro ps xs e r;obtain ⟨p,e0,e⟩:=ycb.mp (show (prO d).bind (fun p=>(zpl l).map (p::·))=some ps from e);obtain ⟨ps',e1,rfl⟩:=yap.mp e;obtain rfl:=zrT e0
  cases r with
  | cons r1 r2 =>
   obtain ⟨qs,vs,rfl,hn,hp,hv⟩:=ih e1 r2
   cases r1 with
   | tup ep k0 rt =>
    cases rt with
    | cons t1 t2 =>
     cases t2 with
     | cons t2 t3 =>
      cases t3;cases t1;refine ⟨_::qs,(p.1,_)::vs,rfl,congrArg Nat.succ hn,fun i q c h1 h2=>?_,.cons ⟨rfl,t2⟩ hv⟩
      cases i with
      | zero=>cases h1;cases h2;exact ep
      | succ i=>exact hp i q c h1 h2
theorem zix{w:Wd}:∀{vs:List (Str×V)} {ps:List (Str×D)} {kvs:List (Key×V)} {ds:List (D×D)},Paired (fun (v:Str×V) (p:Str×D)=>v.1=p.1/\Shd cl w v.2 p.2) vs ps->ShdK cl w kvs ds->zai ds=true →
  ShdK cl w (vs.foldl (fun acc p=>zen acc (.inr p.1) p.2) kvs) (ps.foldl (fun acc p=>putS p.1 p.2 acc) ds)/\zai (ps.foldl (fun acc p=>putS p.1 p.2 acc) ds)=true
 | _,_,_,_,.nil,h,o=>⟨h,o⟩
 | _,_,_,_,.cons ⟨e,hv⟩ t,h,o=>by
  rw [ybK,ybK,e];exact zix t (h.putS o hv) (zdH o)
def zqr(hc:X.calm=true):ztw X cl (.type "dict") zhW:=by
 intro pins s σ H xs us Q I r h;obtain ⟨w,ds,d,rfl,hx,hg,q⟩:=h;unfold zhW at hg;split at hg
 ·rename_i l;obtain ⟨ps,h1,rfl⟩:=yap.mp hg
  cases hx with
  | cons h2 h3 =>
   cases h3;obtain ⟨p,ys,rfl,ep,rs⟩:=h2.lstI;obtain ⟨qs,vs,rfl,hn,hp,hv⟩:=zmp h1 rs;exact zf9 hc pins s σ w.H _ us Q I r ⟨p,qs,vs,rfl,SqL.of ep,hn,fun i q c e1 e2=>SqT.of (hp i q c e1 e2),fun l hl=>q _ _ w (Grow.refl _) hl (.dicK (zix hv .nil rfl).1)⟩
 ·cases hg
theorem zgr{w:Wd}:∀{l:List Str},Shds cl w (l.map V.str) (l.map D.str)
 | []=>.nil
 | i::l=>.cons (.str i) (zgr (l:=l))
end
end S2
namespace L2
open PySem PySem.Spec PyProof.Rows
def zl6{X:Cx}(hu:X.A.units+1<cLine):zwD X (fun o i v H Q=>∃a H',o=.ref a/\zqJ H a i v H'/\Q H'):=by
 intro pins s σ H o i v ov iv vv Q I ro ri rv h;obtain ⟨a,H',rfl,g,q⟩:=h;cases ro;exact zg3 hu I g ri rv fun s' I'=>⟨H',I',q⟩
end L2
namespace S2
open PySem PySem.Spec PyProof.Rows L2
noncomputable def zlq:Fe:=fun _ S=>.ok (.dic []) S
def zj8(i:Nat)(ρ:Env):Option (List (D×D)):=match ρ[i]? with | some (some (true,.dic ds))=>if zai ds&&zaK ds.length then some ds else none | _=>none
def zeZ(i:Nat)(fk fe:Fe):Fs:=fun ρ S=>match zj8 i ρ with
 | some ds=>(match fe ρ S with
  | .ok d S1=>(match fk ρ S1 with
   | .ok k S2=>(match k with
    | .str x=>.nx (ρ.set i (some (true,.dic (putS x d ds)))) S2
    | _=>.bad)
   | .exc c S2=>.ex c ρ S2 | .bad=>.bad)
  | .exc c S1=>.ex c ρ S1 | .bad=>.bad)
 | _=>.bad
section
variable{X:Cx}{cl:Cf}{E:St->XK}{own:Bool}{a b e:Expr}{f g fe fk:Fe}{pos pos':Pos}{i:Nat}{x:Str}{ap cp:Pos}
def zhz:PE X (.Dict [] [] pos) (tN cl E zlq):=PE.imp ziB fun σ H Q ⟨B,w,ρ,S,e,R,q⟩=>by
 subst e;intro p hp;exact q p _ w R (Fut.refl _) hp (.dicK .nil)
def zio{B:Base}{σ:St}{w:Wd}{ρ:Env}{S:Sto}{ds:List (D×D)}(R:Rel cl B σ w ρ S)(h:zj8 i ρ=some ds):∃p kvs,σ[i]?=some (some (.ref p))/\w.ow p=some (.slot i)/\w.H p=some (.dK kvs)/\ShdK cl w kvs ds/\zai ds=true/\zaK ds.length=true:=by
 unfold zj8 at h;split at h
 ·rename_i ds' hd;split at h
  ·rename_i ho;cases h;rw [yaa] at ho;obtain ⟨v,e1,p,o,rfl,h1,h2,t⟩:=R.slots i true _ hd
   cases t with
   | dicK t=>exact ⟨p,_,e1,h1,h2,t,ho.1,ho.2⟩
  ·cases h
 ·cases h
def zoJ{p3:Pos}(hu:X.A.units+1<cLine)(hN:X.N[i]?=some x)(hv:Vis X.env.scope x)(hd:(x == ("__debug__":Str))=false)(hcd:(x == ("__classdict__":Str))=false)(hk:PE X a (tE cl E fk))(he:PE X e (tE cl E fe))(sw:swapsWithSole [.Subscript (.Name x pos') a p3] e pos.line X.env=pure false)(sw2:swappedStores [.Subscript (.Name x pos') a p3] e X.env=pure none)
  (ha:∀v,assign (.Subscript (.Name x pos') a p3) X.env v=(do
   let ov ← holding [v] (eval (.Name x pos') X.env)
   let iv ← holding [v,ov] (eval a X.env)
   standAt p3
   holding [v,ov,iv] (setItem ov iv v)
   release [v,ov,iv] [])) :
  PS X (.Assign [.Subscript (.Name x pos') a p3] e pos) (tS cl E own (zeZ i fk fe)):=by
 refine PS.imp (znQ he (zrX (zaP hN hv hd hcd) hk (zl6 hu) ha) sw sw2 rfl) ?_;rintro De σ H ⟨B,w,ρ,S,rfl,R,q⟩;unfold zeZ at q
 cases hs:zj8 i ρ with
 | none=>rw [hs] at q;exact q.elim
 | some ds =>
  rw [hs] at q;refine ⟨B,w,ρ,S,rfl,R,?_⟩
  cases hev:fe ρ S with
  | bad=>rwa [hev] at q
  | exc c S1=>rw [hev] at q;exact fun w' R' F'=>q σ w' R' F'
  | ok d S1 =>
   rw [hev] at q;intro v w1 R1 F1 sv;obtain ⟨p,kvs,e1,_,_,_,_,_⟩:=zio R1 hs;refine ⟨_,e1,B,w1,ρ,S1,rfl,R1,?_⟩;dsimp only at q
   cases hkv:fk ρ S1 with
   | bad=>rwa [hkv] at q
   | exc c S2=>rw [hkv] at q;exact fun w' R' F'=>q σ w' R' (F1.trans F')
   | ok k S2 =>
    rw [hkv] at q;intro y w2 R2 F2 sy;dsimp only at q
    cases k with
    | str k =>
     cases sy;obtain ⟨p',kvs',e1',h1,h2,t,ho,hm⟩:=zio R2 hs;rw [e1] at e1';cases e1';refine ⟨p,_,rfl,zqJ.k (k:=.inr k) h2 (by rw [t.length];exact zdD hm),?_⟩;exact q σ _ (R2.mut (d0:=.non) e1 h1 (.dicK (t.putS ho (sv.up F2)))) ((F1.trans F2).trans (zdX (by rw [h1];exact yaD _)))
    | _=>exact q.elim
end
noncomputable def zu5(nm:List (Str×NameKind))(ts:List Expr):Bool:=ts.any fun | .Name x _=>!decide (nm.lookup x=some .local) | _=>false
theorem zsX{α β:Type}(f:α->Option β):∀(l:List α),(∃a∈l,f a=none)->(l.filterMap f).length<l.length
 | [],h=>by obtain ⟨_,h,_⟩:=h;cases h
 | a::l,h=>by
  rw [yaf,ybe];have hle:=List.length_filterMap_le f l
  cases ha:f a with
  | none=>exact Nat.lt_succ_of_le hle
  | some b =>
   show (l.filterMap f).length+1<_;obtain ⟨c,hc,e⟩:=h
   rcases yav.mp hc with rfl | hc
   ·rw [ha] at e;cases e
   ·have:=zsX f l ⟨c,hc,e⟩;omega
section
variable{X:Cx}{cl:Cf}{E:St->XK}{own:Bool}{nm:List (Str×NameKind)}
def zqs(hs:X.env.scope.names=nm)(h:zu5 nm ts=true):swappedStores [.Tuple ts k p] (.Tuple vs k2 p2) X.env=pure none:=by
 unfold swappedStores;dsimp only;split
 ·rfl
 ·split
  ·rfl
  ·split
   ·rfl
   ·rename_i hn;exfalso;apply hn;rw [ycB];left;rw [bne_iff_ne];apply yas;apply zsX;unfold zu5 at h;rw [List.any_eq_true] at h;obtain ⟨x,hx,hb⟩:=h;refine ⟨x,hx,?_⟩
    cases x with
    | Name y q =>
     have hb':¬ nm.lookup y=some .local:=by simpa using hb
     have:¬ X.env.kindOf y=some .local:=by unfold Env.kindOf;rw [hs];exact hb'
     simp [this]
    | _=>cases hb
variable{i j h:Nat}{x y z:Str}{a e:Expr}{f f1:Fe}{px py pz pt pt2 p2 pos:Pos}{kt k2:Nat}
end
def zeI(g:Str->Str->Option Bool):Fs :=
 zao (zcp 1 true (zgZ [eUn (zjy g "NoFill") (zal 0),eUn (zjy g "NoName") (zal 0),eUn (zjy g "NoPlace") (zal 0),eUn (zjy g "NoText") (zal 0)]))
 (zao (zcp 1 false (zaj zb8 (zal 1) (zgZ [eUn (zjy g "NoTile") (zal 0),eUn (zjy g "Nothing") (zal 0),eUn (zjy g "Unlike") (zal 0)])))
 (zao (sIf (eOr (zaj neD (eMt zfq 1 (zah (.bl true))) (zah (.int 1))) (eUn zcV (eUn (zjy g "ValueError") (zal 0)))) (zao (zbn (zah (.str "wrong"))) sNx) sNx)
 (zao (zbn (zaj ixD (zgZ [zah (.str "no fill"),zah (.str "no name"),zah (.str "no place"),zah (.str "no text"),zah (.str "no tile"),zah (.str "nothing"),zah (.str "unlike")]) (eMt zfl 1 (zah (.bl true))))) sNx)))
def zlU(g:Str->Str->Option Bool)(c:Str)(S:Sto):Out D:=match zeI g [some (false,.exc c),none] S with | .rt d S'=>.ok d S' | _=>.bad
noncomputable def zg8(ρ:Env):List Nat->Option (List D)
 | []=>some []
 | i::is=>match ρ[i]? with | some (some (false,d))=>(zg8 ρ is).map (d::·) | _=>none
def zdA(und:Str->Str->Bool)(isx:Str->Str->Option Bool)(caps:List Nat)(fb:Fe):Fe:=fun ρ S=>match zg8 ρ caps with
 | none=>.bad
 | some ds=>match fb (ds.map fun d=>some (false,d)) S with
  | .ok d S'=>.ok d S'
  | .exc c S'=>if und c "FloorError" then zlU isx c S' else .bad
  | .bad=>.bad
structure CapsOk(X:Cx)(N:List Str)(caps:List Nat):Prop where
 len:caps.length=N.length
 at':∀(j:Nat) (x:Str) (i:Nat),N[j]?=some x->caps[j]?=some i->X.N[i]?=some x/\X.env.scope.names.lookup x=some .cell/\X.fn x=true
noncomputable def zts(cl:Cf)(und:Str->Str->Bool)(isx:Str->Str->Option Bool)(P:Program)(wo:PySem.World)(K:PySem.W.Frag)(mg:Z6)(base:Heap)(k:Nat)(cod:Option (Addr×Str))(e:Expr)(N:List Str)(fb:Fe):Prop :=
 ∀(X:Cx) (E:St->XK) (caps:List Nat) (p pos:Pos),X.prog=P->X.w=wo->X.K=K->X.mg=mg->X.base=base->Room k X.A->X.calm=true->Gl X "_law_told" -> (∀c,cod=some c->X.env.code=.ref c.1/\X.env.qual=c.2)->CapsOk X N caps →
  PE X (.Call (.Name "_law_told" p) [e] [] pos) (tE cl E (zdA und isx caps fb))
theorem zi3{cl:Cf}{B:Base}{σ:St}{w:Wd}{ρ:Env}{S:Sto}(R:Rel cl B σ w ρ S):∀{caps:List Nat} {ds:List D},zg8 ρ caps=some ds->∃vs,vs.length=caps.length/\(∀(j i:Nat) (v:V),caps[j]?=some i->vs[j]?=some v->σ[i]?=some (some v))/\Shds cl w vs ds
 | [],ds,h=>by cases h;exact ⟨[],rfl,fun j i v h=>by simp at h,.nil⟩
 | i::is,ds,h=>by
  unfold zg8 at h;split at h
  ·rename_i d hd
   cases h1:zg8 ρ is with
   | none=>rw [h1] at h;cases h
   | some ds' =>
    rw [h1] at h;cases h;obtain ⟨vs,l,e,sh⟩:=zi3 R h1;obtain ⟨v,e1,x⟩:=R.slots i false d hd;refine ⟨v::vs,by rw [yaf,yaf,l],fun j i' v' h1 h2=>?_,.cons x sh⟩
    cases j with
    | zero=>cases h1;cases h2;exact e1
    | succ j=>exact e j i' v' h1 h2
  ·cases h
def Rel.tabUp{cl:Cf}{B:Base}{σ:St}{w:Wd}{ρ:Env}{S:Sto}{P:Addr}{ps ps':Array Value}(R:Rel cl B σ w ρ S)(h1:w.H P=some (.tbl ps))(h2:w.ow P=some .tab)(h3:∀q,cl.tabs P=some q->zlO w q ps') :
  Rel cl B σ (w.mut P (.tbl ps')) ρ S/\Fut w (w.mut P (.tbl ps')):=by
 have ff:=zdX (w:=w) (p:=P) (o:=.tbl ps') (by rw [h2];exact yaD _)
 have kp:∀a u,w.H a=some u->w.ow a≠some .tab->(w.mut P (.tbl ps')).H a=some u/\(w.mut P (.tbl ps')).ow a=w.ow a:=fun a u ha hn=>⟨by
  show upd w.H P _ a=_
  rw [zag (fun z=>hn (by rw [z];exact h2))];exact ha,rfl⟩
 have hB:B.Fr P=none:=(R.wd.own P _ h2).elim (fun z=>by cases z) fun z=>z
 refine ⟨⟨⟨fun a u h=>?_,R.wd.own,R.wd.len,fun n ob h=>?_,fun P' q h=>?_⟩,R.len,fun i o d h=>?_⟩,ff⟩
 ·refine ⟨?_,(R.wd.fr a u h).2⟩;show upd w.H P _ a=_;rw [zag (fun z=>by rw [z,hB] at h;cases h)];exact (R.wd.fr a u h).1
 ·obtain ⟨a,e,x⟩:=R.wd.obj n ob h;exact ⟨a,e,x.keep ff fun b u hb hn=>kp b u hb fun z=>by rwa [z] at hn⟩
 ·by_cases hP:P'=P
  ·subst hP;exact ⟨ps',zap,h2,(h3 q h).up ff⟩
  ·obtain ⟨qs,g1,g2,g3⟩:=R.wd.tab P' q h;refine ⟨qs,?_,g2,g3.up ff⟩;show upd w.H P _ P'=_;rw [zag hP];exact g1
 ·obtain ⟨v,e1,x⟩:=R.slots i o d h;refine ⟨v,e1,x.keep ff fun a u ha hr=>?_⟩;have:=kp a u ha (by rw [hr];simp);exact ⟨this.1,this.2.trans hr⟩
structure FnI where
 ar:Nat
 own:Bool
 run:List D->Sto->Out D
structure ObE where
 cur:Str
 fk:Str->Str->Bool
 df:Str->Bool
 mt:Str->Option (Str×FnI)
 mks:Str->Option (List D×FnI)
structure Genv where
 con:Str->Option D
 fn:Str->Option FnI
 blt:Str->Bool
 exc:Str->Bool
 und:Str->Str->Bool
 isx:Str->Str->Option Bool
 ob:ObE
 ds:Str->Bool
 lam:Expr->Option (List Str×Fe)
 cod:Option (Addr×Str)
abbrev bmV:List Value:=[.type "ValueError",.type "Exception",.type "BaseException",.type "object"]
structure GOk(cl:Cf)(G:Genv)(P:Program)(wo:PySem.World)(K:PySem.W.Frag)(mg:Z6)(base:Heap)(k:Nat):Prop where
 con:∀x d,G.con x=some d->∃v u,mg x=some u/\zaX v u/\∀w,Shd cl w v d
 fn:∀x fi,G.fn x=some fi->∃f fd ps,mg x=some (.ref f)/\PySem.W.keepIn K (.ref f)=true/\zcM K fd ps []/\FnOk P wo K mg base (CXE P wo) k f fd ps (zgh cl fi.ar fi.own fi.run)
 blt:∀x,G.blt x=true->mg x=none
 exc:∀c,G.exc c=true->mg c=some (.ref (cl c))/\PySem.W.excIn K (cl c) bmV "ValueError.__new__" = true
 und:∀c C,G.und c C=true->L2.zqH K (cl c) (cl C)
 isx:∀c C b,G.isx c C=some b->PySem.W.ExcCls K (cl c)/\PySem.W.kitOne K (.ref (cl c)) (clsV cl C)=some b
 fk:∀c f,G.ob.fk c f=true->zeX cl c f
 mt:∀m c fi,G.ob.mt m=some (c,fi)->∃f fd ps,Cls K (cl c)/\Meth K (cl c) m f/\zcM K fd ps []/\FnOk P wo K mg base (CXE P wo) k f fd ps (zgh cl fi.ar fi.own fi.run)
 mks:∀c dds fi,G.ob.mks c=some (dds,fi)->∃f fd ps dvs ds k',k'+1<=k/\mg c=some (.ref (cl c))/\Mk K (cl c) f/\zcM K fd ps []/\zcM K fd ps ds/\Vals dvs ds/\(∀w,Shds cl w dvs dds)/\FnOk P wo K mg base (CXE P wo) k' f fd ps (zgh cl fi.ar false fi.run)
 tl:∀e N fb,G.lam e=some (N,fb)->zts cl G.und G.isx P wo K mg base k G.cod e N fb
noncomputable abbrev Names:=List (Str×NameKind)
structure Gx(cl:Cf)(G:Genv)(k:Nat)(X:Cx)(nm:Names)(N:List Str)(E:St->XK):Prop where
 gok:GOk cl G X.prog X.w X.K X.mg X.base k
 room:Room k X.A
 calm:X.calm=true
 pass:zc7 (CXE X.prog X.w) X E
 eN:X.N=N
 kk:X.K=cl.K
 pp:X.prog=cl.P
 ww:X.w=cl.wo
 nd:N.Nodup
 vis:∀x kd,nm.lookup x=some kd->∃kd',X.env.scope.names.lookup x=some kd'/\(kd'=kd\/(kd=.free/\kd'=.cell))
 fnx:∀x,nm.lookup x=some .local->X.env.scope.names.lookup x=some .local
 cod:∀c,G.cod=some c->X.env.code=.ref c.1/\X.env.qual=c.2
 fnc:∀x,nm.lookup x=some .cell->X.fn x=true
noncomputable def idx:List Str->Str->Option Nat
 | [],_=>none
 | y::l,x=>if y=x then some 0 else (idx l x).map (·+1)
theorem zeC:∀{N:List Str} {x:Str} {i:Nat},idx N x=some i->N[i]?=some x
 | y::l,x,i,h=>by
  unfold idx at h;split at h
  ·rename_i e;cases h;rw [e];rfl
  ·cases hr:idx l x with
   | none=>rw [hr] at h;cases h
   | some j=>rw [hr] at h;cases h;simpa using zeC hr
noncomputable def ziD(x:Str):Bool:=!(x == ("__debug__":Str))&&!(x == ("__classdict__":Str))&&!decide (x = "__name__")
def zgF(h:ziD x=true):(x == ("__debug__":Str))=false/\(x == ("__classdict__":Str))=false/\x ≠ "__name__":=by
 unfold ziD at h;simp only [yaa,ybc,ycc] at h;exact ⟨h.1.1,h.1.2,h.2⟩
noncomputable def zuR:Option NameKind->Bool | some .local=>true | some .cell=>true | some .free=>true | _=>false
def zbP(nm:Names)(N:List Str)(x:Str):Option Nat:=if zuR (nm.lookup x)&&ziD x then idx N x else none
noncomputable def zbJ(nm:Names)(x:Str):Bool:=decide (nm.lookup x=some .globalImplicit)&&ziD x
section
variable{cl:Cf}{G:Genv}{k:Nat}{X:Cx}{nm:Names}{N:List Str}{E:St->XK}
def Gx.slot(g:Gx cl G k X nm N E)(h:zbP nm N x=some i):X.N[i]?=some x/\Vis X.env.scope x/\(x == ("__debug__":Str))=false/\(x == ("__classdict__":Str))=false:=by
 unfold zbP at h;split at h
 ·rename_i hv;rw [yaa] at hv;obtain ⟨h1,h2,_⟩:=zgF hv.2;refine ⟨by rw [g.eN];exact zeC h,?_,h1,h2⟩
  cases hk:nm.lookup x with
  | none=>rw [hk] at hv;exact absurd hv.1 (by decide)
  | some kd =>
   obtain ⟨kd',e,z⟩:=g.vis x kd hk;rw [hk] at hv;unfold Vis;rw [e]
   rcases z with rfl | ⟨_,rfl⟩
   ·cases kd'<;>first | exact .inl rfl | exact .inr (.inl rfl) | exact .inr (.inr rfl) | exact absurd hv.1 (by decide)
   ·exact .inr (.inl rfl)
 ·cases h
def Gx.glob(g:Gx cl G k X nm N E)(h:zbJ nm x=true):Gl X x/\(x == ("__debug__":Str))=false/\x ≠ "__name__":=by
 unfold zbJ at h;rw [yaa] at h;obtain ⟨h1,_,h3⟩:=zgF h.2;obtain ⟨kd',e,z⟩:=g.vis x _ (yaj h.1)
 rcases z with rfl | ⟨z,_⟩
 ·exact ⟨e,h1,h3⟩
 ·cases z
end
noncomputable abbrev Rec:=Names->List Str->Expr->Option (Bool×Fe)
noncomputable def okE:Expr->Bool | .Starred _ _=>false | .Set _ _ _=>false | _=>true
def zaG(h:okE e=true):zby e=true:=by cases e<;>first | rfl | cases h
def zeq(h:okE e=true):behindInMarks op e=false:=by cases e<;>first | rfl | cases h
def zfL(h:okE e=true)(v:Value):foldedSetIterable e env v=pure v:=by cases e<;>first | rfl | cases h
noncomputable def zbR:Expr->Bool | .IfExp _ _ _ _=>false | _=>true
noncomputable def zbr(cl:Cf)(G:Genv)(k:Nat)(rc:Rec):Prop:=∀(X:Cx) (nm:Names) (N:List Str) (E:St->XK),Gx cl G k X nm N E->∀(e:Expr) (o:Bool) (f:Fe),rc nm N e=some (o,f) →
 (o=true->PE X e (tN cl E f))/\PE X e (tE cl E f)/\(zbR e=true->PT X e (tTr cl E f))/\okE e=true
noncomputable def shE(rc:Rec)(nm:Names)(N:List Str)(e:Expr):Option Fe:=(rc nm N e).map (·.2)
def opE(rc:Rec)(nm:Names)(N:List Str)(e:Expr):Option Fe:=match e with
 | .Name x _=>(match zbP nm N x with | some i=>some (zal i) | none=>shE rc nm N e)
 | _=>shE rc nm N e
def shL(rc:Rec)(nm:Names)(N:List Str):List Expr->Option (List Fe)
 | []=>some []
 | e::es=>(shE rc nm N e).bind fun f=>(shL rc nm N es).bind fun fs=>some (f::fs)
def opL(rc:Rec)(nm:Names)(N:List Str):List Expr->Option (List Fe)
 | []=>some []
 | e::es=>(opE rc nm N e).bind fun f=>(opL rc nm N es).bind fun fs=>some (f::fs)
section
variable{cl:Cf}{G:Genv}{k:Nat}{rc:Rec}{X:Cx}{nm:Names}{N:List Str}{E:St->XK}
def zbq(hs:zbr cl G k rc)(g:Gx cl G k X nm N E)(h:shE rc nm N e=some f):PE X e (tE cl E f)/\(zbR e=true->PT X e (tTr cl E f))/\okE e=true:=by
 unfold shE at h
 cases hr:rc nm N e with
 | none=>rw [hr] at h;cases h
 | some p =>
  obtain ⟨o,f'⟩:=p;rw [hr] at h;cases h;obtain ⟨_,h2,h3,h4⟩:=hs X nm N E g e o _ hr;exact ⟨h2,h3,h4⟩
def zcl(hs:zbr cl G k rc)(g:Gx cl G k X nm N E)(h:opE rc nm N e=some f):PE X e (tH cl E f)/\okE e=true:=by
 unfold opE at h;split at h
 ·rename_i x pos;split at h
  ·rename_i i hi;cases h;obtain ⟨h1,h2,h3,h4⟩:=g.slot hi;exact ⟨zkf h1 h2 h3 h4,rfl⟩
  ·obtain ⟨h1,_,h3⟩:=zbq hs g h;exact ⟨zcx h1,h3⟩
 ·obtain ⟨h1,_,h3⟩:=zbq hs g h;exact ⟨zcx h1,h3⟩
theorem zeh(hs:zbr cl G k rc)(g:Gx cl G k X nm N E):∀{es:List Expr} {fs:List Fe},shL rc nm N es=some fs->PA X es (tAs cl E fs)/\es.all zby=true/\fs.length=es.length
 | [],fs,h=>by cases h;exact ⟨zej,rfl,rfl⟩
 | e::es,fs,h=>by
  unfold shL at h
  cases h1:shE rc nm N e with
  | none=>rw [h1] at h;cases h
  | some f =>
   rw [h1] at h
   cases h2:shL rc nm N es with
   | none=>rw [h2] at h;cases h
   | some fs' =>
    rw [h2] at h;cases h;obtain ⟨a1,_,a3⟩:=zbq hs g h1;obtain ⟨b1,b2,b3⟩:=zeh hs g h2;exact ⟨zaT a1 b1 (zbp (zaG a3)),by rw [yaX,zaG a3,b2];rfl,by rw [yaf,yaf,b3]⟩
theorem znX(hs:zbr cl G k rc)(g:Gx cl G k X nm N E):∀{es:List Expr} {fs:List Fe},opL rc nm N es=some fs->PA X es (tHs cl E fs)/\es.all zby=true/\fs.length=es.length
 | [],fs,h=>by cases h;exact ⟨znG,rfl,rfl⟩
 | e::es,fs,h=>by
  unfold opL at h
  cases h1:opE rc nm N e with
  | none=>rw [h1] at h;cases h
  | some f =>
   rw [h1] at h
   cases h2:opL rc nm N es with
   | none=>rw [h2] at h;cases h
   | some fs' =>
    rw [h2] at h;cases h;obtain ⟨a1,a3⟩:=zcl hs g h1;obtain ⟨b1,b2,b3⟩:=znX hs g h2;exact ⟨zka a1 b1 (zbp (zaG a3)),by rw [yaX,zaG a3,b2];rfl,by rw [yaf,yaf,b3]⟩
end
noncomputable def zwA:Const->Option D
 | .int i=>some (.int i)
 | .bool b=>some (.bl b)
 | .none=>some .non
 | .str x=>some (.str x)
 | _=>none
def zu7:Operator->Option (D->D->Option D)
 | .Add=>some zb8 | .Sub=>some zqO | .Mult=>some ziH | .Mod=>some zn1 | .FloorDiv=>some zs7 | _=>none
noncomputable def zp5:Expr->Bool | .Constant .none _ _=>true | _=>false
def ltD:=zqV fun i j=>decide (i<j)
def leD:=zuF
def gtD:=zqV fun i j=>decide (j<i)
def geD:=zqV fun i j=>decide (j<=i)
def ztc:CmpOp->Expr->Option (D->D->Option D)
 | .Eq,_=>some eqD | .NotEq,_=>some neD | .Lt,_=>some ltD | .LtE,_=>some leD | .Gt,_=>some gtD | .GtE,_=>some geD | .In,_=>some inD | .NotIn,_=>some ziG
 | .Is,b=>if zp5 b then some zlT else none
 | .IsNot,_=>none
def zjL(rc:Rec)(nm:Names)(N:List Str)(op:BoolOp):List Expr->Option Fe
 | []=>none
 | [a]=>if zbR a then shE rc nm N a else none
 | a::b::r=>if zbR a then (shE rc nm N a).bind fun f=>(zjL rc nm N op (b::r)).bind fun h=>some (match op with | .And=>zg0 f h | .Or=>eOr f h) else none
structure BI where
 g:List D->Option D
 nw:Bool
def zlJ(x:Str):Option BI :=
 if x = "len" then some ⟨zcO,false⟩
 else if x = "all" then some ⟨zlV,false⟩
 else if x = "tuple" then some ⟨zcQ,false⟩
 else if x = "int" then some ⟨zqa,false⟩
 else if x = "dict" then some ⟨zhW,true⟩
 else none
noncomputable def zq1(x:Str):Option String:=if x = "int" then some "int" else if x = "bool" then some "bool" else if x = "tuple" then some "tuple" else if x = "str" then some "str" else if x = "list" then some "list" else none
noncomputable def zu4(G:Genv)(t:Str):Bool:=if t = "ValueError" then G.blt t else G.exc t
def zqv(G:Genv)(rc:Rec)(nm:Names)(N:List Str)(x:Str)(args:List Expr):Option (Bool×Fe) :=
 if zbJ nm x then
  match G.fn x with
  | some fi=>if args.length=fi.ar then (shL rc nm N args).bind fun fs=>some (fi.own,eFn fi.run fs) else none
  | none=>if G.blt x then
    (if x = "isinstance" then (match args with
     | [a,.Name t _]=>if zbJ nm t&&G.blt t&&(zq1 t).isSome then (zq1 t).bind fun T=>(opE rc nm N a).bind fun f=>some (false,eUn (zeA T) f)
      else if zbJ nm t&&zu4 G t then (opE rc nm N a).bind fun f=>some (false,eUn (zjy G.isx t) f) else none
     | _=>none)
    else match args with
     | []=>none
     | _::_=>(zlJ x).bind fun bi=>(opL rc nm N args).bind fun fs=>some (bi.nw,zaE bi.g fs)) else none
 else none
noncomputable def zsQ:Expr->Bool | .Tuple _ _ _=>true | _=>false
def zjx(G:Genv)(rc:Rec)(nm:Names)(N:List Str)(tg e:Expr):Option Fi:=match e with
 | .Call (.Name x p) args [] pos=>if x = "range" then (if zbJ nm x&&G.blt x then (match args with
   | [a]=>(shE rc nm N a).bind fun f=>some (zdO f)
   | _=>none) else none)
  else if x = "zip" then (if zbJ nm x&&G.blt x&&zsQ tg then (match args with
   | [a,b]=>(shE rc nm N a).bind fun f=>(shE rc nm N b).bind fun h=>some (zqU f h)
   | _=>none) else none)
  else (shE rc nm N e).map zbl
 | _=>(shE rc nm N e).map zbl
noncomputable def zno:Expr->Option (Expr×List Expr×List Keyword×Pos) | .Call f a k p=>some (f,a,k,p) | _=>none
def zga(h:zno e=some x):e=.Call x.1 x.2.1 x.2.2.1 x.2.2.2:=by cases e<;>first | (cases h;done) | (cases h;rfl)
noncomputable def nmF:Expr->Option (Str×Pos) | .Name x p=>some (x,p) | _=>none
def zbz(h:nmF e=some x):e=.Name x.1 x.2:=by cases e<;>first | (cases h;done) | (cases h;rfl)
noncomputable def znY{α:Type}:List α->Option α | [a]=>some a | _=>none
def zff{α:Type}{l:List α}{a:α}(h:znY l=some a):l=[a]:=by
 cases l with
 | nil=>cases h
 | cons b t=>cases t with
  | nil=>cases h;rfl
  | cons _ _=>cases h
def zab{α β:Type}{o:Option α}{f:α->Option β}{b:β}(h:o.bind f=some b):∃a,o=some a/\f a=some b:=ycb.mp h
def zvP(e:Expr):Option (Str×Expr×Pos×Pos):=(zno e).bind fun c=>(nmF c.1).bind fun y=>(znY c.2.1).bind fun a=>if c.2.2.1.isEmpty then some (y.1,a,y.2,c.2.2.2) else none
noncomputable def spA:List Expr->Option (Str×Expr×Pos×Pos) | [e]=>zvP e | _=>none
def zro(h:spA args=some c):args=[.Call (.Name c.1 c.2.2.1) [c.2.1] [] c.2.2.2]:=by
 match args,h with
 | [e],h =>
  have h':zvP e=some c:=h;obtain ⟨q,h1,h'⟩:=zab h';obtain ⟨y,h2,h'⟩:=zab h';obtain ⟨a,h3,h'⟩:=zab h';split at h'
  ·rename_i hk;cases h';rw [zga h1,zbz h2,zff h3,ybz.mp hk]
  ·cases h'
def spG(G:Genv)(rc:Rec)(nm:Names)(N:List Str)(x:Str)(args:List Expr):Option (Bool×Fe):=(spA args).bind fun c =>
 if decide (x = "len")&&decide (c.1 = "set")&&zbJ nm "len" && G.blt "len" && zbJ nm "set" && G.blt "set" then (shE rc nm N c.2.1).map fun f=>(false,eUn zdv f)
 else none
section
variable{cl:Cf}{G:Genv}{k:Nat}{rc:Rec}{X:Cx}{nm:Names}{N:List Str}{E:St->XK}
theorem Gx.units(g:Gx cl G k X nm N E):X.A.units+64<cLine:=g.room.units
def zog(h:zu7 op=some gg):OpD X cl (binaryOp op) gg:=by
 cases op<;>simp [zu7] at h<;>subst h
 ·exact znZ
 ·exact zsg
 ·exact zsj
 ·exact zsk
 ·exact zsn
def zfs(g:Gx cl G k X nm N E)(h:ztc op b=some gg):OpD X cl (compareOp op) gg:=by
 cases op<;>simp only [ztc] at h
 ·cases h;exact zuA g.kk g.units
 ·cases h;exact zsi g.kk g.units
 ·cases h;exact zfM zuv
 ·cases h;exact zsl
 ·cases h;exact zfM zux
 ·cases h;exact zfM zuy
 ·split at h
  ·cases h;exact zsm
  ·cases h
 ·cases h
 ·cases h;exact zuz g.kk g.units
 ·cases h;exact zsh g.kk g.units
theorem zlH(hs:zbr cl G k rc)(g:Gx cl G k X nm N E):∀{es:List Expr} {f:Fe},zjL rc nm N op es=some f->PE X (.BoolOp op es pos) (tE cl E f)/\PW X (.BoolOp op es pos) (tTr cl E f)
 | [],f,h=>by cases h
 | [a],f,h=>by
  unfold zjL at h;split at h
  ·rename_i ht;obtain ⟨h1,h2,_⟩:=zbq hs g h;refine ⟨zrZ h1,?_⟩
   cases op with
   | And=>exact zpd (h2 ht)
   | Or=>exact znM (h2 ht)
  ·cases h
 | a::b::r,f,h=>by
  unfold zjL at h;split at h
  ·rename_i ht
   cases h1:shE rc nm N a with
   | none=>rw [h1] at h;cases h
   | some fa =>
    rw [h1] at h
    cases h2:zjL rc nm N op (b::r) with
    | none=>rw [h2] at h;cases h
    | some fb =>
     rw [h2] at h;obtain ⟨a1,a2,_⟩:=zbq hs g h1;obtain ⟨b1,b2⟩:=zlH hs g (pos:=pos) h2
     cases op with
     | And=>cases h;exact ⟨zrD a1 b1,zrf (a2 ht) b2⟩
     | Or=>cases h;exact ⟨zuc a1 b1,zrd (a2 ht) b2⟩
  ·cases h
theorem zns:bootBuiltins "all" = some (.builtin "all"):=by decide +kernel
theorem zfy:bootBuiltins "tuple" = some (.type "tuple"):=by decide +kernel
theorem zhc:bootBuiltins "list" = some (.type "list"):=by decide +kernel
theorem zi4:bootBuiltins "int" = some (.type "int"):=by decide +kernel
theorem zlG:bootBuiltins "bool" = some (.type "bool"):=by decide +kernel
theorem ztJ:bootBuiltins "max" = some (.builtin "max"):=by decide +kernel
theorem ztI:bootBuiltins "min" = some (.builtin "min"):=by decide +kernel
theorem znr:bootBuiltins "str" = some (.type "str"):=by decide +kernel
theorem ztj(g:Gx cl G k X nm N E)(h:zlJ x=some bi)(hg:zbJ nm x=true)(hb:G.blt x=true)(ha:PA X (e::es) (tHs cl E fs))(hp:(e::es).all zby=true) :
  (bi.nw=true->PE X (.Call (.Name x p) (e::es) [] pos) (tN cl E (zaE bi.g fs)))/\PE X (.Call (.Name x p) (e::es) [] pos) (tE cl E (zaE bi.g fs)):=by
 obtain ⟨g1,g2,g3⟩:=g.glob hg;have m:=g.gok.blt x hb;rw [yaX,yaa] at hp;have st:=zbp (es:=es) (env:=X.env) hp.1;have pl:=zbs (pos:=pos) (env:=X.env) hp.2
 have D1:∀{id:String} {gg:List D->Option D},zjP X cl (.builtin id) gg->bootBuiltins x=some (.builtin id)->PE X (.Call (.Name x p) (e::es) [] pos) (tE cl E (zaE gg fs)):=fun hc hv =>
  PE.imp (zde hc g1 m hv ha g3 g2 st pl) fun _ _ _ q=>zra (fun _ _ _ z=>z) q
 have D2:∀{T:String} {gg:List D->Option D},zjP X cl (.type T) gg->bootBuiltins x=some (.type T)->PE X (.Call (.Name x p) (e::es) [] pos) (tE cl E (zaE gg fs)):=fun hc hv =>
  PE.imp (zcT hc g1 m hv ha g3 g2 st pl) fun _ _ _ q=>zra (fun _ _ _ z=>z) q
 have N2:∀{T:String} {gg:List D->Option D},ztw X cl (.type T) gg->bootBuiltins x=some (.type T)->PE X (.Call (.Name x p) (e::es) [] pos) (tN cl E (zaE gg fs)):=fun hc hv =>
  PE.imp (zcT hc g1 m hv ha g3 g2 st pl) fun _ _ _ q=>zt5 (fun _ _ _ z=>z) q
 unfold zlJ at h;split at h
 ·rename_i e';cases h;exact ⟨(fun z=>absurd z (by decide)),D1 (ztd g.kk) (by rw [e'];exact PySem.boot_len)⟩
 split at h
 ·rename_i e';cases h;exact ⟨(fun z=>absurd z (by decide)),D1 (ztf g.calm) (by rw [e'];exact zns)⟩
 split at h
 ·rename_i e';cases h;exact ⟨(fun z=>absurd z (by decide)),D2 znl (by rw [e'];exact zfy)⟩
 split at h
 ·rename_i e';cases h;exact ⟨(fun z=>absurd z (by decide)),D2 zte (by rw [e'];exact zi4)⟩
 split at h
 ·rename_i e';cases h;have n:=N2 (zqr g.calm) (by rw [e'];decide +kernel);exact ⟨fun _=>n,zbC n⟩
 ·cases h
def ztT(h:zq1 t=some T):bootBuiltins t=some (.type T):=by
 unfold zq1 at h;split at h
 ·rename_i e;cases h;rw [e];exact zi4
 split at h
 ·rename_i e;cases h;rw [e];exact zlG
 split at h
 ·rename_i e;cases h;rw [e];exact zfy
 split at h
 ·rename_i e;cases h;rw [e];exact znr
 split at h
 ·rename_i e;cases h;rw [e];exact zhc
 ·cases h
def zqu(hs:zbr cl G k rc)(g:Gx cl G k X nm N E)(h:zqv G rc nm N x args=some (o,f)) :
  (o=true->PE X (.Call (.Name x p) args [] pos) (tN cl E f))/\PE X (.Call (.Name x p) args [] pos) (tE cl E f):=by
 unfold zqv at h;split at h
 ·rename_i hg;obtain ⟨g1,g2,g3⟩:=g.glob hg;split at h
  ·rename_i fi hfi;split at h
   ·rename_i hl;obtain ⟨fa,fd,ps,m1,m2,m3,m4⟩:=g.gok.fn x fi hfi
    cases h1:shL rc nm N args with
    | none=>rw [h1] at h;cases h
    | some fs =>
     rw [h1] at h;cases h;obtain ⟨a1,a2,a3⟩:=zeh hs g h1;have hlen:fs.length=fi.ar:=a3.trans hl
     have main:PE X (.Call (.Name x p) args [] pos) (zgn (zgh cl fi.ar fi.own fi.run) [] E (tAs cl E fs)):=by
      cases args with
      | nil =>
       cases h1;refine PE.imp (zkK m4 g.room g1 m1 m2 m3 .nil g.pass g2) ?_;rintro σ H Q ⟨B,w,ρ,S,rfl,R,q⟩;exact q [] w R (Fut.refl _) .nil
      | cons e es =>
       rw [yaX,yaa] at a2;exact zmC m4 g.room g1 m1 m2 m3 .nil g.pass a1 g2 (zbp a2.1) (zbs a2.2)
     cases ho:fi.own with
     | false =>
      rw [ho] at main;exact ⟨(fun z=>by cases z),PE.imp main fun _ _ _ q=>zth q hlen⟩
     | true =>
      rw [ho] at main;have n:PE X (.Call (.Name x p) args [] pos) (tN cl E (eFn fi.run fs)):=PE.imp main fun _ _ _ q=>ztg q hlen
      exact ⟨fun _=>n,zbC n⟩
   ·cases h
  ·split at h
   ·rename_i hb;split at h
    ·rename_i hx;subst hx;split at h
     ·rename_i a t p2;split at h
      ·rename_i ht;rw [yaa,yaa] at ht;replace ht:=ht.1
       cases hT:zq1 t with
       | none=>rw [hT] at h;cases h
       | some T =>
        rw [hT] at h
        cases h1:opE rc nm N a with
        | none=>rw [h1] at h;cases h
        | some fa =>
         rw [h1] at h;cases h;obtain ⟨t1,t2,t3⟩:=g.glob ht.1;obtain ⟨a1,a2⟩:=zcl hs g h1;exact ⟨(fun z=>by cases z),zo3 g1 (g.gok.blt _ hb) t1 (g.gok.blt _ ht.2) (ztT hT) t3 t2 (zaG a2) a1⟩
      ·split at h
       ·rename_i ht;rw [yaa] at ht
        cases h1:opE rc nm N a with
        | none=>rw [h1] at h;cases h
        | some fa =>
         rw [h1] at h;cases h;obtain ⟨t1,t2,t3⟩:=g.glob ht.1;obtain ⟨a1,a2⟩:=zcl hs g h1;refine ⟨(fun z=>by cases z),?_⟩
         by_cases hv:t = "ValueError"
         ·subst hv
          have ht2:G.blt "ValueError" = true:=by simpa [zu4] using ht.2
          exact zit (vC:=.ty "ValueError") g1 (g.gok.blt _ hb) (zhH t1 (g.gok.blt _ ht2) zfx rfl t3 t2) (fun u r=>by rw [show u=Value.type "ValueError" from r];rfl) (fun c b hc=>g.gok.isx c _ b hc) (zaG a2) a1
         ·have ht2:G.exc t=true:=by simpa [zu4,hv] using ht.2
          exact zit (vC:=.ref (cl t)) g1 (g.gok.blt _ hb) (zhF t1 (g.gok.exc t ht2).1 rfl t2) (fun u r=>by rw [show u=Value.ref (cl t) from r];unfold clsV;rw [if_neg hv]) (fun c b hc=>g.gok.isx c _ b hc) (zaG a2) a1
       ·cases h
     ·cases h
    ·split at h
     ·cases h
     ·rename_i e es
      cases h2:zlJ x with
      | none=>rw [h2] at h;cases h
      | some bi =>
       rw [h2] at h
       cases h1:opL rc nm N (e::es) with
       | none=>rw [h1] at h;cases h
       | some fs =>
        rw [h1] at h;cases h;obtain ⟨a1,a2,_⟩:=znX hs g h1;exact ztj g h2 hg hb a1 a2
   ·cases h
 ·cases h
def zk6(hs:zbr cl G k rc)(g:Gx cl G k X nm N E)(h:zjx G rc nm N tg e=some fi):PI X tg e (tI cl E fi)/\okE e=true:=by
 have gen:∀{e:Expr},(shE rc nm N e).map zbl=some fi->PI X tg e (tI cl E fi)/\okE e=true:=fun {e} h=>by
  cases h1:shE rc nm N e with
  | none=>rw [h1] at h;cases h
  | some f =>
   rw [h1] at h;cases h;obtain ⟨a1,_,a3⟩:=zbq hs g h1;exact ⟨zrt g.kk a1,a3⟩
 unfold zjx at h;split at h
 ·rename_i x p args pos;split at h
  ·rename_i hx;subst hx;split at h
   ·rename_i hb;rw [yaa] at hb;obtain ⟨g1,_,_⟩:=g.glob hb.1;have m:=g.gok.blt _ hb.2;split at h
    ·rename_i a
     cases h1:shE rc nm N a with
     | none=>rw [h1] at h;cases h
     | some f =>
      rw [h1] at h;cases h;obtain ⟨a1,_,a3⟩:=zbq hs g h1;exact ⟨zoV g1 m (zaT a1 zej (zbp (zaG a3))) (zbp (zaG a3)),rfl⟩
    ·cases h
   ·cases h
  split at h
  ·rename_i hx;subst hx;split at h
   ·rename_i hb;rw [yaa,yaa] at hb;obtain ⟨g1,_,_⟩:=g.glob hb.1.1;have m:=g.gok.blt _ hb.1.2;split at h
    ·rename_i a b
     cases h1:shE rc nm N a with
     | none=>rw [h1] at h;cases h
     | some f =>
      rw [h1] at h
      cases h2:shE rc nm N b with
      | none=>rw [h2] at h;cases h
      | some f2 =>
       rw [h2] at h;cases h;obtain ⟨a1,_,a3⟩:=zbq hs g h1;obtain ⟨b1,_,b3⟩:=zbq hs g h2;have s1:=zbp (es:=[b]) (env:=X.env) (zaG a3);have s2:=zbp (es:=[]) (env:=X.env) (zaG b3)
       cases tg with
       | Tuple es kk tp=>exact ⟨zrp g1 m (zaT a1 (zaT b1 zej s2) s1) s1 (zbs (by simp [zaG b3])),rfl⟩
       | _=>cases hb.2
    ·cases h
   ·cases h
  ·exact gen h
 ·exact gen h
def zua(hs:zbr cl G k rc)(g:Gx cl G k X nm N E)(h:spG G rc nm N x args=some (o,f)):(o=true->PE X (.Call (.Name x p) args [] pos) (tN cl E f))/\PE X (.Call (.Name x p) args [] pos) (tE cl E f):=by
 unfold spG at h
 cases hc:spA args with
 | none=>rw [hc] at h;cases h
 | some c =>
 rw [hc] at h;obtain rfl:=zro hc;obtain ⟨y,a,p2,pos2⟩:=c;dsimp only [Option.bind] at h ⊢;clear hc;split at h
 ·rename_i hb;simp only [yaa,ya5] at hb;obtain ⟨⟨⟨⟨⟨rfl,rfl⟩,b1⟩,b2⟩,b3⟩,b4⟩:=hb;obtain ⟨g1,_,_⟩:=g.glob b1;obtain ⟨g2,_,_⟩:=g.glob b3
  cases h1:shE rc nm N a with
  | none=>rw [h1] at h;cases h
  | some fa =>
   rw [h1] at h;cases h;obtain ⟨a1,_,a3⟩:=zbq hs g h1;exact ⟨(fun z=>by cases z),zkd g.calm (ycJ (Nat.add_le_add_left (by decide) _) g.units) g1 (g.gok.blt _ b2) g2 (g.gok.blt _ b4) a1 (zbp (zaG a3))⟩
 ·cases h
noncomputable def nmB:Expr->Bool | .Name _ _=>true | _=>false
noncomputable def zrF:Expr->Bool | .Name _ _=>true | .Call f as _ _=>nmB f&&!as.isEmpty | .Attribute a _ _=>nmB a | _=>false
def zpN(G:Genv)(rc:Rec)(nm:Names)(N:List Str)(o:Expr)(m:Str)(ap cp:Pos)(args:List Expr)(kws:List Keyword):Option (Bool×Fe) :=
 if kws.isEmpty&&zrF o&&(ap.endLine == cp.line)&&decide (args.length<30) then (G.ob.mt m).bind fun c=>if args.length+1=c.2.ar then (shE rc nm N o).bind fun fo=>(shL rc nm N args).bind fun fs=>some (c.2.own,zaR c.1 m c.2.run fo fs) else none else none
def mkG(G:Genv)(rc:Rec)(nm:Names)(N:List Str)(x:Str)(args:List Expr):Option (Bool×Fe) :=
 if zbJ nm x&&!args.isEmpty then (G.ob.mks x).bind fun c=>(shL rc nm N args).bind fun fs =>
  if args.length+1=c.2.ar then some (false,eMk x [] c.2.run fs) else if args.length+c.1.length+1=c.2.ar then some (false,eMk x c.1 c.2.run fs) else none
 else none
noncomputable def zp7:Expr->Bool | .Name _ _=>true | _=>false
def zuX(G:Genv)(rc:Rec)(nm:Names)(N:List Str)(o:Expr)(f:Str):Option (Bool×Fe):=if zp7 o&&G.ob.fk G.ob.cur f then (shE rc nm N o).map fun fo=>(false,zm9 G.ob.cur f fo) else none
noncomputable def zoh:Expr->Option (Expr×Str×Pos) | .Attribute o m p=>some (o,m,p) | _=>none
def zd0(h:zoh e=some x):e=.Attribute x.1 x.2.1 x.2.2:=by cases e<;>first | (cases h;done) | (cases h;rfl)
def Gx.same(g:Gx cl G k X nm N E):Same' cl X:=⟨g.kk,g.pp,g.ww⟩
def zsZ(hs:zbr cl G k rc)(g:Gx cl G k X nm N E)(h:zuX G rc nm N o f=some (w,fe)):w=false/\PE X (.Attribute o f pos) (tE cl E fe):=by
 unfold zuX at h;split at h
 ·rename_i hc;rw [yaa] at hc
  cases h1:shE rc nm N o with
  | none=>rw [h1] at h;cases h
  | some fo =>
   rw [h1] at h;cases h;refine ⟨rfl,zrB (g.gok.fk _ _ hc.2) g.kk (zbq hs g h1).1 ?_⟩
   cases o<;>first | rfl | cases hc.1
 ·cases h
def zxS(hp:args.all zby=true)(hl:args.length<30):methodCallForm (args.length+0) (backTo pos (starEach args env)) (backToKw pos (keywordEach [] env))=true:=by
 have h:=zbs (pos:=pos) (env:=env) hp;unfold methodCallForm
 have h1:(backTo pos (starEach args env)).all (!·.1)=true:=by
  rw [List.all_eq_not_any_not];simpa using h
 rw [h1];show (true&&true&&decide (args.length+0+0<30))=true;rw [yaE (by omega)];rfl
def zkR(hb:attributeBase o m env (eval o env)=eval o env)(hf:methodCallForm (args.length+0) (backTo pos (starEach args env)) (backToKw pos (keywordEach [] env))=true)(hp:(ap.endLine == pos.line)=true) :
  eval (.Call (.Attribute o m ap) args [] pos) env=(do
   let ov ← eval o env
   standAt ap.atName
   let (f,first) ← holding [ov] (getMethod ov m (do return (← importBound o env).getD true))
   callWith pos f first (backTo pos (starEach args env)) (backToKw pos (keywordEach [] env))):=by
 show (do
  let ov ← attributeBase o m env (eval o env)
  standAt ap.atName
  methodCall o m ap pos env ov (args.length+0) (backTo pos (starEach args env)) (backToKw pos (keywordEach [] env)))=_
 rw [hb]
 have e:∀ov,methodCall o m ap pos env ov (args.length+0) (backTo pos (starEach args env)) (backToKw pos (keywordEach [] env))=(do
   let (f,first) ← holding [ov] (getMethod ov m (do return (← importBound o env).getD true))
   callWith pos f first (backTo pos (starEach args env)) (backToKw pos (keywordEach [] env))):=fun ov=>by
  unfold methodCall calleeOf methodCallPos;rw [hf,hp];rfl
 simp only [e]
def zpM(hs:zbr cl G k rc)(g:Gx cl G k X nm N E)(h:zpN G rc nm N o m ap pos args kws=some (w,fe)):(w=true->PE X (.Call (.Attribute o m ap) args kws pos) (tN cl E fe))/\PE X (.Call (.Attribute o m ap) args kws pos) (tE cl E fe):=by
 unfold zpN at h;split at h
 ·rename_i hc;simp only [yaa,ya5] at hc;obtain ⟨⟨⟨z1,z2⟩,z3⟩,z4⟩:=hc;obtain rfl:=ybz.mp z1;obtain ⟨⟨c,fi⟩,h1,h⟩:=zab h;dsimp only at h;split at h
  ·rename_i hl;obtain ⟨fo,h2,h⟩:=zab h;obtain ⟨fs,h3,h⟩:=zab h;cases h;obtain ⟨f,fd,ps,c1,c2,c3,c4⟩:=g.gok.mt m c fi h1;obtain ⟨a1,a2,a3⟩:=zeh hs g h3
   have hlen:fs.length+1=fi.ar:=by rw [a3];exact hl
   have hb:attributeBase o m X.env (eval o X.env)=eval o X.env:=by
    cases o with
    | Name=>rfl
    | Call f as _ _ =>
     have z:=(yaa ..).mp z2
     cases as with
     | nil=>cases z.2
     | cons _ _=>cases f<;>first | rfl | cases z.1
    | Attribute a _ _=>cases a<;>first | rfl | cases z2
    | _=>cases z2
   have ht:=zkR (ap:=ap) hb (zxS (pos:=pos) a2 z4) z3
   have main:PE X (.Call (.Attribute o m ap) args [] pos) (zgm (cl c) m (zgh cl fi.ar fi.own fi.run) [] E (tE cl E fo) (tAs cl E fs)):=by
    cases args with
    | nil =>
     cases h3;refine PE.imp (zkJ (zbq hs g h2).1 c1 c2 c4 g.room c3 .nil g.pass ht) ?_;rintro σ H Q ⟨B,w,ρ,S,rfl,R,q⟩;refine ⟨B,w,ρ,S,rfl,R,?_⟩
     cases hfo:fo ρ S with
     | bad=>rwa [hfo] at q
     | exc c S1=>rwa [hfo] at q
     | ok d S1 =>
      rw [hfo] at q;intro v w1 R1 F1 sh;obtain ⟨a,dx,fs,e1,e2,e3,B',w',ρ',S',e4,R',q⟩:=q v w1 R1 F1 sh;refine ⟨a,dx,fs,e1,e2,e3,?_⟩;have:=q [] w' R' (Fut.refl _) .nil;rwa [e4] at this
    | cons e es =>
     rw [yaX,yaa] at a2;exact zmv (zbq hs g h2).1 c1 c2 c4 g.room c3 .nil g.pass a1 (zbp a2.1) (zbs a2.2) ht
   cases ho:fi.own with
   | false =>
    rw [ho] at main;exact ⟨(fun z=>by cases z),PE.imp main fun _ _ _ q=>zsA q hlen⟩
   | true =>
    rw [ho] at main;have n:=PE.imp main fun _ _ _ q=>zsz q hlen
    exact ⟨fun _=>n,zbC n⟩
  ·cases h
 ·cases h
def zuE(hs:zbr cl G k rc)(g:Gx cl G k X nm N E)(h:mkG G rc nm N x args=some (w,fe)):w=false/\PE X (.Call (.Name x p) args [] pos) (tE cl E fe):=by
 unfold mkG at h;split at h
 ·rename_i hc;rw [yaa] at hc;obtain ⟨⟨dds,fi⟩,h1,h⟩:=zab h;obtain ⟨fs,h2,h⟩:=zab h;dsimp only at h;obtain ⟨f,fd,ps,dvs,ds,k',hk,mC,M,B0,BD,vd,sd,F⟩:=g.gok.mks x dds fi h1;obtain ⟨a1,a2,a3⟩:=zeh hs g h2;obtain ⟨g1,g2,g3⟩:=g.glob hc.1
  cases args with
  | nil=>cases hc.2
  | cons e es =>
   rw [yaX,yaa] at a2;have hr:Room (k'+1) X.A:=g.room.mono hk;split at h
   ·rename_i hl;cases h;exact ⟨rfl,PE.imp (ziA M F hr g1 mC B0 .nil g.pass a1 g2 (zbp a2.1) (zbs a2.2)) fun _ _ _ q=>zvS (dds:=[]) (fun _=>.nil) q (by rw [a3];exact hl)⟩
   ·split at h
    ·rename_i hl;cases h;exact ⟨rfl,PE.imp (ziA M F hr g1 mC BD vd g.pass a1 g2 (zbp a2.1) (zbs a2.2)) fun _ _ _ q=>zvS sd q (by rw [a3];exact hl)⟩
    ·cases h
 ·cases h
end
section
variable{cl:Cf}{w:Wd}{n:Nat}{B:Base}{σ:St}{ρ:Env}{S:Sto}
def Rel.newo{a dx p:Addr}{ob:Ob}{fs:List (Str×V)}{f:Str}{o0:HO}{d0:D}(R:Rel cl B σ w ρ S)(hn:S[n]?=some ob)(hmu:w.mu[n]?=some a)(how:w.ow a=some (.obj n))(hH:w.H a=some (.ins (cl ob.cls) dx fs))(hF:zcP cl w n fs ob.fs)(hp:w.H p=none)(ht:Top cl w o0 d0) :
  Rel cl B σ ((w.addF p o0 n f).mut a (.ins (cl ob.cls) dx (zdq f (.ref p) fs))) ρ (S.set n (ob.put f true (.tup [d0])))/\Fut w ((w.addF p o0 n f).mut a (.ins (cl ob.cls) dx (zdq f (.ref p) fs))):=by
 have hap:a≠p:=zaw hH hp
 have kp:∀b u,w.H b=some u->w.ow b≠some (.obj n)->((w.addF p o0 n f).mut a (.ins (cl ob.cls) dx (zdq f (.ref p) fs))).H b=some u/\((w.addF p o0 n f).mut a (.ins (cl ob.cls) dx (zdq f (.ref p) fs))).ow b=w.ow b:=fun b u hb hne=>by
  have hbp:b≠p:=zaw hb hp;refine ⟨?_,?_⟩
  ·show upd (upd w.H p _) a _ b=_;rw [zag (fun z=>hne (by rw [z];exact how)),zag hbp];exact hb
  ·show (if b=p then _ else w.ow b)=_;rw [if_neg hbp]
 have ff:Fut w ((w.addF p o0 n f).mut a (.ins (cl ob.cls) dx (zdq f (.ref p) fs))):=⟨fun b u hb hk=>by
  have:=kp b u hb (by rw [hk];exact fun z=>by cases z)
  exact ⟨this.1,this.2.trans hk⟩,fun _ _ h=>h⟩
 have hB:B.Fr a=none:=(R.wd.own a _ how).elim (fun z=>by cases z) fun z=>z
 have hBp:B.Fr p=none:=by
  cases z:B.Fr p with
  | none=>rfl
  | some u=>have:=(R.wd.fr p u z).1;rw [hp] at this;cases this
 have Hp:((w.addF p o0 n f).mut a (.ins (cl ob.cls) dx (zdq f (.ref p) fs))).H p=some o0:=by
  show upd (upd w.H p _) a _ p=_;rw [zag hap.symm,zap]
 have owp:((w.addF p o0 n f).mut a (.ins (cl ob.cls) dx (zdq f (.ref p) fs))).ow p=some (.fld n f):=if_pos rfl
 have owa:((w.addF p o0 n f).mut a (.ins (cl ob.cls) dx (zdq f (.ref p) fs))).ow a=some (.obj n):=by
  show (if a=p then _ else w.ow a)=_;rw [if_neg hap];exact how
 refine ⟨⟨⟨fun b u h=>?_,fun b r h=>?_,by rw [yaJ];exact R.wd.len,fun m ob' h=>?_,R.wd.tab.keep ff fun P ps h1 h2=>⟨(kp P _ h1 (by rw [h2];simp)).1,(kp P _ h1 (by rw [h2];simp)).2.trans h2⟩⟩,R.len,fun i o e h=>?_⟩,ff⟩
 ·have:=kp b u (R.wd.fr b u h).1 fun z=>by
   rcases R.wd.own b _ z with y | y
   ·cases y
   ·rw [h] at y;cases y
  exact ⟨this.1,this.2.trans (R.wd.fr b u h).2⟩
 ·have h':(if b=p then some (Root.fld n f) else w.ow b)=some r:=h;split at h'
  ·rename_i z;rw [z];exact .inr hBp
  ·exact R.wd.own b r h'
 ·rcases zhN h with ⟨rfl,rfl⟩ | ⟨hne,h⟩
  ·refine ⟨a,hmu,owa,dx,_,zap,?_⟩;refine zcP.put (hF.keepF ff fun b u g hb hg=>?_) (.inr ⟨rfl,d0,rfl,p,o0,rfl,owp,Hp,ht.up ff⟩);have:=kp b u hb (by rw [hg];exact fun z=>by cases z);exact ⟨this.1,this.2.trans hg⟩
  ·obtain ⟨b,e,x⟩:=R.wd.obj m ob' h;exact ⟨b,e,x.keep ff fun b u hb hm=>kp b u hb fun z=>by rw [z] at hm;exact hne hm.symm⟩
 ·obtain ⟨v,e1,x⟩:=R.slots i o e h
  exact ⟨v,e1,x.keep ff fun b u hb hr=>by
   have:=kp b u hb (by rw [hr];exact fun z=>by cases z)
   exact ⟨this.1,this.2.trans hr⟩⟩
def Rel.seto{a dx c:Addr}{ob:Ob}{fs:List (Str×V)}{f:Str}{o0:HO}{d0:D}(R:Rel cl B σ w ρ S)(hn:S[n]?=some ob)(hmu:w.mu[n]?=some a)(how:w.ow a=some (.obj n))(hH:w.H a=some (.ins (cl ob.cls) dx fs))(hF:zcP cl w n fs ob.fs)
  (hl:fs.lookup f=some (.ref c)) (hc:w.ow c=some (.fld n f)) (ht:Top cl w o0 d0) (nd:zd7 ob=true) :
  Rel cl B σ (w.mut c o0) ρ (S.set n (ob.put f true (.tup [d0])))/\Fut w (w.mut c o0):=by
 have ff:=zdX (w:=w) (p:=c) (o:=o0) (by rw [hc];exact yaD _)
 have kp:∀b o,w.H b=some o->w.ow b≠some (.fld n f)->(w.mut c o0).H b=some o/\(w.mut c o0).ow b=w.ow b:=fun b o hb hne=>⟨by
  show upd w.H c _ b=_
  rw [zag (fun z=>hne (by rw [z];exact hc))];exact hb,rfl⟩
 have hB:B.Fr c=none:=(R.wd.own c _ hc).elim (fun z=>by cases z) fun z=>z
 refine ⟨⟨⟨fun b o h=>?_,R.wd.own,by rw [yaJ];exact R.wd.len,fun m' ob' h=>?_,R.wd.tab.keep ff fun P ps h1 h2=>⟨(kp P _ h1 (by rw [h2];simp)).1,(kp P _ h1 (by rw [h2];simp)).2.trans h2⟩⟩,R.len,fun i o e h=>?_⟩,ff⟩
 ·refine ⟨?_,(R.wd.fr b o h).2⟩;show upd w.H c _ b=_;rw [zag (fun z=>by rw [z,hB] at h;cases h)];exact (R.wd.fr b o h).1
 ·rcases zhN h with ⟨rfl,rfl⟩ | ⟨hne,h⟩
  ·refine ⟨a,hmu,how,dx,fs,?_,?_⟩
   ·exact (kp a _ hH (by rw [how];exact fun z=>by cases z)).1
   ·refine zcP.dic (a:=c) ff (fun b o g hg hb hr=>?_) (.inr ⟨rfl,d0,rfl,c,o0,rfl,hc,zap,ht.up ff⟩) hF (yaj nd) hl
    ·exact ⟨(kp b o hb (by rw [hr];exact fun z=>hg (by cases z;rfl))).1,hr⟩
  ·obtain ⟨b,e,x⟩:=R.wd.obj m' ob' h;exact ⟨b,e,x.keep ff fun b o hb hm=>kp b o hb fun z=>by rw [z] at hm;exact hne hm.symm⟩
 ·obtain ⟨v',e1,x⟩:=R.slots i o e h;exact ⟨v',e1,x.keep ff fun b o hb hr=>⟨(kp b o hb (by rw [hr];exact fun z=>by cases z)).1,hr⟩⟩
end
noncomputable def zqQ(cn f:Str)(d:D)(S:Sto):Option (Nat×Ob×D):=match d with
 | .ref n=>(match S[n]? with
  | some ob=>if ob.cls=cn then (match ob.fs.lookup f with | some (true,.tup [d])=>some (n,ob,d) | _=>none) else none
  | none=>none)
 | _=>none
section
variable{cl:Cf}{cn:Str}{X:Cx}{E:St->XK}{e:Expr}{fe:Fe}{f:Str}{pos:Pos}{B:Base}{σ:St}{w:Wd}{ρ:Env}{S:Sto}
def ztk{v:V}{d:D}{n:Nat}{ob:Ob}{d0:D}(hk:zeX cl cn f)(R:Rel cl B σ w ρ S)(hv:Shd cl w v d)(hd:zqQ cn f d S=some (n,ob,d0)) :
  ∃a dx fs c o,v=.ref a/\S[n]?=some ob/\w.mu[n]?=some a/\w.ow a=some (.obj n)/\w.H a=some (.ins (cl ob.cls) dx fs)/\zcP cl w n fs ob.fs/\Cls cl.K (cl ob.cls)/\zci cl.K (cl ob.cls) f/\fs.lookup f=some (.ref c)/\w.ow c=some (.fld n f)/\w.H c=some o/\Top cl w o d0:=by
 unfold zqQ at hd
 cases d with
 | ref n' =>
  dsimp only at hd
  cases hS:S[n']? with
  | none=>rw [hS] at hd;cases hd
  | some ob' =>
   rw [hS] at hd;dsimp only at hd;split at hd
   ·rename_i hfk;split at hd
    ·rename_i ds' hl;cases hd;obtain ⟨a,dx,fs,rfl,hmu,how,hH,hF⟩:=zeW R hv hS;obtain ⟨v,lv,fr⟩:=hF.look hl
     rcases fr with ⟨z,_⟩ | ⟨_,d1,z,c,o,rfl,c1,c2,c3⟩
     ·cases z
     ·cases z;exact ⟨a,dx,fs,c,o,rfl,hS,hmu,how,hH,hF,hfk ▸ hk.1,hfk ▸ hk.2,lv,c1,c2,c3⟩
    ·cases hd
   ·cases hd
 | _=>cases hd
end
noncomputable abbrev Fq:=Env->Sto->Option D
noncomputable def tQ(cl:Cf)(g:Fq):TE:=fun σ H Q=>∃B w ρ S d,w.H=H/\Rel cl B σ w ρ S/\g ρ S=some d/\∀v,Shd cl w v d->Q v H
def zhQ:List Fq->Env->Sto->Option (List D)
 | [],_,_=>some []
 | g::gs,ρ,S=>(g ρ S).bind fun d=>(zhQ gs ρ S).map (d::·)
noncomputable def zbw(i:Nat):Fq:=fun ρ _=>match ρ[i]? with | some (some (false,d))=>some d | _=>none
section
variable{X:Cx}{cl:Cf}{e o:Expr}{es:List Expr}{g:Fq}{gs:List Fq}{pos:Pos}{f cn:Str}
def zrL{i:Nat}{x:Str}(hN:X.N[i]?=some x)(hv:Vis X.env.scope x)(hd:(x == ("__debug__":Str))=false)(hcd:(x == ("__classdict__":Str))=false):PE X (.Name x pos) (tQ cl (zbw i)):=by
 refine PE.imp (zaP hN hv hd hcd) ?_;rintro σ H Q ⟨B,w,ρ,S,d,rfl,R,hg,q⟩;unfold zbw at hg;split at hg
 ·rename_i d' hi;cases hg;obtain ⟨v,ev,rv⟩:=R.slots i false _ hi;exact ⟨v,ev,q v rv⟩
 ·cases hg
noncomputable def tQs(cl:Cf)(gs:List Fq):TA:=fun σ H Q=>∃B w ρ S ds,w.H=H/\Rel cl B σ w ρ S/\zhQ gs ρ S=some ds/\∀vs,Shds cl w vs ds->Q vs H
def zrK:PA X [] (tQs cl []):=PA.imp zbG fun σ H Q ⟨B,w,ρ,S,ds,e,R,h,q⟩=>by cases h;exact q [] .nil
def zo9(he:PE X e (tQ cl g))(ht:PA X es (tQs cl gs))(hs:starEach (e::es) X.env=(false,eval e X.env)::starEach es X.env):PA X (e::es) (tQs cl (g::gs)):=by
 refine PA.imp (zaU he ht hs) ?_;rintro σ H Q ⟨B,w,ρ,S,ds,rfl,R,hg,q⟩;unfold zhQ at hg
 cases h1:g ρ S with
 | none=>rw [h1] at hg;cases hg
 | some d1 =>
  rw [h1] at hg
  cases h2:zhQ gs ρ S with
  | none=>rw [h2] at hg;cases hg
  | some ds1 =>
   rw [h2] at hg;cases hg;exact ⟨B,w,ρ,S,d1,rfl,R,h1,fun v hv=>⟨B,w,ρ,S,ds1,rfl,R,h2,fun vs hvs=>q _ (.cons hv hvs)⟩⟩
end
noncomputable def zhI(cn f:Str)(ρ:Env)(S:Sto)(i:Nat):Option (Nat×Ob×D):=match ρ[i]? with | some (some (false,d))=>zqQ cn f d S | _=>none
def ze0(cn f:Str)(i:Nat):Fs:=fun ρ S=>match ρ[i]? with
 | some (some (false,.ref n))=>(match S[n]? with
   | some ob=>if decide (ob.cls=cn)&&decide (ob.fs.length<1000) then .nx ρ (S.set n (ob.put f true (.tup [.lst []]))) else .bad
   | none=>.bad)
 | _=>.bad
def zfG(cn f:Str)(i:Nat)(g:Fq):Fs:=fun ρ S=>match zhI cn f ρ S i,g ρ S with
 | some (n,ob,.lst l),some d=>if zaK l.length&&zd7 ob then .nx ρ (S.set n (ob.put f true (.tup [.lst (l++[d])]))) else .bad
 | _,_=>.bad
def zf5(cn f:Str)(i:Nat):Fe:=fun ρ S=>match zhI cn f ρ S i with
 | some (n,ob,.lst l)=>(match l[l.length-1]? with | some d=>if zd7 ob then .ok d (S.set n (ob.put f true (.tup [.lst l.dropLast]))) else .bad | none=>.bad)
 | _=>.bad
def zc3(cn f:Str)(i:Nat):Fe:=fun ρ S=>match zhI cn f ρ S i with
 | some (_,_,.lst l)=>.ok (.int l.length) S
 | _=>.bad
section
variable{X:Cx}{cl:Cf}{E:St->XK}{own:Bool}{e:Expr}{es:List Expr}{g:Fq}{gs:List Fq}{pos pos' apos ap cp p p2:Pos}{f cn:Str}{i:Nat}{x:Str}
def zdu{B:Base}{σ:St}{w:Wd}{ρ:Env}{S:Sto}{n:Nat}{ob:Ob}{d0:D}(hk:zeX cl cn f)(R:Rel cl B σ w ρ S)(h:zhI cn f ρ S i=some (n,ob,d0)) :
  ∃a dx fs c o,σ[i]?=some (some (.ref a))/\S[n]?=some ob/\w.mu[n]?=some a/\w.ow a=some (.obj n)/\w.H a=some (.ins (cl ob.cls) dx fs)/\zcP cl w n fs ob.fs/\Cls cl.K (cl ob.cls)/\zci cl.K (cl ob.cls) f/\fs.lookup f=some (.ref c)/\w.ow c=some (.fld n f)/\w.H c=some o/\Top cl w o d0:=by
 unfold zhI at h;split at h
 ·rename_i d hi;obtain ⟨v,ev,rv⟩:=R.slots i false _ hi;obtain ⟨a,dx,fs,c,o,rfl,h1⟩:=ztk hk R rv h;exact ⟨a,dx,fs,c,o,ev,h1⟩
 ·cases h
def zoO(hN:X.N[i]?=some x)(hv:Vis X.env.scope x)(hd:(x == ("__debug__":Str))=false)(hcd:(x == ("__classdict__":Str))=false)(sm:Same' cl X)(hk:zeX cl cn f)(hs:swapsWith (.List [] p) (some (.Attribute (.Name x p2) f apos)) pos.line X.env=pure false):PS X (.Assign [.Attribute (.Name x p2) f apos] (.List [] p) pos) (tS cl E own (ze0 cn f i)):=by
 refine PS.imp (zgB (zaP hN hv hd hcd) (znT zbG) hs) ?_;rintro De σ H ⟨B,w,ρ,S,rfl,R,q⟩;refine ⟨by decide,fun pd hpd=>?_⟩;unfold ze0 at q;split at q
 ·rename_i n hi;obtain ⟨v,ev,rv⟩:=R.slots i false _ hi
  cases hS:S[n]? with
  | none=>rw [hS] at q;exact q.elim
  | some ob =>
   rw [hS] at q;dsimp only at q;split at q
   ·rename_i hc0;rw [yaa] at hc0;obtain ⟨a,dx,fs,rfl,hmu,how,hH,hF⟩:=zeW R rv hS;rw [sm.kk];refine ⟨_,ev,a,_,dx,fs,rfl,?_,yaj hc0.1 ▸ hk.1,yaj hc0.1 ▸ hk.2,by rw [hF.len];exact yaj hc0.2,?_⟩
    ·rw [zag (zaw hH hpd)];exact hH
    ·obtain ⟨R3,F3⟩:=R.newo (f:=f) hS hmu how hH hF hpd (.lst .nil);exact q σ _ R3 F3
   ·exact q.elim
 ·exact q.elim
def zoR(hN:X.N[i]?=some x)(hv:Vis X.env.scope x)(hd:(x == ("__debug__":Str))=false)(hcd:(x == ("__classdict__":Str))=false)(sm:Same' cl X)(hk:zeX cl cn f)(hb:attributeBase (.Name x p) f X.env (eval (.Name x p) X.env)=eval (.Name x p) X.env)(he:PE X e (tQ cl g))(hbase:attributeBase (.Attribute (.Name x p) f apos) "append" X.env (eval (.Attribute (.Name x p) f apos) X.env)=eval (.Attribute (.Name x p) f apos) X.env)
  (hpl:zby e=true) (hln:(ap.endLine == cp.line)=true):PS X (.Expr (.Call (.Attribute (.Attribute (.Name x p) f apos) "append" ap) [e] [] cp) pos) (tS cl E own (zfG cn f i g)):=by
 refine PS.imp (zeo (zmD (es:=[]) ybb yb0 yb1 zer (zbQ (zaP hN hv hd hcd) hb) (zaU he zbG (zbp hpl)) (hbase:=hbase) (hfew:=ziW (by simp [hpl]) (by simp)) (hline:=hln) (hs:=zbp hpl) (hplain:=rfl))) ?_;rintro De σ H ⟨B,w,ρ,S,rfl,R,q⟩;unfold zfG at q;split at q
 ·rename_i n ob l d hl hg;obtain ⟨a,dx,fs,c,o,ev,hS,hmu,how,hH,hF,c1,c2,lv,oc,hc,t⟩:=zdu hk R hl;split at q
  ·rename_i hz;rw [yaa] at hz
   cases t with
   | lst t =>
    rw [sm.kk];refine ⟨_,ev,a,_,dx,fs,_,rfl,hH,c1,c2,lv,.inl ⟨rfl,_,SqL.of hc⟩,B,w,ρ,S,d,rfl,R,hg,fun v h'=>?_⟩;refine ⟨c,_,v,rfl,rfl,hc,by rw [t.length];exact zdD hz.1,?_⟩;obtain ⟨R3,F3⟩:=R.seto hS hmu how hH hF lv oc (.lst (t.append (.cons h' .nil))) hz.2;exact q σ _ R3 F3
  ·exact q.elim
 ·exact q.elim
def zo0(hN:X.N[i]?=some x)(hv:Vis X.env.scope x)(hd:(x == ("__debug__":Str))=false)(hcd:(x == ("__classdict__":Str))=false)(sm:Same' cl X)(hk:zeX cl cn f)(hb:attributeBase (.Name x p) f X.env (eval (.Name x p) X.env)=eval (.Name x p) X.env)(hbase:attributeBase (.Attribute (.Name x p) f apos) "pop" X.env (eval (.Attribute (.Name x p) f apos) X.env)=eval (.Attribute (.Name x p) f apos) X.env)
  (hln:(ap.endLine == cp.line)=true):PE X (.Call (.Attribute (.Attribute (.Name x p) f apos) "pop" ap) [] [] cp) (tE cl E (zf5 cn f i)):=by
 refine PE.imp (zr2 ybb PySem.F.slot_list_pop PySem.F.type_list_pop zsw (zbQ (zaP hN hv hd hcd) hb) (hbase:=hbase) (hline:=hln)) ?_;rintro σ H Q ⟨B,w,ρ,S,rfl,R,q⟩;unfold zf5 at q
 cases hl:zhI cn f ρ S i with
 | none=>rw [hl] at q;exact q.elim
 | some u =>
  obtain ⟨n,ob,d0⟩:=u;rw [hl] at q
  cases d0 with
  | lst l =>
   dsimp only at q;obtain ⟨a,dx,fs,c,o,ev,hS,hmu,how,hH,hF,c1,c2,lv,oc,hc,t⟩:=zdu hk R hl
   cases hy:l[l.length-1]? with
   | none=>rw [hy] at q;exact q.elim
   | some d =>
    rw [hy] at q;dsimp only at q
    cases hnd:zd7 ob with
    | false=>rw [hnd,if_neg (by decide)] at q;exact q.elim
    | true =>
     rw [hnd,if_pos rfl] at q
     cases t with
     | @lst xs _ t =>
      obtain ⟨v,ev',rv⟩:=t.at hy;rw [sm.kk]
      have hdl:Shds cl w xs.dropLast l.dropLast:=by
       rw [List.dropLast_eq_take,List.dropLast_eq_take,t.length];exact t.take _
      refine ⟨_,ev,a,_,dx,fs,_,rfl,hH,c1,c2,lv,.inl ⟨rfl,_,SqL.of hc⟩,c,xs,v,rfl,rfl,hc,by rw [t.length];exact ev',?_⟩;obtain ⟨R3,F3⟩:=R.seto hS hmu how hH hF lv oc (.lst hdl) hnd;exact q v _ R3 F3 (rv.up F3)
  | _=>exact q.elim
def zo2{q1:Pos}{y:Str}(hN:X.N[i]?=some x)(hv:Vis X.env.scope x)(hd:(x == ("__debug__":Str))=false)(hcd:(x == ("__classdict__":Str))=false)(sm:Same' cl X)(hk:zeX cl cn f)(hb:attributeBase (.Name x p) f X.env (eval (.Name x p) X.env)=eval (.Name x p) X.env)(hg:Gl X "len")(hm:X.mg "len" = none) :
  PE X (.Call (.Name "len" q1) [.Attribute (.Name x p) f apos] [] cp) (tE cl E (zc3 cn f i)):=by
 refine PE.imp (zde zcg hg hm PySem.boot_len (zaU (zbQ (zaP hN hv hd hcd) hb) zbG)) ?_;rintro σ H Q ⟨B,w,ρ,S,rfl,R,q⟩;unfold zc3 at q
 cases hl:zhI cn f ρ S i with
 | none=>rw [hl] at q;exact q.elim
 | some u =>
  obtain ⟨n,ob,d0⟩:=u;rw [hl] at q
  cases d0 with
  | lst l =>
   dsimp only at q;obtain ⟨a,dx,fs,c,o,ev,hS,hmu,how,hH,hF,c1,c2,lv,oc,hc,t⟩:=zdu hk R hl
   cases t with
   | lst t =>
    rw [sm.kk];refine ⟨_,ev,a,_,dx,fs,_,rfl,hH,c1,c2,lv,c,_,rfl,.inl (SqL.of hc),?_⟩;rw [t.length];exact q _ w R (Fut.refl _) (.int _)
  | _=>exact q.elim
end
noncomputable def eQ(g:Fq):Fe:=fun ρ S=>match g ρ S with | some d=>.ok d S | none=>.bad
def dicI(cn f:Str)(ρ:Env)(S:Sto)(i:Nat):Option (Nat×Ob×List (D×D)):=match zhI cn f ρ S i with
 | some (n,ob,.dic ds)=>if zai ds then some (n,ob,ds) else none
 | _=>none
def zmk(cn f:Str)(i:Nat)(g:Fq):Fq:=fun ρ S=>match g ρ S,dicI cn f ρ S i with | some (.str k),some (_,_,ds)=>some (.bl (zae k ds).isSome) | _,_=>none
def ze2(cn f:Str)(i:Nat)(g:Fq):Fq:=fun ρ S=>match g ρ S,dicI cn f ρ S i with | some (.str k),some (_,_,ds)=>some (.bl (!(zae k ds).isSome)) | _,_=>none
def zpc(cn f:Str)(i:Nat)(g:Fq):Fq:=fun ρ S=>match g ρ S,dicI cn f ρ S i with | some (.str k),some (_,_,ds)=>zae k ds | _,_=>none
def zgA(cn f:Str)(i:Nat)(g:Fq):Fq:=fun ρ S=>match g ρ S,dicI cn f ρ S i with | some (.str k),some (_,_,ds)=>some ((zae k ds).getD .non) | _,_=>none
def zkj(cn f:Str)(i:Nat):Fs:=fun ρ S=>match ρ[i]? with
 | some (some (false,.ref n))=>(match S[n]? with
   | some ob=>if decide (ob.cls=cn)&&decide (ob.fs.length<1000) then .nx ρ (S.set n (ob.put f true (.tup [.dic []]))) else .bad
   | none=>.bad)
 | _=>.bad
def zji(cn f:Str)(i:Nat)(gk ge:Fq):Fs:=fun ρ S=>match gk ρ S,ge ρ S,dicI cn f ρ S i with
 | some (.str k),some d,some (n,ob,ds)=>if zaK ds.length&&zd7 ob then .nx ρ (S.set n (ob.put f true (.tup [.dic (putS k d ds)]))) else .bad
 | _,_,_=>.bad
def zjj(cn f:Str)(i:Nat)(gk:Fq):Fs:=fun ρ S=>match gk ρ S,dicI cn f ρ S i with
 | some (.str k),some (n,ob,ds)=>if zd7 ob then (if (zae k ds).isSome then .nx ρ (S.set n (ob.put f true (.tup [.dic (dropS k ds)]))) else .nx ρ S) else .bad
 | _,_=>.bad
section
variable{X:Cx}{cl:Cf}{E:St->XK}{own:Bool}{e o:Expr}{g gk ge:Fq}{pos apos ap cp p p2 p3:Pos}{f cn:Str}{i:Nat}{x:Str}{σ:St}{H:Hp}{Q:VK}
def zoC(q:tE cl E (eQ g) σ H Q):tQ cl g σ H Q:=by
 obtain ⟨B,w,ρ,S,rfl,R,q⟩:=q;unfold eQ at q
 cases hg:g ρ S with
 | none=>rw [hg] at q;exact q.elim
 | some d=>rw [hg] at q;exact ⟨B,w,ρ,S,d,rfl,R,hg,fun v hv=>q v w R (Fut.refl _) hv⟩
def zue(h:PE X e (tQ cl g)):PE X e (tE cl E (eQ g)):=PE.imp h fun _ _ _ q=>zoC q
def zeQ{B:Base}{w:Wd}{ρ:Env}{S:Sto}{n:Nat}{ob:Ob}{ds:List (D×D)}(hk:zeX cl cn f)(R:Rel cl B σ w ρ S)(h:dicI cn f ρ S i=some (n,ob,ds)) :
  ∃a dx fs c kvs,σ[i]?=some (some (.ref a))/\S[n]?=some ob/\w.mu[n]?=some a/\w.ow a=some (.obj n)/\w.H a=some (.ins (cl ob.cls) dx fs)/\zcP cl w n fs ob.fs/\Cls cl.K (cl ob.cls)/\zci cl.K (cl ob.cls) f/\fs.lookup f=some (.ref c)/\w.ow c=some (.fld n f)/\w.H c=some (.dK kvs)/\ShdK cl w kvs ds/\zai ds=true:=by
 unfold dicI at h;split at h
 ·rename_i n' ob' ds' hl;split at h
  ·rename_i ho;cases h;obtain ⟨a,dx,fs,c,o,ev,h1,h2,h3,h4,h5,h6,h7,h8,h9,h10,t⟩:=zdu hk R hl;obtain ⟨kvs,rfl,t2⟩:=zou t ho;exact ⟨a,dx,fs,c,kvs,ev,h1,h2,h3,h4,h5,h6,h7,h8,h9,h10,t2,ho⟩
  ·cases h
 ·cases h
def zfc{w:Wd}{v:V}{k:Str}(h:Shd cl w v (.str k)):v=.str k:=by cases h;rfl
def zmj{B:Base}{w:Wd}{ρ:Env}{S:Sto}{k:Str}{n:Nat}{ob:Ob}{ds:List (D×D)}{P:Option V->Prop}(hk:zeX cl cn f)(kk:X.K=cl.K)(R:Rel cl B σ w ρ S)(h:dicI cn f ρ S i=some (n,ob,ds))
  (hq:∀ov:Option V,(ov=none/\zae k ds=none)\/(∃v d,ov=some v/\zae k ds=some d/\Shd cl w v d)->P ov) :
  ∃v,σ[i]?=some (some v)/\∃a C dx fs c,v=.ref a/\w.H a=some (.ins C dx fs)/\Cls X.K C/\zci X.K C f/\fs.lookup f=some (.ref c)/\IsD w.H c/\∃ov,zh8 w.H c (.str k) ov/\P ov:=by
 obtain ⟨a,dx,fs,c,kvs,ev,_,_,_,h4,_,h6,h7,h8,_,h10,t,ho⟩:=zeQ hk R h;rw [kk];exact ⟨_,ev,a,_,dx,fs,c,rfl,h4,h6,h7,h8,.inl ⟨kvs,.inl h10⟩,_,zh8.k (k:=.inr k) h10,hq _ (zcm k t ho)⟩
def zwt(hk:zeX cl cn f)(kk:X.K=cl.K)(q:tQ cl (zmk cn f i g) σ H Q):zvK (tQ cl g) (zt0 X.K (ztX i) f) σ H Q:=by
 obtain ⟨B,w,ρ,S,d,rfl,R,hg,q⟩:=q;unfold zmk at hg;split at hg
 ·rename_i k n ob ds h1 h2;cases hg;refine ⟨B,w,ρ,S,_,rfl,R,h1,fun v hv=>?_⟩;rw [zfc hv]
  obtain ⟨v',e0,a,C,dx,fs,c,e1,e2,e3,e4,e5,_,ov,e6,e7⟩:=zmj (P:=fun ov=>Q (.bl ov.isSome) w.H) hk kk R h2 fun ov h=>by
   rcases h with ⟨rfl,h⟩ | ⟨_,_,rfl,h,_⟩<;>rw [h] at q<;>exact q _ (.bl _)
  exact ⟨v',e0,a,C,dx,fs,_,e1,e2,e3,e4,e5,c,ov,rfl,e6,e7⟩
 ·cases hg
def zn0(hk:zeX cl cn f)(kk:X.K=cl.K)(q:tQ cl (ze2 cn f i g) σ H Q):zj3 (tQ cl g) (zt0 X.K (ztX i) f) σ H Q:=by
 obtain ⟨B,w,ρ,S,d,rfl,R,hg,q⟩:=q;unfold ze2 at hg;split at hg
 ·rename_i k n ob ds h1 h2;cases hg;refine ⟨B,w,ρ,S,_,rfl,R,h1,fun v hv=>?_⟩;rw [zfc hv]
  obtain ⟨v',e0,a,C,dx,fs,c,e1,e2,e3,e4,e5,_,ov,e6,e7⟩:=zmj (P:=fun ov=>Q (.bl (!ov.isSome)) w.H) hk kk R h2 fun ov h=>by
   rcases h with ⟨rfl,h⟩ | ⟨_,_,rfl,h,_⟩<;>rw [h] at q<;>exact q _ (.bl _)
  exact ⟨v',e0,a,C,dx,fs,_,e1,e2,e3,e4,e5,c,ov,rfl,e6,e7⟩
 ·cases hg
variable(hN:X.N[i]?=some x)(hv:Vis X.env.scope x)(hd:(x == ("__debug__":Str))=false)(hcd:(x == ("__classdict__":Str))=false)(sm:Same' cl X)(hk:zeX cl cn f)(hb:attributeBase (.Name x p) f X.env (eval (.Name x p) X.env)=eval (.Name x p) X.env)
include hN hv hd hcd sm hk hb
def zrN(hu:X.A.units+1<cLine)(he:PE X e (tQ cl g))(hm:behindInMarks .In (.Attribute (.Name x p) f apos)=false):PE X (.Compare e [.In] [.Attribute (.Name x p) f apos] pos) (tQ cl (zmk cn f i g)) :=
 PE.imp (znV (znW hu he (zbQ (zaP hN hv hd hcd) hb)) hm) fun _ _ _ q=>zwt hk sm.kk q
def zpa(hu:X.A.units+1<cLine)(he:PE X e (tQ cl g))(hm:behindInMarks .NotIn (.Attribute (.Name x p) f apos)=false):PE X (.Compare e [.NotIn] [.Attribute (.Name x p) f apos] pos) (tQ cl (ze2 cn f i g)) :=
 PE.imp (znV (zgE hu he (zbQ (zaP hN hv hd hcd) hb)) hm) fun _ _ _ q=>zn0 hk sm.kk q
def zrJ(hu:X.A.units+1<cLine)(he:PE X e (tQ cl g))(hm:behindInMarks .In (.Attribute (.Name x p) f apos)=false):PT X (.Compare e [.In] [.Attribute (.Name x p) f apos] pos) (tTr cl E (eQ (zmk cn f i g))) :=
 PT.imp (znO (znW hu he (zbQ (zaP hN hv hd hcd) hb)) hm) fun _ _ _ q=>zwt hk sm.kk (zoC (zgl q))
def zo8(hu:X.A.units+1<cLine)(he:PE X e (tQ cl g))(hm:behindInMarks .NotIn (.Attribute (.Name x p) f apos)=false):PT X (.Compare e [.NotIn] [.Attribute (.Name x p) f apos] pos) (tTr cl E (eQ (ze2 cn f i g))) :=
 PT.imp (znO (zgE hu he (zbQ (zaP hN hv hd hcd) hb)) hm) fun _ _ _ q=>zn0 hk sm.kk (zoC (zgl q))
def zpb(hu:X.A.units+1<cLine)(he:PE X e (tQ cl g))(m:M1 X (.Attribute (.Name x p) f apos) "get" ap e cp):PE X (.Call (.Attribute (.Attribute (.Name x p) f apos) "get" ap) [e] [] cp) (tQ cl (zgA cn f i g)):=by
 refine PE.imp (zmy hu (zbQ (zaP hN hv hd hcd) hb) he m) ?_;rintro σ H Q ⟨B,w,ρ,S,d,rfl,R,hg,q⟩;unfold zgA at hg;split at hg
 ·rename_i k n ob ds h1 h2;cases hg
  obtain ⟨v',e0,a,C,dx,fs,c,e1,e2,e3,e4,e5,e55,ov,e6,e7⟩:=zmj (P:=fun ov=>Q (ov.getD .non) w.H) hk sm.kk R h2 fun ov h=>by
   rcases h with ⟨rfl,h⟩ | ⟨_,_,rfl,h,r⟩<;>rw [h] at q
   ·exact q _ .non
   ·exact q _ r
  refine ⟨v',e0,a,C,dx,fs,_,e1,e2,e3,e4,e5,c,rfl,e55,B,w,ρ,S,_,rfl,R,h1,fun v hv=>?_⟩;rw [zfc hv];exact ⟨ov,e6,e7⟩
 ·cases hg
def zrM(hu:X.A.units+1<cLine)(he:PE X e (tQ cl g))(hs:zvg e):PE X (.Subscript (.Attribute (.Name x p) f apos) e pos) (tQ cl (zpc cn f i g)):=by
 refine PE.imp (zpv hu (zbQ (zaP hN hv hd hcd) hb) he hs) ?_;rintro σ H Q ⟨B,w,ρ,S,d,rfl,R,hg,q⟩;unfold zpc at hg;split at hg
 ·rename_i k n ob ds h1 h2
  obtain ⟨v',e0,a,C,dx,fs,c,e1,e2,e3,e4,e5,e55,ov,e6,v,rfl,e7⟩:=zmj (P:=fun ov=>∃v,ov=some v/\Q v w.H) hk sm.kk R h2 fun ov h=>by
   rcases h with ⟨rfl,h⟩ | ⟨v,_,rfl,h,r⟩<;>rw [h] at hg
   ·cases hg
   ·cases hg;exact ⟨v,rfl,q _ r⟩
  refine ⟨v',e0,a,C,dx,fs,_,e1,e2,e3,e4,e5,B,w,ρ,S,_,rfl,R,h1,fun y hv=>?_⟩;rw [zfc hv];exact ⟨c,v,rfl,e6,e7⟩
 ·cases hg
omit hb
def zoP(hs:swapsWith (.Dict [] [] p) (some (.Attribute (.Name x p2) f apos)) pos.line X.env=pure false):PS X (.Assign [.Attribute (.Name x p2) f apos] (.Dict [] [] p) pos) (tS cl E own (zkj cn f i)):=by
 refine PS.imp (zgB (zaP hN hv hd hcd) ziB hs) ?_;rintro De σ H ⟨B,w,ρ,S,rfl,R,q⟩;intro pd hpd;unfold zkj at q;split at q
 ·rename_i n hi;obtain ⟨v,ev,rv⟩:=R.slots i false _ hi
  cases hS:S[n]? with
  | none=>rw [hS] at q;exact q.elim
  | some ob =>
   rw [hS] at q;dsimp only at q;split at q
   ·rename_i hc0;rw [yaa] at hc0;obtain ⟨a,dx,fs,rfl,hmu,how,hH,hF⟩:=zeW R rv hS;rw [sm.kk];refine ⟨_,ev,a,_,dx,fs,rfl,?_,yaj hc0.1 ▸ hk.1,yaj hc0.1 ▸ hk.2,by rw [hF.len];exact yaj hc0.2,?_⟩
    ·rw [zag (zaw hH hpd)];exact hH
    ·obtain ⟨R3,F3⟩:=R.newo (f:=f) hS hmu how hH hF hpd (.dicK .nil);exact q σ _ R3 F3
   ·exact q.elim
 ·exact q.elim
include hb
def zoK(hu:X.A.units+1<cLine)(hek:PE X e (tQ cl gk))(heo:PE X o (tQ cl ge))(hs:swapsWith o (some (.Subscript (.Attribute (.Name x p) f apos) e p3)) pos.line X.env=pure false):PS X (.Assign [.Subscript (.Attribute (.Name x p) f apos) e p3] o pos) (tS cl E own (zji cn f i gk ge)):=by
 refine PS.imp (zpk hu (zbQ (zaP hN hv hd hcd) hb) hek heo hs) ?_;rintro De σ H ⟨B,w,ρ,S,rfl,R,q⟩;unfold zji at q;split at q
 ·rename_i k d n ob ds h1 h2 h3;split at q
  ·rename_i hz;rw [yaa] at hz;refine ⟨B,w,ρ,S,_,rfl,R,h2,fun v hv=>?_⟩;obtain ⟨a,dx,fs,c,kvs,ev,hS,hmu,how,hH,hF,c1,c2,lv,oc,hc,t,ho⟩:=zeQ hk R h3;rw [sm.kk];refine ⟨_,ev,a,_,dx,fs,_,rfl,hH,c1,c2,lv,B,w,ρ,S,_,rfl,R,h1,fun y hy=>?_⟩;rw [zfc hy];refine ⟨c,_,rfl,zqJ.k (k:=.inr k) hc (by rw [t.length];exact zdD hz.1),?_⟩;obtain ⟨R3,F3⟩:=R.seto hS hmu how hH hF lv oc (.dicK (t.putS ho hv)) hz.2;exact q σ _ R3 F3
  ·exact q.elim
 ·exact q.elim
def zoL{j:Nat}(hek:PE X e (tQ cl gk))(m:M2 X (.Attribute (.Name x p) f apos) "pop" ap e (.Constant .none j p2) cp):PS X (.Expr (.Call (.Attribute (.Attribute (.Name x p) f apos) "pop" ap) [e,.Constant .none j p2] [] cp) pos) (tS cl E own (zjj cn f i gk)):=by
 refine PS.imp (zeo (zmx (zbQ (zaP hN hv hd hcd) hb) hek znS m)) ?_;rintro De σ H ⟨B,w,ρ,S,rfl,R,q⟩;unfold zjj at q;split at q
 ·rename_i k n ob ds h1 h3;split at q
  ·rename_i hz;obtain ⟨a,dx,fs,c,kvs,ev,hS,hmu,how,hH,hF,c1,c2,lv,oc,hc,t,ho⟩:=zeQ hk R h3;rw [sm.kk];refine ⟨_,ev,a,_,dx,fs,_,rfl,hH,c1,c2,lv,c,rfl,.inl ⟨kvs,.inl hc⟩,B,w,ρ,S,_,rfl,R,h1,fun y hy=>?_⟩;rw [zfc hy];refine ⟨kvs,.inr k,hc,rfl,fun v hv=>?_,fun hn=>?_⟩
   ·rcases zcm k t ho with ⟨z,_⟩ | ⟨_,_,_,z,_⟩
    ·rw [z] at hv;cases hv
    ·rw [z] at q;simp only [ycI,ycT] at q;obtain ⟨R3,F3⟩:=R.seto hS hmu how hH hF lv oc (.dicK (t.dropS (k:=k) ho)) hz;exact q σ _ R3 F3
   ·rcases zcm k t ho with ⟨_,z⟩ | ⟨_,_,z,_⟩
    ·rw [z] at q;simp only [Option.isSome_none,ybH,if_false] at q;exact q σ w R (Fut.refl _)
    ·rw [z] at hn;cases hn
  ·exact q.elim
 ·exact q.elim
end
def zjl(cn f:Str)(i:Nat)(gs:List Fq):Fs:=fun ρ S=>match zhI cn f ρ S i,zhQ gs ρ S with
 | some (n,ob,.lst l),some ds=>if zaK l.length&&zaK ds.length&&zd7 ob then .nx ρ (S.set n (ob.put f true (.tup [.lst (l++[.tup ds])]))) else .bad
 | _,_=>.bad
section
variable{X:Cx}{cl:Cf}{E:St->XK}{own:Bool}{es:List Expr}{gs:List Fq}{pos apos ap cp p p2:Pos}{f cn:Str}{i kk:Nat}{x:Str}
def zoQ(hN:X.N[i]?=some x)(hv:Vis X.env.scope x)(hd:(x == ("__debug__":Str))=false)(hcd:(x == ("__classdict__":Str))=false)(sm:Same' cl X)(hk:zeX cl cn f)(hb:attributeBase (.Name x p) f X.env (eval (.Name x p) X.env)=eval (.Name x p) X.env)(he:PA X es (tQs cl gs))(hbase:attributeBase (.Attribute (.Name x p) f apos) "append" X.env (eval (.Attribute (.Name x p) f apos) X.env)=eval (.Attribute (.Name x p) f apos) X.env)
  (hln:(ap.endLine == cp.line)=true):PS X (.Expr (.Call (.Attribute (.Attribute (.Name x p) f apos) "append" ap) [.Tuple es kk p2] [] cp) pos) (tS cl E own (zjl cn f i gs)):=by
 refine PS.imp (zeo (zmD (es:=[]) ybb yb0 yb1 zer (zbQ (zaP hN hv hd hcd) hb) (zaU (znR he) zbG (zbp rfl)) (hbase:=hbase) (hfew:=ziW rfl (by simp)) (hline:=hln) (hs:=zbp rfl) (hplain:=rfl))) ?_;rintro De σ H ⟨B,w,ρ,S,rfl,R,q⟩;unfold zjl at q;split at q
 ·rename_i n ob l ds hl hg;obtain ⟨a,dx,fs,c,o,ev,hS,hmu,how,hH,hF,c1,c2,lv,oc,hc,t⟩:=zdu hk R hl;split at q
  ·rename_i hz;rw [yaa,yaa] at hz
   cases t with
   | lst t =>
    rw [sm.kk];refine ⟨_,ev,a,_,dx,fs,_,rfl,hH,c1,c2,lv,.inl ⟨rfl,_,SqL.of hc⟩,B,w,ρ,S,ds,rfl,R,hg,fun vs hvs=>⟨by rw [hvs.length];exact za5 hz.1.2,fun pn hpn=>?_⟩⟩;have gr:=zaH hpn (.tup vs);have R2:Rel cl B σ (w.add pn (.tup vs)) ρ S:=R.grow gr;obtain ⟨a',dx',fs',c',o',ev',_,hmu',how',hH',hF',_,_,lv',oc',hc',t'⟩:=zdu hk R2 hl;rw [ev] at ev';cases ev';have e1:=(gr.keep a _ hH).1;rw [hH'] at e1;cases e1;rw [lv] at lv';cases lv';have e2:=(gr.keep c _ hc).1;rw [hc'] at e2;cases e2
    cases t' with
    | lst t' =>
     refine ⟨c,_,_,rfl,rfl,hc',by rw [t.length];exact zdD hz.1.1,?_⟩;obtain ⟨R3,F3⟩:=R2.seto hS hmu' how' hH' hF' lv oc' (.lst (t'.append (.cons (Shd.newT hpn hvs) .nil))) hz.2;exact q σ _ R3 (gr.fut.trans F3)
  ·exact q.elim
 ·exact q.elim
end
noncomputable def zqR(f:Str):Bool:=decide (f = "done")||decide (f = "undone")||decide (f = "before")||decide (f = "after")
noncomputable def zne(f:Str):Bool:=decide (f = "named")
structure FA where
 i:Nat
 x:Str
 p:Pos
 f:Str
 ap:Pos
def faG(G:Genv)(nm:Names)(N:List Str)(e:Expr):Option FA :=
 (zoh e).bind fun t=>(nmF t.1).bind fun x=>if G.ob.fk G.ob.cur t.2.1 then (zbP nm N x.1).map fun i=>⟨i,x.1,x.2,t.2.1,t.2.2⟩ else none
noncomputable def zpF:List Expr->List Keyword->Option Expr | [a],[]=>some a | _,_=>none
def zep{as:List Expr}{ks:List Keyword}{a:Expr}(h:zpF as ks=some a):as=[a]/\ks=[]:=by
 unfold zpF at h;split at h
 ·cases h;exact ⟨rfl,rfl⟩
 ·cases h
noncomputable def zuB:List Expr->List Keyword->Bool | [],[]=>true | _,_=>false
def zpJ{as:List Expr}{ks:List Keyword}(h:zuB as ks=true):as=[]/\ks=[]:=by
 unfold zuB at h;split at h
 ·exact ⟨rfl,rfl⟩
 ·cases h
def quG(G:Genv)(nm:Names)(N:List Str)(e:Expr):Option Fq:=match e with
 | .Name x _=>(zbP nm N x).map zbw
 | .Call f as ks cp=>(zoh f).bind fun t=>(zpF as ks).bind fun a=>(nmF a).bind fun y=>if decide (t.2.1 = "get")&&(t.2.2.endLine == cp.line) then (faG G nm N t.1).bind fun a=>if zne a.f then (zbP nm N y.1).map fun j=>zgA G.ob.cur a.f a.i (zbw j) else none else none
 | _=>none
def quL(G:Genv)(nm:Names)(N:List Str):List Expr->Option (List Fq)
 | []=>some []
 | e::es=>(quG G nm N e).bind fun g=>(quL G nm N es).map (g::·)
noncomputable def inB:List CmpOp->List Expr->Option (Bool×Expr) | [.In],[b]=>some (true,b) | [.NotIn],[b]=>some (false,b) | _,_=>none
def zsS{os:List CmpOp}{bs:List Expr}{c:Bool×Expr}(h:inB os bs=some c):bs=[c.2]/\os=[if c.1 then .In else .NotIn]:=by
 unfold inB at h;split at h
 ·cases h;exact ⟨rfl,rfl⟩
 ·cases h;exact ⟨rfl,rfl⟩
 ·cases h
def zus(G:Genv)(nm:Names)(N:List Str)(f:Expr)(as:List Expr)(ks:List Keyword):Option Fe:=(nmF f).bind fun x=>(zpF as ks).bind fun b=>if decide (x.1 = "len")&&zbJ nm x.1&&G.blt x.1 then (faG G nm N b).bind fun t=>if zqR t.f then some (zc3 G.ob.cur t.f t.i) else none else none
def zur(G:Genv)(nm:Names)(N:List Str)(f:Expr)(as:List Expr)(ks:List Keyword)(cp:Pos):Option Fe:=(zoh f).bind fun u=>if zuB as ks&&decide (u.2.1 = "pop")&&(u.2.2.endLine == cp.line) then (faG G nm N u.1).bind fun t=>if zqR t.f then some (zf5 G.ob.cur t.f t.i) else none else none
def zut(G:Genv)(nm:Names)(N:List Str)(e:Expr):Option Fe:=match e with
 | .Compare a os bs _=>(nmF a).bind fun y=>(inB os bs).bind fun c=>(faG G nm N c.2).bind fun t=>if zne t.f then (zbP nm N y.1).map fun j=>if c.1 then eQ (zmk G.ob.cur t.f t.i (zbw j)) else eQ (ze2 G.ob.cur t.f t.i (zbw j)) else none
 | .Subscript b i _=>(nmF i).bind fun y=>(faG G nm N b).bind fun t=>if zne t.f then (zbP nm N y.1).map fun j=>eQ (zpc G.ob.cur t.f t.i (zbw j)) else none
 | .Call f as ks cp=>(match zus G nm N f as ks with | some r=>some r | none=>zur G nm N f as ks cp)
 | _=>none
section
variable{cl:Cf}{G:Genv}{k:Nat}{X:Cx}{nm:Names}{N:List Str}{E:St->XK}
def ze4(g:Gx cl G k X nm N E){e:Expr}{a:FA}(h:faG G nm N e=some a):e=.Attribute (.Name a.x a.p) a.f a.ap/\X.N[a.i]?=some a.x/\Vis X.env.scope a.x/\(a.x == ("__debug__":Str))=false/\(a.x == ("__classdict__":Str))=false/\zeX cl G.ob.cur a.f:=by
 unfold faG at h;obtain ⟨t,h1,h⟩:=zab h;obtain ⟨x,h2,h⟩:=zab h;split at h
 ·rename_i hf;obtain ⟨i,h3,h⟩:=yap.mp h;subst h;obtain ⟨s1,s2,s3,s4⟩:=g.slot h3;have e1:=zd0 h1;have e2:=zbz h2;rw [e2] at e1;exact ⟨e1,s1,s2,s3,s4,g.gok.fk _ _ hf⟩
 ·cases h
def Gx.u1(g:Gx cl G k X nm N E):X.A.units+1<cLine:=ycJ (Nat.add_le_add_left (by decide) _) g.units
def ze1(g:Gx cl G k X nm N E){x:Str}{p:Pos}{j:Nat}(h:zbP nm N x=some j):PE X (.Name x p) (tQ cl (zbw j)):=by
 obtain ⟨s1,s2,s3,s4⟩:=g.slot h;exact zrL s1 s2 s3 s4
def zrI(g:Gx cl G k X nm N E){e:Expr}{q:Fq}(h:quG G nm N e=some q):PE X e (tQ cl q)/\zby e=true:=by
 unfold quG at h;split at h
 ·obtain ⟨i,h1,h⟩:=yap.mp h;subst h;exact ⟨ze1 g h1,rfl⟩
 ·obtain ⟨⟨o,m,ap⟩,t1,h2⟩:=zab h;obtain ⟨b,t2,h3⟩:=zab h2;obtain ⟨⟨y,py⟩,t3,h4⟩:=zab h3;clear h h2 h3;have h:=h4;clear h4;obtain ⟨rfl,rfl⟩:=zep t2;rw [zd0 t1,zbz t3];dsimp only at h ⊢;split at h
  ·rename_i hc;rw [yaa] at hc;have em:=yaj hc.1;subst em;obtain ⟨a,h1,h⟩:=zab h;split at h
   ·obtain ⟨j,h2,h⟩:=yap.mp h;subst h;obtain ⟨e1,s1,s2,s3,s4,fk⟩:=ze4 g h1;subst e1;exact ⟨zpb s1 s2 s3 s4 g.same fk rfl g.u1 (ze1 g h2) ⟨rfl,rfl,hc.2,rfl⟩,rfl⟩
   ·cases h
  ·cases h
 ·cases h
theorem znL(g:Gx cl G k X nm N E):∀{es:List Expr} {gs:List Fq},quL G nm N es=some gs->PA X es (tQs cl gs)
 | [],gs,h=>by cases h;exact zrK
 | e::es,gs,h=>by
  unfold quL at h;obtain ⟨q,h1,h⟩:=zab h;obtain ⟨gs',h2,h⟩:=yap.mp h;subst h;obtain ⟨a1,a2⟩:=zrI g h1;exact zo9 a1 (znL g h2) (zbp a2)
def zhG{e:Expr}{f:Fe}(p:PE X e (tE cl E f))(h:∀whole,isTrue e X.env whole=(do let v ← whole;standAt e.pos;holding [v] (truthy v)))(o:okE e=true):PE X e (tE cl E f)/\PT X e (tTr cl E f)/\okE e=true:=⟨p,zba p h,o⟩
def zpA(g:Gx cl G k X nm N E){fe:Expr}{as:List Expr}{ks:List Keyword}{cp:Pos}{f:Fe}(h:zus G nm N fe as ks=some f):PE X (.Call fe as ks cp) (tE cl E f)/\PT X (.Call fe as ks cp) (tTr cl E f)/\okE (.Call fe as ks cp)=true:=by
 unfold zus at h;obtain ⟨⟨x,px⟩,t1,h2⟩:=zab h;obtain ⟨b,t2,h3⟩:=zab h2;clear h h2;have h:=h3;clear h3;obtain ⟨rfl,rfl⟩:=zep t2;rw [zbz t1];dsimp only at h ⊢;split at h
 ·rename_i hc;rw [yaa,yaa] at hc;have em:=yaj hc.1.1;subst em;obtain ⟨a,h1,h⟩:=zab h;split at h
  ·cases h;obtain ⟨e1,s1,s2,s3,s4,fk⟩:=ze4 g h1;subst e1;exact zhG (zo2 (y:="") s1 s2 s3 s4 g.same fk rfl (g.glob hc.1.2).1 (g.gok.blt _ hc.2)) (fun _=>rfl) rfl
  ·cases h
 ·cases h
def zpz(g:Gx cl G k X nm N E){fe:Expr}{as:List Expr}{ks:List Keyword}{cp:Pos}{f:Fe}(h:zur G nm N fe as ks cp=some f):PE X (.Call fe as ks cp) (tE cl E f)/\PT X (.Call fe as ks cp) (tTr cl E f)/\okE (.Call fe as ks cp)=true:=by
 unfold zur at h;obtain ⟨⟨o,m,ap⟩,t1,h2⟩:=zab h;clear h;have h:=h2;clear h2;rw [zd0 t1];dsimp only at h ⊢;split at h
 ·rename_i hc;rw [yaa,yaa] at hc;obtain ⟨rfl,rfl⟩:=zpJ hc.1.1;have em:=yaj hc.1.2;subst em;obtain ⟨a,h1,h⟩:=zab h;split at h
  ·cases h;obtain ⟨e1,s1,s2,s3,s4,fk⟩:=ze4 g h1;subst e1;exact zhG (zo0 s1 s2 s3 s4 g.same fk rfl rfl hc.2) (fun _=>rfl) rfl
  ·cases h
 ·cases h
def zpB(g:Gx cl G k X nm N E){e:Expr}{f:Fe}(h:zut G nm N e=some f):PE X e (tE cl E f)/\PT X e (tTr cl E f)/\okE e=true:=by
 unfold zut at h;split at h
 ·obtain ⟨⟨y,py⟩,t1,h2⟩:=zab h;obtain ⟨⟨c,b⟩,t2,h3⟩:=zab h2;clear h h2;have h:=h3;clear h3;obtain ⟨rfl,rfl⟩:=zsS t2;rw [zbz t1];dsimp only at h ⊢;obtain ⟨a,h1,h⟩:=zab h;split at h
  ·obtain ⟨j,h2,h⟩:=yap.mp h;subst h;obtain ⟨e1,s1,s2,s3,s4,fk⟩:=ze4 g h1;subst e1
   cases c with
   | true=>exact ⟨zue (zrN s1 s2 s3 s4 g.same fk rfl g.u1 (ze1 g h2) rfl),zrJ s1 s2 s3 s4 g.same fk rfl g.u1 (ze1 g h2) rfl,rfl⟩
   | false=>exact ⟨zue (zpa s1 s2 s3 s4 g.same fk rfl g.u1 (ze1 g h2) rfl),zo8 s1 s2 s3 s4 g.same fk rfl g.u1 (ze1 g h2) rfl,rfl⟩
  ·cases h
 ·obtain ⟨⟨y,py⟩,t1,h2⟩:=zab h;clear h;have h:=h2;clear h2;rw [zbz t1];dsimp only at h ⊢;obtain ⟨a,h1,h⟩:=zab h;split at h
  ·obtain ⟨j,h2,h⟩:=yap.mp h;subst h;obtain ⟨e1,s1,s2,s3,s4,fk⟩:=ze4 g h1;subst e1;exact zhG (zue (zrM s1 s2 s3 s4 g.same fk rfl g.u1 (ze1 g h2) fun _ _=>rfl)) (fun _=>rfl) rfl
  ·cases h
 ·split at h
  ·rename_i hr;cases h;exact zpA g hr
  ·exact zpz g h
 ·cases h
end
noncomputable def Base.hold(B:Base)(p:Addr)(o:HO):Base:=⟨fun a=>if a=p then some o else B.Fr a,fun a=>if a=p then some .far else B.fw a⟩
section
variable{cl:Cf}{B:Base}{σ:St}{w:Wd}{ρ:Env}{S:Sto}
theorem Rel.hold(R:Rel cl B σ w ρ S)(hp:w.H p=none):Rel cl (B.hold p o) σ (w.addAs p o .far) ρ S:=by
 have ff:=zbK (w:=w) (p:=p) (o:=o) (r:=.far) hp
 have kp:∀a u,w.H a=some u->(w.addAs p o .far).H a=some u/\(w.addAs p o .far).ow a=w.ow a:=fun a u ha=>by
  have n:a≠p:=zaw ha hp;refine ⟨?_,?_⟩
  ·show upd w.H p o a=_;rw [zag n];exact ha
  ·show (if a=p then _ else if w.ow a=some Root.far then some Root.far else w.ow a)=_;rw [if_neg n];split
   ·rename_i e;exact e.symm
   ·rfl
 refine ⟨⟨fun a u h=>?_,fun a r h=>?_,R.wd.len,fun n ob h=>?_,R.wd.tab.keep ff fun P ps h1 h2=>⟨(kp P _ h1).1,(kp P _ h1).2.trans h2⟩⟩,R.len,fun j b e hj=>?_⟩
 ·by_cases ha:a=p
  ·subst ha;have h':(if a=a then some o else B.Fr a)=some u:=h;rw [if_pos rfl] at h';cases h';exact ⟨zap,by show (if a=a then some Root.far else _)=(if a=a then some Root.far else _);rw [if_pos rfl,if_pos rfl]⟩
  ·have h':(if a=p then some o else B.Fr a)=some u:=h;rw [if_neg ha] at h';have:=kp a u (R.wd.fr a u h').1;refine ⟨this.1,this.2.trans ?_⟩;show _=(if a=p then some Root.far else B.fw a);rw [if_neg ha];exact (R.wd.fr a u h').2
 ·by_cases ha:a=p
  ·have h':(if a=p then some Root.far else if w.ow a=some Root.far then some Root.far else w.ow a)=some r:=h;rw [if_pos ha] at h';cases h';exact .inl rfl
  ·have h':(if a=p then some Root.far else if w.ow a=some Root.far then some Root.far else w.ow a)=some r:=h;rw [if_neg ha] at h';split at h'
   ·cases h';exact .inl rfl
   ·rcases R.wd.own a r h' with z | z
    ·exact .inl z
    ·refine .inr ?_;show (if a=p then some o else B.Fr a)=none;rw [if_neg ha];exact z
 ·obtain ⟨a,e,x⟩:=R.wd.obj n ob h;exact ⟨a,e,x.keep ff fun b u hb _=>kp b u hb⟩
 ·obtain ⟨v,e1,x⟩:=R.slots j b e hj;exact ⟨v,e1,x.keep ff fun a u ha hr=>⟨(kp a u ha).1,(kp a u ha).2.trans hr⟩⟩
def Rel.unhold(R:Rel cl (B.hold p o) σ w ρ S)(hB:B.Fr p=none):Rel cl B σ w ρ S:=by
 refine ⟨⟨fun a u h=>?_,fun a r h=>?_,R.wd.len,R.wd.obj,R.wd.tab⟩,R.len,R.slots⟩
 ·have na:a≠p:=fun z=>by rw [z,hB] at h;cases h
  have h2:=R.wd.fr a u (show (if a=p then some o else B.Fr a)=some u by rw [if_neg na];exact h);exact ⟨h2.1,h2.2.trans (show (if a=p then some Root.far else B.fw a)=_ from if_neg na)⟩
 ·rcases R.wd.own a r h with z | z
  ·exact .inl z
  ·have z':(if a=p then some o else B.Fr a)=none:=z;split at z'
   ·cases z'
   ·exact .inr z'
end
end S2
namespace L2
open PySem PySem.Spec PyProof.Rows
def ze9{X:Cx}:zc8 X (.type "dict") (fun xs H Q=>∃(a:Addr) (kvs:List (Key×V)),xs=[.ref a]/\Rd H a (.dK kvs)/\∀p,H p=none->Q (.ref p) (upd H p (.dK kvs))):=by
 intro pins s σ H xs us Q I r h;obtain ⟨a,kvs,rfl,ha,q⟩:=h;obtain ⟨u,rfl,rx⟩:=zea r;cases rx;exact zni I ha fun p s' hp I'=>⟨.ref p,_,I',rfl,q p hp⟩
end L2
namespace S2
open PySem PySem.Spec PyProof.Rows L2
def zl9(cn f:Str)(i:Nat)(d:D):Fs:=fun ρ S=>match ρ[i]? with
 | some (some (false,.ref n))=>(match S[n]? with
   | some ob=>if decide (ob.cls=cn)&&decide (ob.fs.length<1000) then .nx ρ (S.set n (ob.put f true (.tup [d]))) else .bad
   | none=>.bad)
 | _=>.bad
def zqP(cn f:Str)(i:Nat)(g:Str)(j:Nat):Fs:=fun ρ S=>match dicI cn g ρ S j with | some (_,_,ds)=>zl9 cn f i (.dic ds) ρ S | none=>.bad
def zma(cn f:Str)(i:Nat)(g:Str)(j:Nat):Fs:=fun ρ S=>match zhI cn g ρ S j with | some (_,_,.lst l)=>zl9 cn f i (.lst l) ρ S | _=>.bad
def zjF(k:Str)(f:Fe):Fe:=fun ρ S=>(f ρ S).bind fun d S1=>.ok (.dic [(.str k,d)]) S1
section
variable{X:Cx}{cl:Cf}{E:St->XK}{own:Bool}{pos apos apos2 cp p p2 p3:Pos}{f g cn:Str}{i j:Nat}{x y:Str}
def zkQ{B:Base}{w:Wd}{σ:St}{ρ:Env}{S:Sto}{De:Ends}{pd:Addr}{o0:HO}{d:D}(hk:zeX cl cn f)(kk:X.K=cl.K)(R:Rel cl B σ w ρ S)(hpd:w.H pd=none)(ht:Top cl w o0 d)(q:zh5 cl E own B w De (zl9 cn f i d ρ S)) :
  ∃v,σ[i]?=some (some v)/\∃a C dx fs,v=.ref a/\upd w.H pd o0 a=some (.ins C dx fs)/\Cls X.K C/\zci X.K C f/\fs.length<1000/\De.nx σ (upd (upd w.H pd o0) a (.ins C dx (zdq f (.ref pd) fs))):=by
 unfold zl9 at q;split at q
 ·rename_i n hi;obtain ⟨v,ev,rv⟩:=R.slots i false _ hi
  cases hS:S[n]? with
  | none=>rw [hS] at q;exact q.elim
  | some ob =>
   rw [hS] at q;dsimp only at q;split at q
   ·rename_i hc0;rw [yaa] at hc0;obtain ⟨a,dx,fs,rfl,hmu,how,hH,hF⟩:=zeW R rv hS;rw [kk];refine ⟨_,ev,a,_,dx,fs,rfl,?_,yaj hc0.1 ▸ hk.1,yaj hc0.1 ▸ hk.2,by rw [hF.len];exact yaj hc0.2,?_⟩
    ·rw [zag (zaw hH hpd)];exact hH
    ·obtain ⟨R3,F3⟩:=R.newo (f:=f) hS hmu how hH hF hpd ht;exact q σ _ R3 F3
   ·exact q.elim
 ·exact q.elim
variable{q1:Pos}
def zrm(hN:X.N[i]?=some x)(hv:Vis X.env.scope x)(hd:(x == ("__debug__":Str))=false)(hcd:(x == ("__classdict__":Str))=false)(hN2:X.N[j]?=some y)(hv2:Vis X.env.scope y)(hd2:(y == ("__debug__":Str))=false)(hcd2:(y == ("__classdict__":Str))=false)
  (sm:Same' cl X) (hk:zeX cl cn f) (hk2:zeX cl cn g) (hb:attributeBase (.Name y p2) g X.env (eval (.Name y p2) X.env)=eval (.Name y p2) X.env) (hg:Gl X "dict") (hm:X.mg "dict" = none)
  (hs:swapsWith (.Call (.Name "dict" q1) [.Attribute (.Name y p2) g apos2] [] cp) (some (.Attribute (.Name x p) f apos)) pos.line X.env=pure false) :
  PS X (.Assign [.Attribute (.Name x p) f apos] (.Call (.Name "dict" q1) [.Attribute (.Name y p2) g apos2] [] cp) pos) (tS cl E own (zqP cn f i g j)):=by
 refine PS.imp (zgB (zaP hN hv hd hcd) (zcT ze9 hg hm (by decide +kernel) (zaU (zbQ (zaP hN2 hv2 hd2 hcd2) hb) zbG)) hs) ?_;rintro De σ H ⟨B,w,ρ,S,rfl,R,q⟩;unfold zqP at q
 cases hl:dicI cn g ρ S j with
 | none=>rw [hl] at q;exact q.elim
 | some u =>
  obtain ⟨n,ob,ds⟩:=u;rw [hl] at q;dsimp only at q;obtain ⟨a,dx,fs,c,kvs,ev,hS,hmu,how,hH,hF,c1,c2,lv,oc,hc',t,ho⟩:=zeQ hk2 R hl;rw [sm.kk];refine ⟨_,ev,a,_,dx,fs,_,rfl,hH,c1,c2,lv,c,kvs,rfl,.inl hc',fun pd hpd=>?_⟩;rw [<-sm.kk];exact zkQ hk sm.kk R hpd (.dicK t) q
def zrl(hN:X.N[i]?=some x)(hv:Vis X.env.scope x)(hd:(x == ("__debug__":Str))=false)(hcd:(x == ("__classdict__":Str))=false)(hN2:X.N[j]?=some y)(hv2:Vis X.env.scope y)(hd2:(y == ("__debug__":Str))=false)(hcd2:(y == ("__classdict__":Str))=false)
  (sm:Same' cl X) (hk:zeX cl cn f) (hk2:zeX cl cn g) (hb:attributeBase (.Name y p2) g X.env (eval (.Name y p2) X.env)=eval (.Name y p2) X.env) (hg:Gl X "list") (hm:X.mg "list" = none)
  (hs:swapsWith (.Call (.Name "list" q1) [.Attribute (.Name y p2) g apos2] [] cp) (some (.Attribute (.Name x p) f apos)) pos.line X.env=pure false) :
  PS X (.Assign [.Attribute (.Name x p) f apos] (.Call (.Name "list" q1) [.Attribute (.Name y p2) g apos2] [] cp) pos) (tS cl E own (zma cn f i g j)):=by
 refine PS.imp (zgB (zaP hN hv hd hcd) (zcT zg9 hg hm zhc (zaU (zbQ (zaP hN2 hv2 hd2 hcd2) hb) zbG)) hs) ?_;rintro De σ H ⟨B,w,ρ,S,rfl,R,q⟩;unfold zma at q;split at q
 ·rename_i n ob l hl;obtain ⟨a,dx,fs,c,o,ev,hS,hmu,how,hH,hF,c1,c2,lv,oc,hc',t⟩:=zdu hk2 R hl
  cases t with
  | lst t =>
   refine ⟨_,ev,a,_,dx,fs,_,rfl,hH,by rw [sm.kk];exact c1,by rw [sm.kk];exact c2,lv,c,_,rfl,.inl (SqL.of hc'),fun pd hpd=>?_⟩;exact zkQ hk sm.kk R hpd (.lst t) q
 ·exact q.elim
def zo4{k:Str}{kk:Nat}{e:Expr}{fe:Fe}(he:PE X e (tE cl E fe)):PE X (.Dict [some (.Constant (.str k) kk p2)] [e] pos) (tN cl E (zjF k fe)):=by
 refine PE.imp (zpu (zmq zkI he zpm) rfl rfl (by simp) (by show 1<=15;decide)) ?_;rintro σ H Q ⟨B,w,ρ,S,rfl,R,q⟩;intro pd hpd;have Rh:=R.hold (o:=.dK []) hpd;have fa:=zbK (w:=w) (p:=pd) (o:=.dK []) (r:=.far) hpd
 have hB:B.Fr pd=none:=by
  cases z:B.Fr pd with
  | none=>rfl
  | some x=>have:=(R.wd.fr pd x z).1;rw [hpd] at this;cases this
 unfold zjF at q;refine ⟨B.hold pd (.dK []),w.addAs pd (.dK []) .far,ρ,S,rfl,Rh,?_⟩
 cases hf:fe ρ S with
 | bad=>rwa [hf] at q
 | exc c S1=>rw [hf] at q;exact fun w' R' F'=>q w' (R'.unhold hB) (fa.trans F')
 | ok d S1 =>
  rw [hf] at q;dsimp only [Out.bind] at q;intro v w2 R2 F2 sh2;have hpp:=R2.wd.fr pd (.dK []) (show (if pd=pd then some (HO.dK []) else B.Fr pd)=some (.dK []) from if_pos rfl);have how:w2.ow pd=some .far:=hpp.2.trans (show (B.hold pd (.dK [])).fw pd=some Root.far from if_pos rfl)
  have hfar:w2.ow pd≠none:=by rw [how];exact yaD _
  have fd:=zfX (w:=w2) (a:=pd) hfar;refine ⟨hpp.1,[(.inr k,v)],rfl,(by show 1<=15;decide),?_⟩
  have eu:upd w2.H pd (.dK (zfg [] [((.inr k:Key),v)]))=upd (w2.del pd).H pd (.dK [(.inr k,v)]):=by
   funext b;unfold upd
   by_cases hb':b=pd
   ·rw [if_pos hb',if_pos hb'];rfl
   ·rw [if_neg hb',if_neg hb'];show _=(if b=pd then none else w2.H b);rw [if_neg hb']
  rw [eu];exact q pd _ (w2.del pd) ((R2.unhold hB).del how hB) (fa.trans (F2.trans fd)) (if_pos rfl) (.dicK (.consS (sh2.up fd) .nil))
end
noncomputable def mt0:Expr->Nat | .List [] _=>1 | .Dict [] [] _=>2 | _=>0
def zsy{e:Expr}(h:mt0 e=1):∃p,e=.List [] p:=by
 cases e with
 | List l p=>cases l with
  | nil=>exact ⟨p,rfl⟩
  | cons a l=>cases h
 | Dict a b p=>cases a<;>cases b<;>cases h
 | _=>cases h
def zsx{e:Expr}(h:mt0 e=2):∃p,e=.Dict [] [] p:=by
 cases e with
 | List l p=>cases l<;>cases h
 | Dict a b p=>cases a<;>cases b<;>first | exact ⟨p,rfl⟩ | cases h
 | _=>cases h
noncomputable def zvH:Expr->Option (List Expr×Nat×Pos) | .Tuple es k p=>some (es,k,p) | _=>none
def zos{e:Expr}{x:List Expr×Nat×Pos}(h:zvH e=some x):e=.Tuple x.1 x.2.1 x.2.2:=by cases e<;>first | (cases h;done) | (cases h;rfl)
noncomputable def noV:Expr->Bool | .Constant c _ _=>(match c with | .none=>true | _=>false) | _=>false
def zsp{e:Expr}(h:noV e=true):∃k p,e=.Constant .none k p:=by
 cases e with
 | Constant c k p=>cases c<;>first | exact ⟨k,p,rfl⟩ | cases h
 | _=>cases h
noncomputable def zul:List Expr->List Keyword->Option (Expr×Expr) | [a,b],[]=>some (a,b) | _,_=>none
def zpn{as:List Expr}{ks:List Keyword}{x:Expr×Expr}(h:zul as ks=some x):as=[x.1,x.2]/\ks=[]:=by
 unfold zul at h;split at h
 ·cases h;exact ⟨rfl,rfl⟩
 ·cases h
noncomputable def zti:Expr->Option (Expr×List Expr×List Keyword×Pos) | .Call f as ks p=>some (f,as,ks,p) | _=>none
def znn{e:Expr}{x:Expr×List Expr×List Keyword×Pos}(h:zti e=some x):e=.Call x.1 x.2.1 x.2.2.1 x.2.2.2:=by cases e<;>first | (cases h;done) | (cases h;rfl)
def cpA(G:Genv)(nm:Names)(N:List Str)(t:FA)(e:Expr):Option Fs:=(zti e).bind fun c=>(nmF c.1).bind fun x=>(zpF c.2.1 c.2.2.1).bind fun b=>if zbJ nm x.1&&G.blt x.1 then (faG G nm N b).bind fun u=>if decide (x.1 = "dict")&&zne t.f&&zne u.f then some (zqP G.ob.cur t.f t.i u.f u.i) else if decide (x.1 = "list")&&zqR t.f&&zqR u.f then some (zma G.ob.cur t.f t.i u.f u.i) else none else none
def zuu(G:Genv)(nm:Names)(N:List Str)(tg e:Expr):Option Fs:=match tg with
 | .Attribute o f p=>(faG G nm N (.Attribute o f p)).bind fun t=>if decide (mt0 e=1)&&zqR t.f then some (ze0 G.ob.cur t.f t.i) else if decide (mt0 e=2)&&zne t.f then some (zkj G.ob.cur t.f t.i) else cpA G nm N t e
 | .Subscript b i _=>(nmF i).bind fun y=>(nmF e).bind fun z=>(faG G nm N b).bind fun t=>if zne t.f then (zbP nm N y.1).bind fun j=>(zbP nm N z.1).map fun l=>zji G.ob.cur t.f t.i (zbw j) (zbw l) else none
 | _=>none
def zwB(G:Genv)(nm:Names)(N:List Str)(t:FA)(a:Expr):Option Fs:=match zvH a with
 | some x=>(quL G nm N x.1).map fun gs=>zjl G.ob.cur t.f t.i gs
 | none=>(quG G nm N a).map fun g=>zfG G.ob.cur t.f t.i g
def zuq(G:Genv)(nm:Names)(N:List Str)(e:Expr):Option Fs:=match e with
 | .Call f as ks cp=>(zoh f).bind fun u=>(faG G nm N u.1).bind fun t=>if u.2.2.endLine == cp.line then (if decide (u.2.1 = "append")&&zqR t.f then (zpF as ks).bind fun a=>zwB G nm N t a else if decide (u.2.1 = "pop")&&zne t.f then (zul as ks).bind fun x=>(nmF x.1).bind fun y=>if noV x.2 then (zbP nm N y.1).map fun j=>zjj G.ob.cur t.f t.i (zbw j) else none else none) else none
 | _=>none
section
variable{cl:Cf}{G:Genv}{k:Nat}{X:Cx}{nm:Names}{N:List Str}{E:St->XK}{own:Bool}
def zpC(g:Gx cl G k X nm N E){tg e:Expr}{f:Fs}{pos:Pos}(h:zuu G nm N tg e=some f):PS X (.Assign [tg] e pos) (tS cl E own f):=by
 unfold zuu at h;split at h
 ·obtain ⟨a,h1,h2⟩:=zab h;clear h;obtain ⟨e1,s1,s2,s3,s4,fk⟩:=ze4 g h1;rw [e1];split at h2
  ·rename_i hc;rw [yaa] at hc;obtain ⟨p,rfl⟩:=zsy (yaj hc.1);cases h2;exact zoO s1 s2 s3 s4 g.same fk rfl
  ·split at h2
   ·rename_i hc;rw [yaa] at hc;obtain ⟨p,rfl⟩:=zsx (yaj hc.1);cases h2;exact zoP s1 s2 s3 s4 g.same fk rfl
   ·unfold cpA at h2;obtain ⟨⟨fe,as,ks,cp⟩,t1,h3⟩:=zab h2;obtain ⟨⟨x,px⟩,t2,h4⟩:=zab h3;obtain ⟨b,t3,h5⟩:=zab h4;clear h2 h3 h4;dsimp only at t2 t3 h5;obtain ⟨rfl,rfl⟩:=zep t3;rw [znn t1,zbz t2];dsimp only;split at h5
    ·rename_i hx;rw [yaa] at hx;obtain ⟨u,h6,hz⟩:=zab h5;obtain ⟨e2,q1,q2,q3,q4,fk2⟩:=ze4 g h6;rw [e2];split at hz
     ·rename_i hd;rw [yaa,yaa] at hd;have em:=yaj hd.1.1;subst em;cases hz;exact zrm s1 s2 s3 s4 q1 q2 q3 q4 g.same fk fk2 rfl (g.glob hx.1).1 (g.gok.blt _ hx.2) rfl
     ·split at hz
      ·rename_i hd;rw [yaa,yaa] at hd;have em:=yaj hd.1.1;subst em;cases hz;exact zrl s1 s2 s3 s4 q1 q2 q3 q4 g.same fk fk2 rfl (g.glob hx.1).1 (g.gok.blt _ hx.2) rfl
      ·cases hz
    ·cases h5
 ·obtain ⟨⟨y,py⟩,t1,h2⟩:=zab h;obtain ⟨⟨z,pz⟩,t2,h3⟩:=zab h2;obtain ⟨a,h1,h4⟩:=zab h3;clear h h2 h3;rw [zbz t1,zbz t2];split at h4
  ·obtain ⟨j,h2,h5⟩:=zab h4;obtain ⟨l,h3,h6⟩:=yap.mp h5;subst h6;obtain ⟨e1,s1,s2,s3,s4,fk⟩:=ze4 g h1;rw [e1];exact zoK s1 s2 s3 s4 g.same fk rfl g.u1 (ze1 g h2) (ze1 g h3) rfl
  ·cases h4
 ·cases h
def zpy(g:Gx cl G k X nm N E){e:Expr}{f:Fs}{pos:Pos}(h:zuq G nm N e=some f):PS X (.Expr e pos) (tS cl E own f):=by
 unfold zuq at h;split at h
 ·obtain ⟨⟨o,m,ap⟩,t1,h2⟩:=zab h;obtain ⟨a,h1,h3⟩:=zab h2;clear h h2;rw [zd0 t1];obtain ⟨e1,s1,s2,s3,s4,fk⟩:=ze4 g h1;dsimp only at h3 e1 ⊢;subst e1;split at h3
  ·rename_i hl;split at h3
   ·rename_i hc;rw [yaa] at hc;have em:=yaj hc.1;subst em;obtain ⟨b,t2,h4⟩:=zab h3;obtain ⟨rfl,rfl⟩:=zep t2;unfold zwB at h4;split at h4
    ·rename_i x hx;obtain ⟨gs,h5,rfl⟩:=yap.mp h4;rw [zos hx];exact zoQ s1 s2 s3 s4 g.same fk rfl (znL g h5) rfl hl
    ·obtain ⟨q,h5,rfl⟩:=yap.mp h4;obtain ⟨b1,b2⟩:=zrI g h5;exact zoR s1 s2 s3 s4 g.same fk rfl b1 rfl b2 hl
   ·split at h3
    ·rename_i hc;rw [yaa] at hc;have em:=yaj hc.1;subst em;obtain ⟨⟨x1,x2⟩,t2,h4⟩:=zab h3;obtain ⟨⟨y,py⟩,t3,h5⟩:=zab h4;obtain ⟨rfl,rfl⟩:=zpn t2;dsimp only at h5 t3 ⊢;split at h5
     ·rename_i hn;obtain ⟨kk,pp,hx2⟩:=zsp hn;obtain ⟨j,h6,rfl⟩:=yap.mp h5;rw [zbz t3,hx2];exact zoL s1 s2 s3 s4 g.same fk rfl (ze1 g h6) ⟨rfl,rfl,hl,rfl⟩
     ·cases h5
    ·cases h3
  ·cases h3
 ·cases h
end
end S2
namespace L2
open PySem PySem.Spec PyProof.Rows
end L2
namespace S2
open PySem PySem.Spec PyProof.Rows L2
def zjE(cn f:Str)(i:Nat):Fe:=fun ρ S=>match dicI cn f ρ S i with
 | some (_,_,ds)=>if ds.length<64 then .ok (.lst ((zdr (zbI ds)).map D.str)) S else .bad
 | none=>.bad
section
variable{X:Cx}{cl:Cf}{E:St->XK}{pos apos cp p:Pos}{f cn:Str}{i:Nat}{x:Str}
theorem zoZ{q1:Pos}(hN:X.N[i]?=some x)(hv:Vis X.env.scope x)(hd:(x == ("__debug__":Str))=false)(hcd:(x == ("__classdict__":Str))=false)(hc:X.calm=true)(sm:Same' cl X)(hk:zeX cl cn f)(hb:attributeBase (.Name x p) f X.env (eval (.Name x p) X.env)=eval (.Name x p) X.env)(hg:Gl X "sorted")(hm:X.mg "sorted" = none) :
  PE X (.Call (.Name "sorted" q1) [.Attribute (.Name x p) f apos] [] cp) (tN cl E (zjE cn f i)):=by
 refine PE.imp (zde (ze7 hc) hg hm (by decide +kernel) (zaU (zbQ (zaP hN hv hd hcd) hb) zbG)) ?_;rintro σ H Q ⟨B,w,ρ,S,rfl,R,q⟩;unfold zjE at q
 cases hl:dicI cn f ρ S i with
 | none=>rw [hl] at q;exact q.elim
 | some u =>
  obtain ⟨n,ob,ds⟩:=u;rw [hl] at q;dsimp only at q
  by_cases hz:ds.length<64
  ·rw [if_pos hz] at q;obtain ⟨a,dx,fs,c,kvs,ev,hS,hmu,how,hH,hF,c1,c2,lv,oc,hc',t,ho⟩:=zeQ hk R hl;obtain ⟨k1,k2⟩:=zfR t ho;rw [sm.kk];exact ⟨_,ev,a,_,dx,fs,_,rfl,hH,c1,c2,lv,c,kvs,zbI ds,rfl,.inl hc',k1,by rw [k2];exact hz,fun pn hpn=>q pn _ w R (Fut.refl _) hpn (.lst zgr)⟩
  ·rw [if_neg hz] at q;exact q.elim
end
def zt9(G:Genv)(nm:Names)(N:List Str)(e:Expr):Option Fe:=match e with
 | .Call (.Name x _) [b] [] _=>if decide (x = "sorted")&&zbJ nm x&&G.blt x then (faG G nm N b).bind fun t=>if zne t.f then some (zjE G.ob.cur t.f t.i) else none else none
 | _=>none
def zoS{cl:Cf}{G:Genv}{k:Nat}{X:Cx}{nm:Names}{N:List Str}{E:St->XK}(g:Gx cl G k X nm N E){e:Expr}{f:Fe}(h:zt9 G nm N e=some f):PE X e (tN cl E f)/\PT X e (tTr cl E f)/\okE e=true:=by
 unfold zt9 at h;split at h
 ·split at h
  ·rename_i hc;rw [yaa,yaa] at hc;have em:=yaj hc.1.1;subst em;obtain ⟨a,h1,h⟩:=zab h;split at h
   ·cases h;obtain ⟨e1,s1,s2,s3,s4,fk⟩:=ze4 g h1;subst e1;have go:∀{e:Expr} {f:Fe},PE X e (tN cl E f)->(∀whole,isTrue e X.env whole=(do let v ← whole;standAt e.pos;holding [v] (truthy v)))->okE e=true->PE X e (tN cl E f)/\PT X e (tTr cl E f)/\okE e=true:=fun p h o=>⟨p,zba (zbC p) h,o⟩
    exact go (zoZ s1 s2 s3 s4 g.calm g.same fk rfl (g.glob hc.1.2).1 (g.gok.blt _ hc.2)) (fun _=>rfl) rfl
   ·cases h
  ·cases h
 ·cases h
noncomputable def zsv:Expr->Option Str | .Name x _=>some x | _=>none
noncomputable def zuS(df:Bool):Option NameKind->Bool | some .local=>true | some .cell=>df | _=>false
def tgI(df:Bool)(nm:Names)(N:List Str)(n:Nat)(x:Str):Option Nat:=if zuS df (nm.lookup x) then (idx N x).bind fun i=>if i<n then some i else none else none
def zqM(df:Bool)(nm:Names)(N:List Str)(n:Nat):List Expr->Option (List Nat)
 | []=>some []
 | .Name x _::es=>(tgI df nm N n x).bind fun i=>(zqM df nm N n es).bind fun is=>some (i::is)
 | _::_=>none
def tgG(df:Bool)(nm:Names)(N:List Str)(n:Nat):Expr->Option Tg
 | .Name x _=>(tgI df nm N n x).map .one
 | .Tuple es _ _=>(zqM df nm N n es).map .tup
 | _=>none
structure Sto'(X:Cx)(nm:Names)(df:Bool):Prop where
 fn:df=true->∀x,nm.lookup x=some .cell->X.fn x=true
section
variable{cl:Cf}{G:Genv}{k:Nat}{X:Cx}{nm:Names}{N:List Str}{E:St->XK}{df:Bool}{n:Nat}
def zfb(g:Gx cl G k X nm N E)(sd:Sto' X nm df)(h:tgI df nm N n x=some i):i<n/\X.N.Nodup/\X.N[i]?=some x/\Loc X.env.scope x/\(X.fn x=true\/X.env.scope.names.lookup x=some .local):=by
 unfold tgI at h;split at h
 ·rename_i hl
  cases hi:idx N x with
  | none=>rw [hi] at h;cases h
  | some j =>
   rw [hi] at h;dsimp only [Option.bind] at h;split at h
   ·rename_i hn;cases h;refine ⟨hn,by rw [g.eN];exact g.nd,by rw [g.eN];exact zeC hi,?_,?_⟩
    ·cases hk:nm.lookup x with
     | none=>rw [hk] at hl;cases hl
     | some kd =>
      obtain ⟨kd',e,z⟩:=g.vis x kd hk;rw [hk] at hl;unfold L2.Loc;rw [e]
      rcases z with rfl | ⟨rfl,_⟩
      ·cases kd'<;>first | exact .inl rfl | exact .inr rfl | cases hl
      ·cases hl
    ·cases hk:nm.lookup x with
     | none=>rw [hk] at hl;cases hl
     | some kd =>
      rw [hk] at hl
      cases kd<;>first | exact .inr (g.fnx x hk) | exact .inl (sd.fn hl x hk) | cases hl
   ·cases h
 ·cases h
theorem zjZ(g:Gx cl G k X nm N E)(sd:Sto' X nm df):∀{es:List Expr} {is:List Nat},zqM df nm N n es=some is->PGs X es (tGs cl n is)/\(assignEach es X.env).length=is.length/\(assignEach es X.env).findIdx? (·.1)=none
 | [],is,h=>by cases h;exact ⟨zoW,rfl,rfl⟩
 | e::es,is,h=>by
  cases e with
  | Name x pos =>
   unfold zqM at h
   cases h1:tgI df nm N n x with
   | none=>rw [h1] at h;cases h
   | some i =>
    rw [h1] at h
    cases h2:zqM df nm N n es with
    | none=>rw [h2] at h;cases h
    | some is' =>
     rw [h2] at h;cases h;obtain ⟨a1,a2,a3,a4,a5⟩:=zfb g sd h1;obtain ⟨b1,b2,b3⟩:=zjZ g sd h2;refine ⟨zl5 a1 a2 a3 a4 a5 b1,?_,?_⟩
     ·show (assignEach es X.env).length+1=_;rw [b2];rfl
     ·show ((false,assign (.Name x pos) X.env)::assignEach es X.env).findIdx? (·.1)=none;rw [List.findIdx?_cons];simp [b3]
  | _=>cases h
def zox(g:Gx cl G k X nm N E)(sd:Sto' X nm df)(h:tgG df nm N n tg=some t):PG X tg (tG cl n t):=by
 unfold tgG at h;split at h
 ·rename_i x pos
  cases h1:tgI df nm N n x with
  | none=>rw [h1] at h;cases h
  | some i =>
   rw [h1] at h;cases h;obtain ⟨a1,a2,a3,a4,a5⟩:=zfb g sd h1;exact zrv a1 a2 a3 a4 a5
 ·rename_i es kk pos
  cases h1:zqM df nm N n es with
  | none=>rw [h1] at h;cases h
  | some is =>
   rw [h1] at h;cases h;obtain ⟨b1,b2,b3⟩:=zjZ g sd h1;exact zru g.calm b1 b2 b3
 ·cases h
end
def zbc:Expr->List Str
 | .Name x _=>[x]
 | .Tuple es _ _=>es.filterMap zsv
 | _=>[]
def zbb(names:Names)(N:List Str):List (Str×Nat):=names.filterMap fun p=>if p.2=.free then (idx N p.1).map fun i=>(p.1,i) else none
noncomputable def zxJ:Option NameKind->Bool | some .cell=>true | some .free=>true | _=>false
def zlD(nm:Names)(scope:Scope)(xs:List Str)(caps:List (Str×Nat)):Bool :=
 decide (scope.kind=.function)&&decide ((scope.names.map (·.1)).Nodup)&&scope.names.all (fun y=>!decide (y.2=.local)||decide (scope.names.lookup y.1=some .local))
 && scope.names.all (fun y=>!decide (y.2=.free)||zxJ (nm.lookup y.1))&&caps.all (fun p=>scope.names.all fun z=>!decide (z.1=p.1)||decide (z.2=.free))&&decide ((xs++caps.map (·.1)).Nodup)
def znj(rc:Rec)(nm:Names)(N:List Str):List Expr->Option Fe
 | []=>some zeY
 | [c]=>if zbR c then shE rc nm N c else none
 | _=>none
def zjH(G:Genv)(rc:Rec)(nm:Names)(N:List Str)(elt:Expr)(g:Comprehension)(scope:Scope):Option Fe :=
 if decide (g.is_async=0)&&zlD nm scope (zbc g.target) (zbb scope.names N) then
  (zjx G rc nm N g.target g.iter).bind fun it =>
  (tgG true scope.names (zbc g.target++(zbb scope.names N).map (·.1)) (zbc g.target).length g.target).bind fun t =>
  (znj rc scope.names (zbc g.target++(zbb scope.names N).map (·.1)) g.ifs).bind fun c =>
  (shE rc scope.names (zbc g.target++(zbb scope.names N).map (·.1)) elt).bind fun el =>
  some (zc4 (zbc g.target).length t it c el ((zbb scope.names N).map (·.2)))
 else none
theorem zdt{scope:Scope}{env:PySem.Env}:∀{names:Names} {x:Str} {kd:NameKind},names.lookup x=some kd →
  ∃kd',(names.map fun (n,k)=>if (k == NameKind.free&&env.scope.kind == .function&&env.kindOf n == some .cell) then (n,NameKind.cell) else (n,k)).lookup x=some kd'/\(kd'=kd\/(kd=.free/\kd'=.cell))
 | [],_,_,h=>by cases h
 | (n,k0)::r,x,kd,h=>by
  rw [yaB] at h;rw [yaz];dsimp only
  by_cases hc:(k0 == NameKind.free&&env.scope.kind == .function&&env.kindOf n == some .cell)=true
  ·rw [if_pos hc,yaB]
   cases hx:x == n with
   | true =>
    rw [hx] at h;cases h;simp only [yaa,ybP] at hc;exact ⟨_,rfl,.inr ⟨hc.1.1,rfl⟩⟩
   | false=>rw [hx] at h;exact zdt (scope:=scope) h
  ·rw [if_neg hc,yaB]
   cases hx:x == n with
   | true=>rw [hx] at h;cases h;exact ⟨_,rfl,.inl rfl⟩
   | false=>rw [hx] at h;exact zdt (scope:=scope) h
section
variable{cl:Cf}{G:Genv}{k:Nat}{rc:Rec}{X:Cx}{nm:Names}{N:List Str}{E:St->XK}
def zjG(g:Gx cl G k X nm N E)(h:zlD nm scope xs (zbb scope.names N)=true):CompScopeG X.env.scope scope X.N xs (zbb scope.names N)/\(xs++(zbb scope.names N).map (·.1)).Nodup:=by
 unfold zlD at h;simp only [yaa,yby,ya5,ycB,ybc,ycc] at h;obtain ⟨⟨⟨⟨⟨h1,h2⟩,h3⟩,h4⟩,h5⟩,h6⟩:=h
 have fr:∀y∈scope.names,y.2=.free->X.env.scope.names.lookup y.1=some .cell\/X.env.scope.names.lookup y.1=some .free:=fun y hy hf=>by
  rcases h4 y hy with z | z
  ·exact absurd hf z
  ·cases hk:nm.lookup y.1 with
   | none=>rw [hk] at z;cases z
   | some kd =>
    obtain ⟨kd',e,zz⟩:=g.vis y.1 kd hk;rw [hk] at z;rw [e]
    rcases zz with rfl | ⟨_,rfl⟩
    ·cases kd'<;>first | exact .inl rfl | exact .inr rfl | cases z
    ·exact .inl rfl
 refine ⟨⟨h2,h1,fun y hy hl=>(h3 y hy).elim (fun z=>absurd hl z) fun z=>z,fr,fun p hp=>?_,fun p hp z hz e=>(h5 p hp z hz).elim (fun w=>absurd e w) fun w=>w⟩,h6⟩;unfold zbb at hp;obtain ⟨q,hq,e⟩:=ybi.mp hp;split at e
 ·rename_i hf
  cases hi:idx N q.1 with
  | none=>rw [hi] at e;cases e
  | some i =>
   rw [hi] at e;have e':(q.1,i)=p:=Option.some.inj e;subst e';refine ⟨by rw [g.eN];exact zeC hi,by rw [<-hf];exact hq,?_⟩
   rcases fr q hq hf with z | z<;>rw [z]<;>exact fun w=>by cases w
 ·cases e
def zfV(g:Gx cl G k X nm N E)(hn:(xs++(zbb scope.names N).map (·.1)).Nodup)(cl':List (Str×Addr))(C:Addr)(s:Shared)(H:Hp)(fp:List Addr) :
  Gx cl G k (zbd X xs (zbb scope.names N) scope cl' C s H fp) scope.names (xs++(zbb scope.names N).map (·.1)) noE where
 gok:=g.gok
 room:=g.room
 calm:=g.calm
 pass:=fun pins σ H s e s' I q=>by
  obtain ⟨a,cls,a0,H',B,_,_,_,_,_,_,_,_,_,z⟩:=q;exact z.elim
 eN:=rfl
 kk:=g.kk
 pp:=g.pp
 ww:=g.ww
 nd:=hn
 vis:=fun x kd h=>zdt (scope:=scope) h
 fnx:=fun x h=>lookup_relabel_local h
 cod:=fun c h=>g.cod c h
 fnc:=fun x h=>yaE h
def zqp(hs:zbr cl G k rc)(g:Gx cl G k X nm N noE)(h:znj rc nm N ifs=some c):PIf X ifs (tTr cl noE c):=by
 unfold znj at h;split at h
 ·cases h;intro pins s σ H Q I q;obtain ⟨B,w,ρ,S,rfl,R,q⟩:=q;exact zpq pins s σ w.H Q I (q w R (Fut.refl _))
 ·split at h
  ·rename_i c ht;obtain ⟨_,a2,_⟩:=zbq hs g h;exact zpp (a2 ht)
  ·cases h
 ·cases h
def zfr(hs:zbr cl G k rc)(g:Gx cl G k X nm N E)(h:zjH G rc nm N elt gg scope=some f) :
  ∃it t c el,f=zc4 (zbc gg.target).length t it c el ((zbb scope.names N).map (·.2))/\gg=⟨gg.target,gg.iter,gg.ifs,0⟩/\CompScopeG X.env.scope scope X.N (zbc gg.target) (zbb scope.names N)/\PI X gg.target gg.iter (tI cl E it)/\okE gg.iter=true ∧
   (∀cl' C s H fp,PG (zbd X (zbc gg.target) (zbb scope.names N) scope cl' C s H fp) gg.target (tG cl (zbc gg.target).length t)) ∧
   (∀cl' C s H fp,PIf (zbd X (zbc gg.target) (zbb scope.names N) scope cl' C s H fp) gg.ifs (tTr cl noE c)) ∧
   ∀cl' C s H fp,PE (zbd X (zbc gg.target) (zbb scope.names N) scope cl' C s H fp) elt (tE cl noE el):=by
 unfold zjH at h;split at h
 ·rename_i hc;rw [yaa] at hc;obtain ⟨S,hn⟩:=zjG g hc.2
  cases h1:zjx G rc nm N gg.target gg.iter with
  | none=>rw [h1] at h;cases h
  | some it =>
   rw [h1] at h;dsimp only [Option.bind] at h
   cases h2:tgG true scope.names (zbc gg.target++(zbb scope.names N).map (·.1)) (zbc gg.target).length gg.target with
   | none=>rw [h2] at h;cases h
   | some t =>
    rw [h2] at h;dsimp only at h
    cases h3:znj rc scope.names (zbc gg.target++(zbb scope.names N).map (·.1)) gg.ifs with
    | none=>rw [h3] at h;cases h
    | some c =>
     rw [h3] at h;dsimp only at h
     cases h4:shE rc scope.names (zbc gg.target++(zbb scope.names N).map (·.1)) elt with
     | none=>rw [h4] at h;cases h
     | some el =>
      rw [h4] at h;cases h;obtain ⟨i1,i2⟩:=zk6 hs g (tg:=gg.target) h1;refine ⟨it,t,c,el,rfl,?_,S,i1,i2,fun cl' C s H fp=>zox (zfV g hn cl' C s H fp) ⟨fun _ x hx=>yaE hx⟩ h2,fun cl' C s H fp=>zqp hs (zfV g hn cl' C s H fp) h3,fun cl' C s H fp=>(zbq hs (zfV g hn cl' C s H fp) h4).1⟩;have:=yaj hc.1;cases gg;simp only at this;rw [this]
 ·cases h
def zlB(hs:zbr cl G k rc)(g:Gx cl G k X nm N E)(h:zjH G rc nm N elt gg scope=some f):PE X (.ListComp elt [gg] scope pos) (tN cl E f):=by
 obtain ⟨it,t,c,el,rfl,eg,S,i1,i2,i3,i4,i5⟩:=zfr hs g h;rw [eg];exact PE.imp (zmA g.calm S i1 i3 i4 i5 (zfL i2)) fun _ _ _ q=>zoe q
end
noncomputable def zws:Expr->Bool | .Slice _ _ _ _=>false | _=>true
def zlA:∀(l:List D) (d r:D),zfq l d=some r->∃n,r=.int n:=by
 intro l d r h;unfold zfq at h;split at h
 ·cases h;exact ⟨_,rfl⟩
 ·cases h
def zlc:∀(l:List D) (d r:D),zfl l d=some r->∃n,r=.int n:=by
 intro l d r h;unfold zfl at h;split at h
 ·cases h;exact ⟨_,rfl⟩
 ·cases h
def unG(rc:Rec)(nm:Names)(N:List Str)(a:Expr):UnaryOp->Option (Bool×Fe)
 | .Not=>if zbR a then (shE rc nm N a).map fun f=>(false,eUn zcV f) else none
 | .USub=>(opE rc nm N a).map fun f=>(false,eUn zmK f)
 | _=>none
def ztb(rc:Rec)(nm:Names)(N:List Str)(a:Expr):List CmpOp->List Expr->Option (Bool×Fe)
 | [op],[b]=>(ztc op b).bind fun g=>(opE rc nm N a).bind fun f=>(opE rc nm N b).bind fun h=>some (false,zaj g f h)
 | [op,op'],[b,c]=>(ztc op b).bind fun g=>(ztc op' c).bind fun g'=>(opE rc nm N a).bind fun f=>(opE rc nm N b).bind fun h=>(opE rc nm N c).bind fun k=>some (false,zc5 g g' f h k)
 | _,_=>none
def zvM(rc:Rec)(nm:Names)(N:List Str)(a:Expr):Expr->Option (Bool×Fe)
 | .Slice none none (some st) _=>(opE rc nm N a).bind fun f=>(opE rc nm N st).bind fun h=>some (false,zaj zkx f h)
 | i=>if zws i then (opE rc nm N a).bind fun f=>(opE rc nm N i).bind fun h=>some (false,zaj ixD f h) else none
def zof(G:Genv)(rc:Rec)(nm:Names)(N:List Str)(args:List Expr)(kws:List Keyword)(cp:Pos):Expr->Option (Bool×Fe)
 | .Attribute o m ap=>zpN G rc nm N o m ap cp args kws
 | .Name x _=>if kws.isEmpty then (match mkG G rc nm N x args with | some p=>some p | none=>(match spG G rc nm N x args with | some p=>some p | none=>zqv G rc nm N x args)) else none
 | _=>none
def lcG(G:Genv)(rc:Rec)(nm:Names)(N:List Str)(elt:Expr)(scope:Scope):List Comprehension->Option (Bool×Fe)
 | [g]=>(zjH G rc nm N elt g scope).map fun f=>(true,f)
 | _=>none
def znm(nm:Names)(N:List Str):List Str->Option (List Nat)
 | []=>some []
 | x::xs=>if nm.lookup x=some .cell then (idx N x).bind fun i=>(znm nm N xs).map (i::·) else none
def zq3(G:Genv)(nm:Names)(N:List Str)(args:List Expr)(kws:List Keyword)(f:Expr):Option (Bool×Fe):=(nmF f).bind fun x=>(zpF args kws).bind fun e=>if decide (x.1 = "_law_told")&&zbJ nm x.1 then (G.lam e).bind fun r=>(znm nm N r.1).map fun cs=>(false,zdA G.und G.isx cs r.2) else none
def zaO(G:Genv)(rc:Rec):Rec:=fun nm N e=>match e with
 | .Constant c _ _=>(zwA c).map fun d=>(false,zah d)
 | .Name x _=>(match zbP nm N x with
  | some i=>some (false,zan i)
  | none=>if zbJ nm x then (G.con x).map fun d=>(false,zah d) else none)
 | .Tuple es _ _=>(shL rc nm N es).map fun fs=>(false,zdk fs)
 | .List es _=>(shL rc nm N es).map fun fs=>(true,zgZ fs)
 | .BinOp a op b _=>if zp8 a&&zsR op then (opE rc nm N a).bind fun f=>(opE rc nm N b).bind fun h=>some (true,zaj zhJ f h) else (zu7 op).bind fun g=>(opE rc nm N a).bind fun f=>(opE rc nm N b).bind fun h=>some (false,zaj g f h)
 | .UnaryOp op a _=>unG rc nm N a op
 | .BoolOp op es _=>(zjL rc nm N op es).map fun f=>(false,f)
 | .Compare a ops bs _=>ztb rc nm N a ops bs
 | .IfExp c a b _=>if zbR c then (shE rc nm N c).bind fun g=>(shE rc nm N a).bind fun f=>(shE rc nm N b).bind fun h=>some (false,eIf g f h) else none
 | .Subscript a i _=>zvM rc nm N a i
 | .Attribute o f _=>zuX G rc nm N o f
 | .Call f args kws cp=>(match zq3 G nm N args kws f with | some p=>some p | none=>zof G rc nm N args kws cp f)
 | .ListComp elt gs scope _=>lcG G rc nm N elt scope gs
 | .Dict [] [] _=>some (true,zlq)
 | _=>none
noncomputable def zww:Expr->Option (List (Option Expr)×List Expr×Pos) | .Dict ks vs p=>some (ks,vs,p) | _=>none
def zqo{e:Expr}{x:List (Option Expr)×List Expr×Pos}(h:zww e=some x):e=.Dict x.1 x.2.1 x.2.2:=by cases e<;>first | (cases h;done) | (cases h;rfl)
noncomputable def zwz:Expr->Option (Const×Nat×Pos) | .Constant c k p=>some (c,k,p) | _=>none
def zqq{e:Expr}{x:Const×Nat×Pos}(h:zwz e=some x):e=.Constant x.1 x.2.1 x.2.2:=by cases e<;>first | (cases h;done) | (cases h;rfl)
noncomputable def zvO:Const->Option Str | .str x=>some x | _=>none
def zoH{c:Const}{x:Str}(h:zvO c=some x):c=.str x:=by cases c<;>first | (cases h;done) | (cases h;rfl)
def zxV(rc:Rec)(nm:Names)(N:List Str)(e:Expr):Option Fe:=(zww e).bind fun d=>(znY d.1).bind fun ko=>ko.bind fun ke=>(zwz ke).bind fun c=>(zvO c.1).bind fun x=>(znY d.2.1).bind fun v=>(shE rc nm N v).map fun f=>zjF x f
def zhX(G:Genv)(rc:Rec):Rec:=fun nm N e=>match zut G nm N e with
 | some f=>some (false,f)
 | none=>(match zt9 G nm N e with | some f=>some (true,f) | none=>(match zxV rc nm N e with | some f=>some (true,f) | none=>zaO G rc nm N e))
noncomputable def ztH(G:Genv):Nat->Rec
 | 0=>fun _ _ _=>none
 | n+1=>zhX G (ztH G n)
section
variable{cl:Cf}{G:Genv}{k:Nat}{rc:Rec}
def zmV(h:zws i=true):zh6 i:=by
 intro o j
 cases i<;>first | rfl | cases h
def zaa{α β:Type}{o:Option α}{f:α->Option β}{b:β}(h:o.bind f=some b):∃a,o=some a/\f a=some b:=by
 cases o with
 | none=>cases h
 | some a=>exact ⟨a,rfl,h⟩
def map_some{α β:Type}{o:Option α}{f:α->β}{b:β}(h:o.map f=some b):∃a,o=some a/\f a=b:=by
 cases o with
 | none=>cases h
 | some a=>exact ⟨a,rfl,Option.some.inj h⟩
theorem zlF{X:Cx}{nm:Names}{N:List Str}{E:St->XK}(g:Gx cl G k X nm N E):∀{xs:List Str} {cs:List Nat},znm nm N xs=some cs->CapsOk X xs cs
 | [],cs,h=>by cases h;exact ⟨rfl,fun j x i h=>by simp at h⟩
 | x::xs,cs,h=>by
  unfold znm at h;split at h
  ·rename_i hx;obtain ⟨i,h1,h⟩:=ycb.mp h;obtain ⟨cs',h2,h⟩:=yap.mp h;subst h;have c:=zlF g h2;refine ⟨by rw [yaf,yaf,c.len],fun j y i' e1 e2=>?_⟩
   cases j with
   | zero =>
    cases e1;cases e2;refine ⟨by rw [g.eN];exact zeC h1,?_,g.fnc _ hx⟩;obtain ⟨kd,a1,a2⟩:=g.vis _ _ hx
    rcases a2 with z | ⟨z,_⟩
    ·rwa [z] at a1
    ·cases z
   | succ j=>exact c.at' j y i' e1 e2
  ·cases h
def zov{X:Cx}{nm:Names}{N:List Str}{E:St->XK}(g:Gx cl G k X nm N E){args:List Expr}{kws:List Keyword}{f:Expr}{cp:Pos}{o:Bool}{fe:Fe}(h:zq3 G nm N args kws f=some (o,fe)):o=false/\PE X (.Call f args kws cp) (tE cl E fe):=by
 obtain ⟨x,a1,h⟩:=zab h;obtain ⟨e,a2,hz⟩:=zab h;obtain rfl:=zbz a1;obtain ⟨rfl,rfl⟩:=zep a2;obtain ⟨x,p⟩:=x;split at hz
 ·rename_i hc;rw [yaa] at hc;have ex:=yaj hc.1;dsimp only at ex;subst ex;obtain ⟨r,h1,hz⟩:=zab hz;obtain ⟨cs,h2,hz⟩:=yap.mp hz;cases hz;exact ⟨rfl,g.gok.tl e r.1 r.2 h1 X E cs p cp rfl rfl rfl rfl rfl g.room g.calm (g.glob hc.2).1 g.cod (zlF g h2)⟩
 ·cases hz
def zlv(hs:zbr cl G k rc):zbr cl G k (zaO G rc):=by
 intro X nm N E g e o f h;cases e
 case Constant =>
  unfold zaO at h;dsimp only at h;obtain ⟨d,h1,h2⟩:=map_some h;cases h2;rename_i c kk pos
  have p:PE X (.Constant c kk pos) (tE cl E (zah d)):=by
   cases c<;>simp [zwA] at h1<;>subst h1
   ·exact zfE znS fun w=>.non
   ·exact zfE zpx fun w=>.bl _
   ·exact zfE znU fun w=>.int _
   ·exact zfE zkI fun w=>.str _
  exact ⟨(fun z=>by cases z),p,fun _=>zba p (fun _=>rfl),rfl⟩
 case Name =>
  unfold zaO at h;dsimp only at h;rename_i x pos;split at h
  ·rename_i i hi;cases h;obtain ⟨h1,h2,h3,h4⟩:=g.slot hi;have p:PE X (.Name x pos) (tE cl E (zan i)):=zrw h1 h2 h3 h4;exact ⟨(fun z=>by cases z),p,fun _=>zba p (fun _=>rfl),rfl⟩
  ·split at h
   ·rename_i hg;obtain ⟨d,h1,h2⟩:=map_some h;cases h2;obtain ⟨g1,g2,g3⟩:=g.glob hg;obtain ⟨v,u,m,r,sh⟩:=g.gok.con x d h1;have p:PE X (.Name x pos) (tE cl E (zah d)):=zfE (zhF g1 m r g2) sh;exact ⟨(fun z=>by cases z),p,fun _=>zba p (fun _=>rfl),rfl⟩
   ·cases h
 case Tuple =>
  unfold zaO at h;dsimp only at h;obtain ⟨fs,h1,h2⟩:=map_some h;cases h2;rename_i es kk pos;have p:PE X (.Tuple es kk pos) (tE cl E (zdk fs)):=zrx (zeh hs g h1).1;exact ⟨(fun z=>by cases z),p,fun _=>zba p (fun _=>rfl),rfl⟩
 case List =>
  unfold zaO at h;dsimp only at h;obtain ⟨fs,h1,h2⟩:=map_some h;cases h2;rename_i es pos;have p:PE X (.List es pos) (tN cl E (zgZ fs)):=zis (zeh hs g h1).1;exact ⟨fun _=>p,zbC p,fun _=>zba (zbC p) (fun _=>rfl),rfl⟩
 case BinOp =>
  unfold zaO at h;dsimp only at h;split at h
  ·rename_i a op b pos hm;obtain ⟨fa,h2,h⟩:=zaa h;obtain ⟨fb,h3,h⟩:=zaa h;cases h;rw [yaa] at hm
   have ho:op=.Mult:=by cases op<;>first | rfl | cases hm.2
   subst ho;have p:PE X (.BinOp a .Mult b pos) (tN cl E (zaj zhJ fa fb)):=zo1 (zcl hs g h2).1 (zcl hs g h3).1;exact ⟨fun _=>p,zbC p,fun _=>zba (zbC p) (fun _=>rfl),rfl⟩
  obtain ⟨gg,h1,h⟩:=zaa h;obtain ⟨fa,h2,h⟩:=zaa h;obtain ⟨fb,h3,h⟩:=zaa h;cases h;exact ⟨(fun z=>by cases z),zkg (zog h1) (zcl hs g h2).1 (zcl hs g h3).1,fun _=>zba (zkg (zog h1) (zcl hs g h2).1 (zcl hs g h3).1) (fun _=>rfl),rfl⟩
 case UnaryOp =>
  unfold zaO at h;dsimp only at h;rename_i op a pos;unfold unG at h;split at h
  ·split at h
   ·rename_i ht;obtain ⟨fa,h1,h2⟩:=map_some h;cases h2;obtain ⟨a1,a2,_⟩:=zbq hs g h1;exact ⟨(fun z=>by cases z),zry a1,fun _=>znC (a2 ht),rfl⟩
   ·cases h
  ·obtain ⟨fa,h1,h2⟩:=map_some h;cases h2;have p:PE X (.UnaryOp .USub a pos) (tE cl E (eUn zmK fa)):=zub zq0 (zcl hs g h1).1;exact ⟨(fun z=>by cases z),p,fun _=>zba p (fun _=>rfl),rfl⟩
  ·cases h
 case BoolOp =>
  unfold zaO at h;dsimp only at h;obtain ⟨fa,h1,h2⟩:=map_some h;cases h2;rename_i op es pos;obtain ⟨b1,b2⟩:=zlH hs g (pos:=pos) h1;exact ⟨(fun z=>by cases z),b1,fun _=>b2.pt,rfl⟩
 case Compare =>
  unfold zaO at h;dsimp only at h;rename_i a ops bs pos;unfold ztb at h;split at h
  ·obtain ⟨gg,h1,h⟩:=zaa h;obtain ⟨fa,h2,h⟩:=zaa h;obtain ⟨fb,h3,h⟩:=zaa h;cases h;obtain ⟨a1,_⟩:=zcl hs g h2;obtain ⟨b1,b2⟩:=zcl hs g h3;exact ⟨(fun z=>by cases z),zrC (zfs g h1) a1 b1 (zeq b2),fun _=>znD (zfs g h1) a1 b1 (zeq b2),rfl⟩
  ·obtain ⟨gg,h1,h⟩:=zaa h;obtain ⟨gg',h1',h⟩:=zaa h;obtain ⟨fa,h2,h⟩:=zaa h;obtain ⟨fb,h3,h⟩:=zaa h;obtain ⟨fc,h4,h⟩:=zaa h;cases h;obtain ⟨a1,_⟩:=zcl hs g h2;obtain ⟨b1,_⟩:=zcl hs g h3;obtain ⟨c1,c2⟩:=zcl hs g h4;have hm:∀{op op':CmpOp} {b c:Expr},okE c=true->lastMarks [op,op'] [b,c]=false:=fun h=>zeq h
   exact ⟨(fun z=>by cases z),zl7 (zfs g h1) (zfs g h1') a1 b1 c1 (hm c2),fun _=>zl3 (zfs g h1) (zfs g h1') a1 b1 c1 (hm c2),rfl⟩
  ·cases h
 case IfExp =>
  unfold zaO at h;dsimp only at h;split at h
  ·rename_i c a b pos ht;obtain ⟨fc,h1,h⟩:=zaa h;obtain ⟨fa,h2,h⟩:=zaa h;obtain ⟨fb,h3,h⟩:=zaa h;cases h;obtain ⟨_,c2,_⟩:=zbq hs g h1;exact ⟨(fun z=>by cases z),zud (c2 ht) (zbq hs g h2).1 (zbq hs g h3).1,(fun z=>by cases z),rfl⟩
  ·cases h
 case Subscript =>
  unfold zaO at h;dsimp only at h;rename_i a i pos;unfold zvM at h;split at h
  ·obtain ⟨fa,h1,h⟩:=zaa h;obtain ⟨fb,h2,h⟩:=zaa h;cases h;exact ⟨(fun z=>by cases z),zir (zcl hs g h1).1 (zcl hs g h2).1,fun _=>zba (zir (zcl hs g h1).1 (zcl hs g h2).1) (fun _=>rfl),rfl⟩
  ·split at h
   ·rename_i hix;obtain ⟨fa,h1,h⟩:=zaa h;obtain ⟨fb,h2,h⟩:=zaa h;cases h;have p:PE X (.Subscript a _ pos) (tE cl E (zaj ixD fa fb)):=zrA (zsT g.kk g.units) (zcl hs g h1).1 (zcl hs g h2).1 (zmV hix);exact ⟨(fun z=>by cases z),p,fun _=>zba p (fun _=>rfl),rfl⟩
   ·cases h
 case Attribute =>
  unfold zaO at h;dsimp only at h;rename_i o fl pos;obtain ⟨rfl,n1⟩:=zsZ hs g (pos:=pos) h;exact ⟨(fun z=>by cases z),n1,fun _=>zba n1 (fun _=>rfl),rfl⟩
 case Call =>
  unfold zaO at h;dsimp only at h;rename_i fn args kws cp;split at h
  ·rename_i pt hpt;obtain ⟨w,fe⟩:=pt;cases h;obtain ⟨rfl,n1⟩:=zov g (cp:=cp) hpt;exact ⟨(fun z=>by cases z),n1,fun _=>zba n1 (fun _=>rfl),rfl⟩
  rename_i hno;clear hno;unfold zof at h;split at h
  ·rename_i o m ap;obtain ⟨a1,a2⟩:=zpM hs g (ap:=ap) (pos:=cp) h;exact ⟨a1,a2,fun _=>zba a2 (fun _=>rfl),rfl⟩
  ·rename_i x p;split at h
   ·rename_i hk
    have hk':kws=[]:=by simpa using hk
    subst hk';split at h
    ·rename_i pm hmk;obtain ⟨w,fe⟩:=pm;cases h;obtain ⟨rfl,n1⟩:=zuE hs g (p:=p) (pos:=cp) hmk;exact ⟨(fun z=>by cases z),n1,fun _=>zba n1 (fun _=>rfl),rfl⟩
    split at h
    ·rename_i hsp;cases h;obtain ⟨a1,a2⟩:=zua hs g (p:=p) (pos:=cp) hsp;exact ⟨a1,a2,fun _=>zba a2 (fun _=>rfl),rfl⟩
    ·obtain ⟨a1,a2⟩:=zqu hs g (p:=p) (pos:=cp) h;exact ⟨a1,a2,fun _=>zba a2 (fun _=>rfl),rfl⟩
   ·cases h
  ·cases h
 case ListComp =>
  unfold zaO at h;dsimp only at h;rename_i elt gs scope pos;unfold lcG at h;split at h
  ·obtain ⟨fa,h1,h2⟩:=map_some h;cases h2;rename_i gg;have p:PE X (.ListComp elt [gg] scope pos) (tN cl E f):=zlB hs g h1;exact ⟨fun _=>p,zbC p,fun _=>zba (zbC p) (fun _=>rfl),rfl⟩
  ·cases h
 case Dict ks vs _ =>
  cases ks with
  | cons _ _=>cases h
  | nil =>
   cases vs with
   | cons _ _=>cases h
   | nil =>
    unfold zaO at h;dsimp only at h;rename_i pos;cases h;exact ⟨fun _=>zhz,zbC (zhz),fun _=>zba (zbC (zhz)) (fun _=>rfl),rfl⟩
 all_goals cases h
def znf(hs:zbr cl G k rc):zbr cl G k (zhX G rc):=by
 intro X nm N E g e o f h;unfold zhX at h;split at h
 ·rename_i f' ho;cases h;obtain ⟨p1,p2,p3⟩:=zpB g ho;exact ⟨(fun z=>by cases z),p1,fun _=>p2,p3⟩
 ·split at h
  ·rename_i f' ho;cases h;obtain ⟨p1,p2,p3⟩:=zoS g ho;exact ⟨fun _=>p1,zbC p1,fun _=>p2,p3⟩
  ·split at h
   ·rename_i f' ho;cases h;obtain ⟨d,a1,ho⟩:=zab ho;obtain ⟨ko,a2,ho⟩:=zab ho;obtain ⟨ke,a3,ho⟩:=zab ho;obtain ⟨c,a4,ho⟩:=zab ho;obtain ⟨x,a5,ho⟩:=zab ho;obtain ⟨v,a6,ho⟩:=zab ho;obtain ⟨fv,h1,ho⟩:=map_some ho;subst ho;have p:=zo4 (k:=x) (kk:=c.2.1) (p2:=c.2.2) (pos:=d.2.2) (zbq hs g h1).1
    obtain rfl:e=.Dict [some (.Constant (.str x) c.2.1 c.2.2)] [v] d.2.2:=by rw [zqo a1,zff a2,a3,zqq a4,zoH a5,zff a6]
    exact ⟨fun _=>p,zbC p,fun _=>zba (zbC p) (fun _=>rfl),rfl⟩
   ·exact zlv hs X nm N E g e o f h
theorem zlw:∀n,zbr cl G k (ztH G n)
 | 0=>fun _ _ _ _ _ _ _ _ h=>by cases h
 | n+1=>znf (zlw n)
end
noncomputable def zlP(X:Cx)(E:St->XK):Prop:=∀(C:Addr) (pins:Z3) (σ:St) (H:Hp) (s:Shared) (e:Addr) (h':Heap) (vs:List Value),Inv X pins σ H s->Heap.MadeExcOf s.heap h' e (.ref C) vs->E σ (.ref C) none H->X.xe (.ref e) { s with heap:=h' }
noncomputable def zoB(C:Addr)(E:St->XK)(t:TA):TS:=fun _ σ H=>t σ H fun vs H1=>vs.length<=sizeLine/\E σ (.ref C) none H1
theorem zkD(hr:zlP X E)(hc:X.calm=true)(hg:Gl X x)(hm:X.mg x=some (.ref C))
  (z:PySem.W.excIn X.K C bmV "ValueError.__new__" = true) (ha:PA X (e::es) t)
  (he:starEach (e::es) X.env=(false,eval e X.env)::starEach es X.env) (hpl:(backTo cpos (starEach es X.env)).any (·.1)=false) (hdb:(x == ("__debug__":Str))=false) :
  PS X (.Raise (some (.Call (.Name x np) (e::es) [] cpos)) none pos) (zoB C E t):=by
 intro pins s σ H D I h;obtain ⟨bm,N,nm,qn,bs,hd,sn,sub,ab,col,dd,c0,c1,c2,c3,c5,mN,o1,o2,o3,o4⟩:=zhP I.mod.kin z
 refine wpAny_Raise_call_subU (C:=C) (nm:=nm) (q:=qn) (N:=N) (bs:=bs) (bm:=bm) (hdct:=hd) (sn:=sn) (sub:=sub) (ab:=ab) (col:=col) (dd:=dd) (k0:=c0) (k1:=c1) (k2:=c2) (k3:=c3) (k5:=c5)
  ybS (by decide +kernel) ybS (mN:=mN) (o4.hasType ybS.hasBase) (I.ok.hd hc) (by rw [he];show (false||(backTo cpos (starEach es X.env)).any (·.1))=false;rw [hpl];rfl) o3 (zcW I hg hm ⟨rfl,?_⟩ hdb)
 have go:=ha cpos pins s σ H _ I h;rw [he] at go ⊢;exact ybT (thn go fun us s2 ⟨vs,H2,I2,r2,q1,q2⟩=>⟨rfl,by rw [<-r2.length];exact q1,I2.bk _ _ o1,o2.keeps I2.bk,o4.keeps I2.bk,fun h' a mk=>hr C pins σ H2 s2 a h' us I2 mk q2⟩)
def sRz(c:Str)(fs:List Fe):Fs:=fun ρ S=>match zau fs ρ S with | .ok ds S'=>if zaK ds.length then .ex c ρ S' else .bad | .exc x S'=>.ex x ρ S' | .bad=>.bad
noncomputable def zot(X:Cx)(pins:Z3)(E:St->XK):Cx:={ X with pn:=X.pn++pins,xe:=fun e s'=>∃σ H1 s1,Inv X pins σ H1 s1/\CXE X.prog X.w X.stack H1 s1 (E σ) e s' }
section
variable{X:Cx}{pins:Z3}{σ:St}{H:Hp}{s:Shared}{E:St->XK}
def zse(ok:X.Ok):(zot X pins E).Ok :=
 ⟨ok.mod,ok.kind,ok.glob,ok.blt,ok.above,ok.inj,ok.has,ok.cab,ok.hd,ok.frames,ok.stk,ok.exf,ok.bs,ok.bsz,ok.noex,ok.exfs,ok.funs,ok.frf⟩
def zmH(ok:(zot X pins E).Ok):X.Ok :=
 ⟨ok.mod,ok.kind,ok.glob,ok.blt,ok.above,ok.inj,ok.has,ok.cab,ok.hd,ok.frames,ok.stk,ok.exf,ok.bs,ok.bsz,ok.noex,ok.exfs,ok.funs,ok.frf⟩
def zp9(I:Inv X pins σ H s):Inv (zot X pins E) [] σ H s :=
 ⟨zse I.ok,I.os,I.bare,I.base,I.loc,I.cell,I.free,I.freeC,fun p hp=>I.pin p (by simpa [zot] using hp),I.hok,I.len⟩
def zcY{pins':Z3}(I:Inv (zot X pins E) pins' σ H s):Inv X pins σ H s :=
 ⟨zmH I.ok,I.os,I.bare,I.base,I.loc,I.cell,I.free,I.freeC,fun p hp=>I.pin p (yct _ hp),I.hok,I.len⟩
def zl4{De:Ends}{f:Flow}(h:SP (zot X pins E) [] De f s):SP X pins De f s:=by
 cases f with
 | next=>obtain ⟨σ',H',I,q⟩:=h;exact ⟨σ',H',zcY I,q⟩
 | brk=>obtain ⟨σ',H',I,q⟩:=h;exact ⟨σ',H',zcY I,q⟩
 | cont=>obtain ⟨σ',H',I,q⟩:=h;exact ⟨σ',H',zcY I,q⟩
 | ret u=>obtain ⟨v,σ',H',I,r,q⟩:=h;exact ⟨v,σ',H',zcY I,r,q⟩
end
noncomputable def ztV(K:PySem.W.Frag)(C:Addr)(i:Nat)(th:TS)(De:Ends):St->XK:=fun σ cls _ H'=>∃C',cls=.ref C'/\zqH K C' C/\∀a ob,H' a=none->ob.cls=.ref C'->th (De.goes i) (σ.set i (some (.ref a))) (upd H' a (.frz ob (.own a)))
def zpi{X:Cx}{body:List Stmt}{b0:Stmt}{suite:List Stmt}{c n:Str}{C:Addr}{i:Nat}{bD:List Value}{iD:String}{tb:(St->XK)->TS}{th:TS}{np hpos pos:Pos}(hs:X.stack=X.env::X.outer)(hf:X.env.frame=some X.env.locals)(hN:X.N.Nodup)(hi:X.N[i]?=some n)
  (hk:X.env.scope.names.lookup n=some .local) (hg:Gl X c) (hm:X.mg c=some (.ref C)) (z:PySem.W.excIn X.K C bD iD=true) (hb:bD.contains (.type "BaseException")=true) (h1:∀pins E,PSs (zot X pins E) body (tb E)) (h2:∀a,PSs (X.inH a) (b0::suite) th) (hdb:(c == ("__debug__":Str))=false) :
  PS X (.Try body [.ExceptHandler (some (.Name c np)) (some n) (b0::suite) hpos] [] [] pos) (fun De σ H=>tb (ztV X.K C i th De) De σ H):=by
 intro pins s σ H D I h
 have hfr:X.A.frames=some (X.env::X.outer):=by rw [<-hs];exact I.ok.frames
 refine wpAny_Try_except (yaR (h1 pins (ztV X.K C i th D) [] s σ H D (zp9 I) h) (fun f s1 q=>?_) fun e s1 q=>?_)
 ·have q':=zl4 q
  cases f with
  | next=>exact ycx q'
  | ret v=>exact q'
  | brk=>exact q'
  | cont=>exact q'
 ·obtain ⟨σ1,H1,s2,I1,a,cls,a0,H',B,rfl,fl,c1,c2,c3,os,bare,un,hok,C',rfl,⟨⟨bC,iC,zC⟩,up⟩,q⟩:=q;have fl':=fl;rw [hs] at fl';refine wpAny_looks_onW hfr hf fl' fun h4 hd4 u4=>?_
  refine wpAny_landsW hd4 fun h5 fl5 u5=>?_
  rw [<-hs] at fl5;obtain ⟨I5,ob5,oc5,og5,_,_⟩:=zfu (s':=s1) I1 fl5 (u4.trans u5) c1 c2 c3 os bare un hok;refine wpAny_handleBy_cons (codeAny_handlers_test ?_) (by intro q;cases q);refine zcW (I5.inH a) hg hm ?_ hdb;refine zfP I5.kIn zC z og5 oc5 hb up ?_;refine codeAny_handlers_suite_as ?_;refine lands_againW fl5 fun h6 fl6 u6=>?_
  obtain ⟨_,ob,oc,og,na,I6⟩:=zfu (s':=s1) I1 fl6 ((u4.trans u5).trans u6) c1 c2 c3 os bare un hok;refine zdb (v:=.ref a) I6 hN hi (.inl hk) rfl (fun s7 I7=>?_) (.inr hk);exact yaR (h2 a pins s7 _ _ (D.goes i) (I7.inH a) (q a ob na oc)) (fun f s8 q8=>zoT I.ok hN hi hk q8) fun _ _ z=>z.elim
noncomputable def Wd.claim(w:Wd)(p:Addr)(r:Root):Wd:=⟨w.H,fun a=>if a=p then some r else if w.ow a=some r then some .far else w.ow a,w.mu⟩
section
variable{cl:Cf}{B:Base}{σ:St}{w:Wd}{ρ:Env}{S:Sto}
def zeD(h:w.ow p≠none):Fut w (w.claim p r) where
 keep:=fun a u ha hk=>by
  have n:a≠p:=fun z=>h (by rw [<-z];exact hk)
  refine ⟨ha,?_⟩;show (if a=p then some r else if w.ow a=some r then some Root.far else w.ow a)=none;rw [if_neg n,if_neg (by rw [hk];exact fun z=>by cases z)];exact hk
 mu:=fun _ _ h=>h
theorem Rel.claim(R:Rel cl (B.hold p o) σ w ρ S)(hB:B.Fr p=none)(t:Top cl w o d):Rel cl B (σ.set i (some (.ref p))) (w.claim p (.slot i)) (ρ.set i (some (true,d))) S:=by
 have hp:=R.wd.fr p o (show (if p=p then some o else B.Fr p)=some o from if_pos rfl);have hfar:w.ow p=some .far:=hp.2.trans (show (if p=p then some Root.far else B.fw p)=_ from if_pos rfl);have ff:=zeD (w:=w) (p:=p) (r:=.slot i) (by rw [hfar];exact yaD _)
 have kp:∀a u,w.H a=some u->w.ow a≠some .far->w.ow a≠some (.slot i)->(w.claim p (.slot i)).H a=some u/\(w.claim p (.slot i)).ow a=w.ow a:=fun a u ha hk hk2=>by
  have n:a≠p:=fun z=>hk (by rw [z];exact hfar)
  refine ⟨ha,?_⟩;show (if a=p then _ else if w.ow a=some (Root.slot i) then some Root.far else w.ow a)=_;rw [if_neg n,if_neg hk2]
 refine ⟨⟨fun a u h=>?_,fun a r h=>?_,R.wd.len,fun n ob h=>?_,R.wd.tab.keep ff fun P ps h1 h2=>⟨(kp P _ h1 (by rw [h2];simp) (by rw [h2];simp)).1,(kp P _ h1 (by rw [h2];simp) (by rw [h2];simp)).2.trans h2⟩⟩,by rw [yaJ,yaJ];exact R.len,fun j b e hj=>?_⟩
 ·have na:a≠p:=fun z=>by rw [z,hB] at h;cases h
  have h2:=R.wd.fr a u (show (if a=p then some o else B.Fr a)=some u by rw [if_neg na];exact h);have h3:w.ow a=B.fw a:=h2.2.trans (show (if a=p then some Root.far else B.fw a)=_ from if_neg na)
  have hne:w.ow a≠some (.slot i):=fun z=>by
   rcases R.wd.own a _ z with y | y
   ·cases y
   ·have y':(if a=p then some o else B.Fr a)=none:=y;rw [if_neg na,h] at y';cases y'
  refine ⟨h2.1,?_⟩;show (if a=p then some (Root.slot i) else if w.ow a=some (Root.slot i) then some Root.far else w.ow a)=_;rw [if_neg na,if_neg hne];exact h3
 ·have h':(if a=p then some (Root.slot i) else if w.ow a=some (Root.slot i) then some Root.far else w.ow a)=some r:=h;split at h'
  ·rename_i e;rw [e];exact .inr hB
  ·rename_i na;split at h'
   ·cases h';exact .inl rfl
   ·rcases R.wd.own a r h' with z | z
    ·exact .inl z
    ·have z':(if a=p then some o else B.Fr a)=none:=z;rw [if_neg na] at z';exact .inr z'
 ·obtain ⟨a,e,x⟩:=R.wd.obj n ob h;exact ⟨a,e,x.keep ff fun b u hb hn=>kp b u hb (fun z=>by rwa [z] at hn) (fun z=>by rwa [z] at hn)⟩
 ·by_cases hij:i=j
  ·subst hij
   have hlt:i<ρ.length:=by
    have:=(yai.mp hj).1;rwa [yaJ] at this
   rw [yaC hlt] at hj;cases hj;exact ⟨.ref p,by rw [yaC (by rw [R.len];exact hlt)],p,o,rfl,if_pos rfl,hp.1,t.up ff⟩
  ·rw [yaO hij] at hj ⊢;obtain ⟨v,e1,x⟩:=R.slots j b e hj;refine ⟨v,e1,x.keep ff fun a u ha hr=>?_⟩;have:=kp a u ha (by rw [hr];exact fun z=>by cases z) (by rw [hr];exact fun z=>hij (by cases z;rfl));exact ⟨this.1,this.2.trans hr⟩
end
noncomputable def tO(cl:Cf)(E:St->XK):Bool->Fe->TE | true,f=>tN cl E f | false,f=>tE cl E f
noncomputable def zl8(i j:Nat)(o1:Bool)(f1:Fe)(o2:Bool)(f2:Fe):Fs:=fun ρ S=>match f1 ρ S with
 | .ok d1 S1=>(match f2 ρ S1 with
  | .ok d2 S2=>.nx ((ρ.set i (some (o1,d1))).set j (some (o2,d2))) S2
  | .exc c S'=>.ex c ρ S'
  | .bad=>.bad)
 | .exc c S'=>.ex c ρ S'
 | .bad=>.bad
section
variable{X:Cx}{cl:Cf}{E:St->XK}{own:Bool}
def zmE(q:tS cl E own (zl8 i j o1 f1 o2 f2) De σ H):zvI i j (zoD (tO cl E o1 f1) (zoD (tO cl E o2 f2) zty)) De σ H:=by
 obtain ⟨B,w,ρ,S,rfl,R,q⟩:=q;unfold zl8 at q
 cases o1 with
 | false =>
  refine ⟨B,w,ρ,S,rfl,R,?_⟩
  cases h1:f1 ρ S with
  | bad=>rwa [h1] at q
  | exc c S1=>rw [h1] at q;exact fun w' R' F'=>q σ w' R' F'
  | ok d1 S1 =>
   rw [h1] at q;dsimp only at q;intro v w1 R1 F1 sh1
   cases o2 with
   | false =>
    refine ⟨B,w1,ρ,S1,rfl,R1,?_⟩
    cases h2:f2 ρ S1 with
    | bad=>rwa [h2] at q
    | exc c S2=>rw [h2] at q;exact fun w' R' F'=>q σ w' R' (F1.trans F')
    | ok d2 S2 =>
     rw [h2] at q;intro v2 w2 R2 F2 sh2;exact ⟨v,v2,rfl,q _ w2 ((R2.put (sh1.up F2)).put sh2) (F1.trans F2)⟩
   | true =>
    refine ⟨B,w1,ρ,S1,rfl,R1,?_⟩
    cases h2:f2 ρ S1 with
    | bad=>rwa [h2] at q
    | exc c S2=>rw [h2] at q;exact fun w' R' F'=>q σ w' R' (F1.trans F')
    | ok d2 S2 =>
     rw [h2] at q;intro p2 u2 w2 R2 F2 hp2 t2;exact ⟨v,.ref p2,rfl,q _ (w2.addAs p2 u2 (.slot j)) ((R2.put (sh1.up F2)).own hp2 t2) (F1.trans (F2.trans (zbK hp2)))⟩
 | true =>
  refine ⟨B,w,ρ,S,rfl,R,?_⟩
  cases h1:f1 ρ S with
  | bad=>rwa [h1] at q
  | exc c S1=>rw [h1] at q;exact fun w' R' F'=>q σ w' R' F'
  | ok d1 S1 =>
   rw [h1] at q;dsimp only at q;intro p u w1 R1 F1 hp t1;have Rh:=R1.hold (o:=u) hp;have fa:=zbK (w:=w1) (p:=p) (o:=u) (r:=.far) hp
   have hB:B.Fr p=none:=by
    cases z:B.Fr p with
    | none=>rfl
    | some x=>have:=(R1.wd.fr p x z).1;rw [hp] at this;cases this
   cases o2 with
   | false =>
    refine ⟨B.hold p u,w1.addAs p u .far,ρ,S1,rfl,Rh,?_⟩
    cases h2:f2 ρ S1 with
    | bad=>rwa [h2] at q
    | exc c S2=>rw [h2] at q;exact fun w' R' F'=>q σ w' (R'.unhold hB) (F1.trans (fa.trans F'))
    | ok d2 S2 =>
     rw [h2] at q;intro v2 w2 R2 F2 sh2;have hpp:=R2.wd.fr p u (show (if p=p then some u else B.Fr p)=some u from if_pos rfl)
     have hfar:w2.ow p≠none:=by rw [hpp.2,show (B.hold p u).fw p=some Root.far from if_pos rfl];exact yaD _
     have fc:=zeD (w:=w2) (p:=p) (r:=.slot i) hfar;exact ⟨.ref p,v2,rfl,q _ (w2.claim p (.slot i)) ((R2.claim hB (t1.up (fa.trans F2))).put (sh2.up fc)) (F1.trans (fa.trans (F2.trans fc)))⟩
   | true =>
    refine ⟨B.hold p u,w1.addAs p u .far,ρ,S1,rfl,Rh,?_⟩
    cases h2:f2 ρ S1 with
    | bad=>rwa [h2] at q
    | exc c S2=>rw [h2] at q;exact fun w' R' F'=>q σ w' (R'.unhold hB) (F1.trans (fa.trans F'))
    | ok d2 S2 =>
     rw [h2] at q;intro p2 u2 w2 R2 F2 hp2 t2;have hpp:=R2.wd.fr p u (show (if p=p then some u else B.Fr p)=some u from if_pos rfl)
     have hfar:w2.ow p≠none:=by rw [hpp.2,show (B.hold p u).fw p=some Root.far from if_pos rfl];exact yaD _
     have fc:=zeD (w:=w2) (p:=p) (r:=.slot i) hfar;exact ⟨.ref p,.ref p2,rfl,q _ ((w2.claim p (.slot i)).addAs p2 u2 (.slot j)) ((R2.claim hB (t1.up (fa.trans F2))).own (w:=w2.claim p (.slot i)) hp2 (t2.up fc)) (F1.trans (fa.trans (F2.trans (fc.trans (zbK (w:=w2.claim p (.slot i)) hp2)))))⟩
end
noncomputable def zgQ:Expr->Bool | .ListComp _ _ _ _=>true | .SetComp _ _ _ _=>true | .DictComp _ _ _ _ _=>true | _=>false
def zdC(h:zgQ e=false):swapsWith e t l env=pure false:=by
 cases e<;>first | rfl | cases h
structure Gd(cl:Cf)(G:Genv)(k:Nat)(X:Cx)(nm:Names)(N:List Str)(E:St->XK)(full:Bool):Prop where
 gx:Gx cl G k X nm N E
 fn:∀x,X.fn x=true
 kind:X.env.scope.kind=.function
 sc:X.env.scope.names=nm
 own:full=true->PassesOwn (model X.prog X.w) X.A X.env X.xe
 raises:full=true->zlP X E
 stk:X.stack=X.env::X.outer
 frm:X.env.frame=some X.env.locals
def zcC:Nat->Names->List Str->Expr->List Nat
 | 0,_,_,_=>[]
 | n+1,nm,N,e =>
  let rc:=zcC n nm N
  let op:=fun (e:Expr)=>match e with | .Name _ _=>[] | e=>rc e
  match e with
  | .Name x _=>(zbP nm N x).toList
  | .Tuple es _ _=>es.flatMap rc
  | .List es _=>es.flatMap rc
  | .BinOp a _ b _=>op a++op b
  | .UnaryOp _ a _=>rc a
  | .BoolOp _ es _=>es.flatMap rc
  | .Compare a _ bs _=>op a++bs.flatMap op
  | .IfExp c a b _=>rc c++rc a++rc b
  | .Subscript a (.Slice lo hi _ _) _=>op a++lo.toList.flatMap op++hi.toList.flatMap op
  | .Subscript a i _=>op a++op i
  | .Call (.Name f _) args [] _=>if (zlJ f).isSome||decide (f = "isinstance") then args.flatMap op else args.flatMap rc
  | .Call (.Attribute o _ _) args [] _=>op o++args.flatMap rc
  | .Dict _ _ _=>[]
  | .Attribute o _ _=>op o
  | .ListComp _ [g] scope _=>rc g.iter++(zbb scope.names N).map (·.2)
  | .Lambda _ _ scope _=>(zbb scope.names N).map (·.2)
  | _=>[]
def zek(t:Tg)(f:Fe):Fs:=fun ρ S=>match f ρ S with
 | .ok d S'=>(match t.put ρ d with | some ρ'=>.nx ρ' S' | none=>.bad)
 | .exc c S'=>.ex c ρ S'
 | .bad=>.bad
noncomputable def zmF(nm:Names)(x y:Str)(px py:Pos)(a b:Expr):Bool :=
 decide (nm.lookup x=some .local)&&decide (nm.lookup y=some .local)&&decide (px.line=py.line)&&!decide (x=y)&&zby a&&zby b&&!([a,b].all (foldedForSure 8))&&!([a,b].all (constantsAlone 8))
noncomputable def zn7:Expr->Bool | .Constant _ _ _=>true | _=>false
noncomputable def zxI:Expr->Bool | .Name _ _=>true | .Constant _ _ _=>true | .Subscript _ _ _=>true | .BinOp _ _ _ _=>true | _=>false
noncomputable def zqL:Expr->Option (List Expr×Nat×Pos) | .Tuple es k p=>some (es,k,p) | _=>none
def zho(h:zqL e=some x):e=.Tuple x.1 x.2.1 x.2.2:=by cases e<;>first | (cases h;done) | (cases h;rfl)
noncomputable def zvN:Expr->Option (Expr×Expr×Pos) | .Subscript a i p=>some (a,i,p) | _=>none
def zoF(h:zvN e=some x):e=.Subscript x.1 x.2.1 x.2.2:=by cases e<;>first | (cases h;done) | (cases h;rfl)
noncomputable def lcE:Expr->Option (Expr×List Comprehension×Scope×Pos) | .ListComp elt gs scope p=>some (elt,gs,scope,p) | _=>none
def zsC(h:lcE e=some x):e=.ListComp x.1 x.2.1 x.2.2.1 x.2.2.2:=by cases e<;>first | (cases h;done) | (cases h;rfl)
noncomputable def ztU{α:Type}:List α->Option (α×α) | [a,b]=>some (a,b) | _=>none
def znA{α:Type}{l:List α}{a:α×α}(h:ztU l=some a):l=[a.1,a.2]:=by
 cases l with
 | nil=>cases h
 | cons b t=>cases t with
  | nil=>cases h
  | cons c t=>cases t with
   | nil=>cases h;rfl
   | cons _ _=>cases h
def zvd(G:Genv)(rc:Rec)(nm:Names)(N:List Str)(x:Str)(e:Expr):Option Fs :=
 (tgI true nm N N.length x).bind fun i=>match lcE e with
  | some c=>(znY c.2.1).bind fun g=>(zjH G rc nm N c.1 g c.2.2.1).bind fun f=>some (zcp i true f)
  | none=>if zgQ e then none else (rc nm N e).bind fun p=>some (zcp i p.1 p.2)
def zxX(rc:Rec)(nm:Names)(N:List Str)(t:List Expr×Nat×Pos)(vs:List Expr)(e:Expr):Option Fs:=(tgG true nm N N.length (.Tuple t.1 t.2.1 t.2.2)).bind fun t=>(shE rc nm N e).bind fun f=>some (zek t f)
def zvc(rc:Rec)(nm:Names)(N:List Str)(t:List Expr×Nat×Pos)(e:Expr):Option Fs:=match zqL e with
 | some v=>if zu5 nm t.1 then zxX rc nm N t v.1 e else (ztU t.1).bind fun xy=>(nmF xy.1).bind fun x=>(nmF xy.2).bind fun y=>(ztU v.1).bind fun ab =>
  if zmF nm x.1 y.1 x.2 y.2 ab.1 ab.2 then (tgI true nm N N.length x.1).bind fun i=>(tgI true nm N N.length y.1).bind fun j=>if i=j then none else (rc nm N ab.1).bind fun p=>(rc nm N ab.2).bind fun q=>some (zl8 i j p.1 p.2 q.1 q.2)
  else if zn7 ab.1&&zn7 ab.2 then (tgG true nm N N.length (.Tuple t.1 t.2.1 t.2.2)).bind fun t=>(shE rc nm N e).bind fun f=>some (zek t f) else none
 | none=>(tgG true nm N N.length (.Tuple t.1 t.2.1 t.2.2)).bind fun t=>(shE rc nm N e).bind fun f=>some (zek t f)
def zve(G:Genv)(rc:Rec)(nm:Names)(N:List Str)(o:Expr)(f:Str)(e:Expr):Option Fs :=
 (nmF o).bind fun x=>if !G.ob.fk G.ob.cur f then none else (shE rc nm N o).bind fun fo=>(shE rc nm N e).bind fun fe=>some (zki G.ob.cur f fo fe)
def zvf(rc:Rec)(nm:Names)(N:List Str)(x:Str)(ix e:Expr):Option Fs :=
 if zxI ix&&!zgQ e then (zbP nm N x).bind fun i=>(shE rc nm N ix).bind fun k=>(shE rc nm N e).bind fun f=>some (zeZ i k f) else none
def zto(G:Genv)(rc:Rec)(nm:Names)(N:List Str)(q:Expr×Expr×Pos)(e:Expr):Option Fs:=(nmF q.1).bind fun x=>zvf rc nm N x.1 q.2.1 e
def zqB(G:Genv)(rc:Rec)(nm:Names)(N:List Str)(tg e:Expr):Option Fs:=match nmF tg with
 | some x=>zvd G rc nm N x.1 e
 | none=>match zqL tg with
  | some t=>zvc rc nm N t e
  | none=>match zoh tg with
   | some a=>zve G rc nm N a.1 a.2.1 e
   | none=>(zvN tg).bind fun q=>zto G rc nm N q e
def ztL(G:Genv)(rc:Rec)(nm:Names)(N:List Str)(tg e:Expr):Option Fs:=match zuu G nm N tg e with
 | some f=>some f
 | none=>zqB G rc nm N tg e
structure Mc where
 x:Str
 px:Pos
 m:Str
 ap:Pos
 a:Expr
 cp:Pos
def zmM(e:Expr):Option Mc:=(zno e).bind fun c=>if c.2.2.1.isEmpty then (zoh c.1).bind fun t=>(nmF t.1).bind fun x=>(znY c.2.1).bind fun a=>some ⟨x.1,x.2,t.2.1,t.2.2,a,c.2.2.2⟩ else none
def zlo(G:Genv)(rc:Rec)(nm:Names)(N:List Str)(e:Expr):Option Fs:=match zmM e with
 | some c=>if decide (c.m = "append")&&(c.ap.endLine == c.cp.line) then (zbP nm N c.x).bind fun i=>(shE rc nm N c.a).bind fun f=>some (znJ i f)
  else if zgQ e then none else (shE rc nm N e).map zfF
 | none=>if zgQ e then none else (shE rc nm N e).map zfF
def zql(G:Genv)(rc:Rec)(nm:Names)(N:List Str)(e:Expr):Option Fs:=match zuq G nm N e with
 | some f=>some f
 | none=>zlo G rc nm N e
def zuh(rc:Rec)(nm:Names)(N:List Str)(own:Bool)(e:Expr):Option Fs:=match own with
 | true=>(rc nm N e).bind fun p=>if p.1 then some (zbn p.2) else none
 | false=>(shE rc nm N e).map zbn
def rzG(G:Genv)(rc:Rec)(nm:Names)(N:List Str)(full:Bool)(a b:Option Expr):Option Fs:=if b.isNone then a.bind fun e=>(zno e).bind fun c=>(nmF c.1).bind fun x=>if c.2.2.1.isEmpty&&!c.2.1.isEmpty&&full&&zbJ nm x.1&&G.exc x.1 then (shL rc nm N c.2.1).bind fun fs=>some (sRz x.1 fs) else none else none
def stG(G:Genv)(rc:Rec)(rs:Bool->List Stmt->Option Fs)(nm:Names)(N:List Str)(own full:Bool)(st:Stmt):Option Fs:=match st with
 | .Pass _=>some sNx
 | .Assign ts e _=>(znY ts).bind fun tg=>ztL G rc nm N tg e
 | .Expr e _=>zql G rc nm N e
 | .Return o _=>(match o with | some e=>zuh rc nm N own e | none=>none)
 | .If c a b _=>if zbR c then (shE rc nm N c).bind fun f=>(rs full a).bind fun g=>(rs full b).bind fun h=>some (sIf f g h) else none
 | .For tg it body el _=>if full&&el.isEmpty then (zjx G rc nm N tg it).bind fun i=>(tgG true nm N N.length tg).bind fun t=>(rs full body).bind fun b=>some (zjk t i b) else none
 | .Raise a b _=>rzG G rc nm N full a b
 | _=>none
def zpo(n:Nat)(own:Bool)(nm:Names)(N:List Str):Stmt->List Nat
 | .Assign [_] e _=>zcC n nm N e
 | .Expr (.Call (.Attribute _ _ _) args [] _) _=>args.flatMap (zcC n nm N)
 | .Expr e _=>zcC n nm N e
 | .Return (some (.Name x p)) _=>if own then [] else zcC n nm N (.Name x p)
 | .Return (some e) _=>zcC n nm N e
 | .If c _ _ _=>zcC n nm N c
 | .For _ it _ _ _=>zcC n nm N it
 | .While c _ _ _=>zcC n nm N c
 | _=>[]
def blk(ds:Stmt->Option Fs):List Stmt->Option Fs
 | []=>some sNx
 | s::r=>(ds s).bind fun f=>(blk ds r).bind fun g=>some (zao f g)
def zng(G:Genv)(own:Bool):Nat->Bool->Names->List Str->Stmt->Option Fs
 | 0,_,_,_,_=>none
 | n+1,full,nm,N,st=>(stG G (ztH G n) (fun fl b=>blk (zng G own n fl nm N) b) nm N own full st).map (sFz (zpo n own nm N st))
section
variable{cl:Cf}{G:Genv}{k:Nat}{rc:Rec}{X:Cx}{nm:Names}{N:List Str}{E:St->XK}{own full:Bool}
def Gd.sto(g:Gd cl G k X nm N E full):Sto' X nm true:=⟨fun _ x _=>g.fn x⟩
def zje:∃b,swapsWith (.ListComp elt gs scope p) (some (.Name x px)) l env=pure b:=⟨_,rfl⟩
def zlM(q:tS cl E own (zek t f) De σ H):zqN (tE cl E f) (tG cl n t) De σ H:=by
 obtain ⟨B,w,ρ,S,rfl,R,q⟩:=q;refine ⟨B,w,ρ,S,rfl,R,?_⟩;unfold zek at q
 cases hf:f ρ S with
 | bad=>rwa [hf] at q
 | exc c S1=>rw [hf] at q;exact fun w' R' F'=>q σ w' R' F'
 | ok d S1 =>
  rw [hf] at q;intro v w' R' F' h';dsimp only at q
  cases hp:t.put ρ d with
  | none=>rw [hp] at q;exact q.elim
  | some ρ'=>rw [hp] at q;exact ⟨B,w',ρ,S1,d,ρ',rfl,R',h',hp,fun σ' _ _ R2=>q σ' w' R2 F'⟩
def zr5(hk:X.env.scope.kind=.function)(hs:X.env.scope.names=nm)(h:zmF nm x y px py a b=true) :
  swappedStores [.Tuple [.Name x px,.Name y py] kt pt] (.Tuple [a,b] k2 pt2) X.env=pure (some [x,y]):=by
 unfold zmF at h;simp only [yaa,ya5,ybc,ycc] at h;obtain ⟨⟨⟨⟨⟨⟨⟨h1,h2⟩,h3⟩,h4⟩,h5⟩,h6⟩,h7⟩,h8⟩:=h
 have hb:X.env.blockKind=.function:=by unfold Env.blockKind;rw [hk];rfl
 have k1:X.env.kindOf x=some .local:=by unfold Env.kindOf;rw [hs];exact h1
 have k2':X.env.kindOf y=some .local:=by unfold Env.kindOf;rw [hs];exact h2
 have st:([a,b].any fun | .Starred ..=>true | _=>false)=false:=by
  rw [List.any_eq_false];intro e he
  have hp:zby e=true:=by
   rcases yav.mp he with z | z
   ·rw [z];exact h5
   ·rw [yaF.mp z];exact h6
  cases e<;>first | (cases hp;done) | (intro z;cases z)
 have ed:[x,y].eraseDups.length=2:=by
  have:(y == x)=false:=by rw [yaY];exact fun z=>h4 z.symm
  simp [List.eraseDups_cons,this]
 unfold swappedStores;simp only [hb,st];simp [k1,k2',h3,h7,h8,ed,show (Expr.Name x px).pos=px from rfl,show (Expr.Name y py).pos=py from rfl];intro z;exfalso
 rcases z with z | z
 ·cases a<;>first | (cases h5;done) | cases z
 ·cases b<;>first | (cases h6;done) | cases z
def znk(hs:zbr cl G k rc)(g:Gd cl G k X nm N E full)(hi:tgI true nm N N.length x=some i)(h:zjH G rc nm N elt gg scope=some f) :
  PS X (.Assign [.Name x px] (.ListComp elt [gg] scope p) pos) (tS cl E own (zcp i true f)):=by
 obtain ⟨a1,a2,a3,a4,a5⟩:=zfb g.gx g.sto hi;obtain ⟨b,hb⟩:=zje (elt:=elt) (gs:=[gg]) (scope:=scope) (p:=p) (px:=px) (x:=x) (l:=pos.line) (env:=X.env)
 cases b with
 | false=>exact zhy a2 a3 a4 (zlB hs g.gx h) hb a5
 | true =>
  obtain ⟨it,t,c,el,rfl,eg,S,i1,i2,i3,i4,i5⟩:=zfr hs g.gx h;rw [eg] at hb ⊢;refine PS.imp (zmo g.gx.calm S a2 a3 a4 i1 i3 i4 i5 hb a5 (zfL i2)) ?_;intro De σ H q;exact zoe (ztn q)
def zta{x y:Str}{px py pt pt2 p1 p2:Pos}{kt k2:Nat}{a b:Const}{ka kb:Nat}{env:PySem.Env}:swappedStores [.Tuple [.Name x px,.Name y py] kt pt] (.Tuple [.Constant a ka p1,.Constant b kb p2] k2 pt2) env=pure none:=by
 have hf:∀(c:Const) (k:Nat) (p:Pos),foldedForSure 8 (.Constant c k p)=true:=fun _ _ _=>rfl
 unfold swappedStores;simp only [yaX,List.all_nil,hf,Bool.and_self,ycT]
 split<;>first | rfl | (split<;>first | rfl | (split<;>rfl))
def zrc:swapsWithSole [.Subscript a i p] e l env=pure false:=by cases e<;>rfl
def zri:swappedStores [.Subscript a i p] e env=pure none:=by cases e<;>rfl
def zrb:swapsWithSole [.Tuple es kk p] e l env=pure false:=by cases e<;>rfl
def zrh(h:zqL e=none):swappedStores [.Tuple es kk p] e env=pure none:=by cases e<;>first | rfl | cases h
def zre:swapsWith e (some (.Attribute o f p)) l env=pure false:=by cases e<;>rfl
def zqA(hs:zbr cl G k rc)(g:Gd cl G k X nm N E full)(h:zvd G rc nm N x e=some f):PS X (.Assign [.Name x px] e pos) (tS cl E own f):=by
 unfold zvd at h;obtain ⟨i,h1,h⟩:=zaa h
 cases hl:lcE e with
 | some c =>
  rw [hl] at h;obtain ⟨gg,h2,h⟩:=zaa h;obtain ⟨fe,h3,h⟩:=zaa h;cases h;rw [zsC hl,zff h2];exact znk hs g h1 h3
 | none =>
  rw [hl] at h;dsimp only at h;split at h
  ·cases h
  ·rename_i hc;obtain ⟨⟨o,fe⟩,h2,h⟩:=zaa h;cases h;obtain ⟨a1,a2,a3,a4,a5⟩:=zfb g.gx g.sto h1;obtain ⟨b1,b2,_,_⟩:=hs X nm N E g.gx _ o fe h2;have sw:=zdC (t:=some (.Name x px)) (l:=pos.line) (env:=X.env) (by simpa using hc)
   cases o with
   | false=>exact znF a2 a3 a4 b2 sw a5
   | true=>exact zhy a2 a3 a4 (b1 rfl) sw a5
def zqz(hs:zbr cl G k rc)(g:Gd cl G k X nm N E full)(h:zvc rc nm N t e=some f):PS X (.Assign [.Tuple t.1 t.2.1 t.2.2] e pos) (tS cl E own f):=by
 have tupCase:swappedStores [.Tuple t.1 t.2.1 t.2.2] e X.env=pure none->((tgG true nm N N.length (.Tuple t.1 t.2.1 t.2.2)).bind fun t=>(shE rc nm N e).bind fun f=>some (zek t f))=some f->PS X (.Assign [.Tuple t.1 t.2.1 t.2.2] e pos) (tS cl E own f):=by
  intro sw2 h;obtain ⟨t',h1,h⟩:=zaa h;obtain ⟨fe,h2,h⟩:=zaa h;cases h;exact PS.imp (znQ (zbq hs g.gx h2).1 (zox g.gx g.sto h1) zrb sw2 rfl) fun _ _ _ q=>zlM q
 unfold zvc at h
 cases hv:zqL e with
 | none =>
  rw [hv] at h;exact tupCase (zrh hv) h
 | some v =>
  rw [hv] at h;dsimp only at h;split at h
  ·rename_i hce;have ev:=zho hv;refine tupCase ?_ h;rw [ev];exact zqs g.sc hce
  obtain ⟨xy,h1,h⟩:=zaa h;obtain ⟨x,h2,h⟩:=zaa h;obtain ⟨y,h3,h⟩:=zaa h;obtain ⟨ab,h4,h⟩:=zaa h;have ev:=zho hv
  have et:t.1=[.Name x.1 x.2,.Name y.1 y.2]:=by rw [znA h1,zbz h2,zbz h3]
  rw [znA h4] at ev;obtain ⟨a,b⟩:=ab;dsimp only at h ev;split at h
  ·rename_i hp;obtain ⟨i,h1,h⟩:=zaa h;obtain ⟨j,h2,h⟩:=zaa h;split at h
   ·cases h
   ·rename_i hij;obtain ⟨⟨o1,f1⟩,h3,h⟩:=zaa h;obtain ⟨⟨o2,f2⟩,h4,h⟩:=zaa h;cases h;obtain ⟨_,a2,a3,_,_⟩:=zfb g.gx g.sto h1;obtain ⟨_,_,b3,_,_⟩:=zfb g.gx g.sto h2;obtain ⟨p1,p2,_,p4⟩:=hs X nm N E g.gx a o1 f1 h3;obtain ⟨q1,q2,_,q4⟩:=hs X nm N E g.gx b o2 f2 h4
    have hx:X.env.scope.names.lookup x.1=some .local/\X.env.scope.names.lookup y.1=some .local:=by
     unfold zmF at hp;simp only [yaa,ya5] at hp;rw [g.sc];exact ⟨hp.1.1.1.1.1.1.1,hp.1.1.1.1.1.1.2⟩
    have P1:PE X a (tO cl E o1 f1):=by cases o1 with | false=>exact p2 | true=>exact p1 rfl
    have P2:PE X b (tO cl E o2 f2):=by cases o2 with | false=>exact q2 | true=>exact q1 rfl
    rw [et,ev];exact PS.imp (zrR g.gx.calm a2 a3 b3 hij hx.1 hx.2 (zaU P1 (zaU P2 zbG (zbp (zaG q4))) (zbp (zaG p4))) (zr5 g.kind g.sc hp) rfl) fun _ _ _ q=>zmE q
  ·split at h
   ·rename_i hc;rw [yaa] at hc;refine tupCase ?_ h;rw [et,ev]
    cases a<;>first | (cases hc.1;done) | (cases b<;>first | (cases hc.2;done) | exact zta)
   ·cases h
def zqC(hs:zbr cl G k rc)(g:Gd cl G k X nm N E full)(h:zve G rc nm N o fl e=some f):PS X (.Assign [.Attribute o fl ap] e pos) (tS cl E own f):=by
 unfold zve at h;obtain ⟨x,h1,hz⟩:=zaa h;have e1:=zbz h1;clear h h1;subst e1;split at hz
 ·cases hz
 ·rename_i hf;rw [Bool.not_eq_true,Bool.not_eq_false'] at hf;obtain ⟨fo,h2,hz⟩:=zaa hz;obtain ⟨fe,h3,hz⟩:=zaa hz;cases hz;exact zoN g.gx.same (g.gx.gok.fk _ _ hf) (zbq hs g.gx h2).1 (zbq hs g.gx h3).1 zre
def zqD(hs:zbr cl G k rc)(g:Gd cl G k X nm N E full)(h:zvf rc nm N x ix e=some f):PS X (.Assign [.Subscript (.Name x px) ix p3] e pos) (tS cl E own f):=by
 unfold zvf at h;split at h
 ·rename_i hx;rw [yaa] at hx;obtain ⟨i,h1,h⟩:=zaa h;obtain ⟨fi,h2,h⟩:=zaa h;obtain ⟨fe,h3,h⟩:=zaa h;cases h;obtain ⟨s1,s2,s3,s4⟩:=g.gx.slot h1;refine zoJ g.gx.u1 s1 s2 s3 s4 (zbq hs g.gx h2).1 (zbq hs g.gx h3).1 zrc zri ?_
  cases ix<;>first | (intro _;rfl) | cases hx.1
 ·cases h
def zqy(hs:zbr cl G k rc)(g:Gd cl G k X nm N E full){tg e:Expr}{f:Fs}{pos:Pos}(h:zqB G rc nm N tg e=some f):PS X (.Assign [tg] e pos) (tS cl E own f):=by
 unfold zqB at h
 cases h1:nmF tg with
 | some x=>rw [h1] at h;rw [zbz h1];exact zqA hs g h
 | none =>
  rw [h1] at h
  cases h2:zqL tg with
  | some t=>rw [h2] at h;rw [zho h2];exact zqz hs g h
  | none =>
   rw [h2] at h
   cases h3:zoh tg with
   | some a=>rw [h3] at h;rw [zd0 h3];exact zqC hs g h
   | none =>
    rw [h3] at h;obtain ⟨q,h4,h⟩:=zaa h;rw [zoF h4];unfold zto at h;obtain ⟨x,h6,h⟩:=zaa h;rw [zbz h6];exact zqD hs g h
def ztm(hs:zbr cl G k rc)(g:Gd cl G k X nm N E full)(h:ztL G rc nm N tg e=some f):PS X (.Assign [tg] e pos) (tS cl E own f):=by
 unfold ztL at h;split at h
 ·rename_i f' ho;cases h;exact zpC g.gx ho
 ·exact zqy hs g h
def zmL(h:zmM e=some c):e=.Call (.Attribute (.Name c.x c.px) c.m c.ap) [c.a] [] c.cp:=by
 unfold zmM at h;obtain ⟨c1,h1,h⟩:=zaa h;split at h
 ·rename_i hk;obtain ⟨t,h2,h⟩:=zaa h;obtain ⟨x,h3,h⟩:=zaa h;obtain ⟨a,h4,h⟩:=zaa h;cases h;rw [zga h1,zd0 h2,zbz h3,zff h4,ybz.mp hk]
 ·cases h
def zm8(hs:zbr cl G k rc)(g:Gd cl G k X nm N E full){e:Expr}{f:Fs}{pos:Pos}(h:zlo G rc nm N e=some f):PS X (.Expr e pos) (tS cl E own f):=by
 unfold zlo at h
 cases hc:zmM e with
 | some c =>
  obtain ⟨x,px,m,ap,a,cp⟩:=c;obtain rfl:=zmL hc;rw [hc] at h;dsimp only at h;split at h
  ·rename_i hm;rw [yaa] at hm;have em:=yaj hm.1;subst em;obtain ⟨i,h1,h⟩:=zaa h;obtain ⟨fe,h2,h⟩:=zaa h;cases h;obtain ⟨s1,s2,s3,s4⟩:=g.gx.slot h1;obtain ⟨a1,_,a3⟩:=zbq hs g.gx h2;exact zrn s1 s2 s3 s4 a1 (zaG a3) hm.2
  split at h
  ·cases h
  ·rename_i hc;obtain ⟨fe,h2,h⟩:=map_some h;subst h;exact znE (zbq hs g.gx h2).1 (zdC (by simpa using hc))
 | none =>
  rw [hc] at h;dsimp only at h;split at h
  ·cases h
  ·rename_i hc;obtain ⟨fe,h2,h⟩:=map_some h;subst h;exact znE (zbq hs g.gx h2).1 (zdC (by simpa using hc))
def zqk(hs:zbr cl G k rc)(g:Gd cl G k X nm N E full)(h:zql G rc nm N e=some f):PS X (.Expr e pos) (tS cl E own f):=by
 unfold zql at h;split at h
 ·rename_i f' ho;cases h;exact zpy g.gx ho
 ·exact zm8 hs g h
def zrE(hs:zbr cl G k rc)(g:Gd cl G k X nm N E full)(h:zuh rc nm N own e=some f):PS X (.Return (some e) pos) (tS cl E own f):=by
 unfold zuh at h;split at h
 ·obtain ⟨⟨o,fe⟩,h1,h⟩:=zaa h;dsimp only at h;split at h
  ·rename_i ho;cases h;exact zoI ((hs X nm N E g.gx _ o fe h1).1 ho)
  ·cases h
 ·obtain ⟨fe,h2,h⟩:=map_some h;subst h;exact zj5 (zbq hs g.gx h2).1
def zt7(hs:zbr cl G k rc){rs:Bool->List Stmt->Option Fs}(hr:∀(fl:Bool) (X:Cx) (E:St->XK),Gd cl G k X nm N E fl->∀b f,rs fl b=some f->PSs X b (tS cl E own f))(g:Gd cl G k X nm N E full){st:Stmt}{f:Fs}(h:stG G rc rs nm N own full st=some f):PS X st (tS cl E own f):=by
 cases st with
 | Pass p=>cases h;exact zoM
 | Assign ts e p =>
  obtain ⟨tg,h1,h⟩:=zaa (show ((znY ts).bind fun tg=>ztL G rc nm N tg e)=some f from h);obtain rfl:=zff h1;exact ztm hs g h
 | Expr e p=>exact zqk hs g h
 | Return o p =>
  cases o with
  | some e=>exact zrE hs g h
  | none =>
   cases h
 | If c a b p =>
  have h':(if zbR c then (shE rc nm N c).bind fun f=>(rs full a).bind fun g=>(rs full b).bind fun h=>some (sIf f g h) else none)=some f:=h;split at h'
  ·rename_i ht;obtain ⟨fc,h1,h⟩:=zaa h';obtain ⟨fa,h2,h⟩:=zaa h;obtain ⟨fb,h3,h⟩:=zaa h;cases h;exact zrj ((zbq hs g.gx h1).2.1 ht) (hr full X E g a fa h2) (hr full X E g b fb h3)
  ·cases h'
 | For tg it body el p =>
  have h':(if full&&el.isEmpty then (zjx G rc nm N tg it).bind fun i=>(tgG true nm N N.length tg).bind fun t=>(rs full body).bind fun b=>some (zjk t i b) else none)=some f:=h;split at h'
  ·rename_i hf;rw [yaa] at hf;obtain rfl:=ybz.mp hf.2;obtain ⟨it,h1,h⟩:=zaa h';obtain ⟨t,h2,h⟩:=zaa h;obtain ⟨fb,h3,h⟩:=zaa h;cases h;obtain ⟨i1,i2⟩:=zk6 hs g.gx (tg:=_) h1;exact zrk (g.own hf.1) g.gx.calm i1 (zox g.gx g.sto h2) (hr full X E g _ fb h3) (zfL i2)
  ·cases h'
 | Raise ea eb p =>
  have h':rzG G rc nm N full ea eb=some f:=h;unfold rzG at h';split at h'
  ·rename_i hb;obtain rfl:=Option.isNone_iff_eq_none.mp hb;obtain ⟨e0,e1,hz⟩:=zaa h';obtain ⟨c0,h1,hy⟩:=zaa hz;obtain ⟨⟨c,p⟩,h2,hx⟩:=zaa hy;have e2:=zga h1;obtain ⟨fn,args,kws,cp⟩:=c0;have e3:fn=.Name c p:=zbz h2;clear h h' hz hy h1 h2;subst e1;subst e2;subst e3;dsimp only at hx ⊢;split at hx
   ·rename_i hf;simp only [yaa] at hf;obtain ⟨⟨⟨⟨k0,a0⟩,f0⟩,g0⟩,x0⟩:=hf;obtain rfl:=ybz.mp k0
    cases args with
    | nil=>cases a0
    | cons e es =>
    obtain ⟨fs,h1,h⟩:=zaa hx;cases h;obtain ⟨g1,g2,_⟩:=g.gx.glob g0;obtain ⟨m,z⟩:=g.gx.gok.exc c x0;obtain ⟨a1,a2,_⟩:=zeh hs g.gx h1;rw [yaX,yaa] at a2;refine PS.imp (zkD (g.raises f0) g.gx.calm g1 m z a1 (zbp a2.1) (zbs a2.2) g2) ?_;rintro De σ H ⟨B,w,ρ,S,rfl,R,q⟩;refine ⟨B,w,ρ,S,rfl,R,?_⟩;unfold sRz at q
    cases hv:zau fs ρ S with
    | bad=>rwa [hv] at q
    | exc c S1=>rw [hv] at q;exact fun w' R' F'=>q σ w' R' F'
    | ok ds S1 =>
     rw [hv] at q;dsimp only at q
     cases hz:zaK ds.length with
     | false=>rw [hz,if_neg (by decide)] at q;exact q.elim
     | true =>
      rw [hz,if_pos rfl] at q;exact fun vs w' R' F' sh=>⟨by rw [sh.length];exact za5 hz,q σ w' R' F'⟩
   ·cases hx
  ·cases h'
 | _=>cases h
theorem zi5(hd:∀st f,ds st=some f->PS X st (tS cl E own f)):∀{b:List Stmt} {f:Fs},blk ds b=some f->PSs X b (tS cl E own f)
 | [],f,h=>by cases h;exact zim
 | s::r,f,h=>by
  unfold blk at h;obtain ⟨f1,h1,h⟩:=zaa h;obtain ⟨f2,h2,h⟩:=zaa h;cases h;exact zdR (hd s f1 h1) (zi5 hd h2)
theorem zf6:∀(n:Nat) (fl:Bool) (X:Cx) (E:St->XK),Gd cl G k X nm N E fl->∀st f,zng G own n fl nm N st=some f->PS X st (tS cl E own f)
 | 0,_,_,_,_,_,_,h=>by cases h
 | n+1,fl,X,E,g,st,f,h=>by
  unfold zng at h;obtain ⟨f1,h1,h⟩:=map_some h;subst h;exact zt8 _ (zt7 (zlw n) (fun fl X E g b f hb=>zi5 (fun st f hst=>zf6 n fl X E g st f hst) hb) g h1)
end
noncomputable def zbx(nN:Nat)(own:Bool)(fs:Fs)(ds:List D)(S:Sto):Out D:=match fs (ds.map (fun d=>some (false,d))++List.replicate (nN-ds.length) none) S with
 | .rt d S'=>.ok d S'
 | .nx _ S'=>if own then .bad else .ok .non S'
 | .ex c _ S'=>.exc c S'
 | _=>.bad
def zg2(G:Genv)(own:Bool)(N:List Str)(st:Stmt):Option Fs:=blk (zng G own 40 true (zak st).names N) (zaS st)
theorem zqf{P:Program}{wo:PySem.World}{K:PySem.W.Frag}{mg:Z6}{base:Heap}{cl:Cf}{G:Genv}{k:Nat}{x qual:Str}{st:Stmt}{f:Addr}{fd:FuncData}{N ps:List Str}{own:Bool}{fs:Fs}(F:Fun K x qual st f fd)(S:FnScope N ps (zak st))(hG:GOk cl G P wo K mg base k)
  (hk:K=cl.K) (hP:P=cl.P) (hW:wo=cl.wo) (hd:zg2 G own N st=some fs) (hc:autoParam (G.cod=none) yAW):FnOk P wo K mg base (CXE P wo) (k+1) f fd ps (zgh cl ps.length own (zbx N.length own fs)):=by
 obtain ⟨oc,od,kV,doc,pm,an,cdv,ct,osl,rfl,lk,hcd⟩:=F.ex;refine zsV lk hcd S (fun vs H Q E h=>h.1) fun A outer s H vs Q E hr hsp=>?_
 refine ⟨tS cl (fun _=>E) own fs,?_,?_⟩
 ·have g:Gd cl G k (zg5 (CXE P wo) P wo K mg base N qual (zak st) f cdv A outer s H E) (zak st).names N (fun _=>E) true :=
   ⟨⟨hG,hr,rfl,fun pins σ H1 s1 e s' I q=>zr4 pins σ H1 s1 e s' I q,rfl,hk,hP,hW,S.nd,fun x kd h=>⟨kd,h,.inl rfl⟩,(fun x h=>h),(fun c h=>by rw [hc] at h;cases h),(fun x h=>rfl)⟩,fun _=>rfl,S.kind,rfl,fun _=>PassesOwn.leaving,fun _ C pins σ H1 s1 e h' vs I mk q=>zkA C pins σ H1 s1 e h' vs I mk q,rfl,rfl⟩
  exact zi5 (fun st f hst=>zf6 40 true _ _ g st f hst) hd
 ·obtain ⟨hl,B,w,ds,S0,rfl,W,sh,q⟩:=hsp;have hdl:ds.length=vs.length:=sh.length.symm;refine ⟨B,w,ds.map (fun d=>some (false,d))++List.replicate (N.length-ds.length) none,S0,rfl,⟨W,?_,fun i o d hi=>?_⟩,?_⟩
  ·unfold L2.zcN;rw [yan,yan,yad,yad,yaI,yaI,hdl]
  ·by_cases hlt:i<ds.length
   ·rw [yat (by rw [yad];exact hlt),yao] at hi
    cases hdi:ds[i]? with
    | none=>rw [hdi] at hi;cases hi
    | some d' =>
     rw [hdi] at hi;cases hi;obtain ⟨v,e1,e2⟩:=sh.at hdi;refine ⟨v,?_,e2⟩;unfold L2.zcN;rw [yat (by rw [yad];omega),yao,e1];rfl
   ·rw [yay (by rw [yad];omega),yba] at hi
    split at hi<;>cases hi
  ·unfold zbx at q
   cases hf:fs (ds.map (fun d=>some (false,d))++List.replicate (N.length-ds.length) none) S0 with
   | bad=>rwa [hf] at q
   | bk _ _=>rw [hf] at q;exact q.elim
   | ct _ _=>rw [hf] at q;exact q.elim
   | rt d S'=>rwa [hf] at q
   | ex c ρ' S'=>rw [hf] at q;exact fun σ' w' R' F'=>q w' R'.wd F'
   | nx ρ' S' =>
    rw [hf] at q;dsimp only at q
    cases own with
    | true=>exact q.elim
    | false=>exact fun σ' w' R' F'=>q .non w' R'.wd F' .non
noncomputable def inC(j:Nat):Stmt->Stmt | .ClassDef _ _ _ b ..=>b.getD j (.Pass ⟨0,0,0,0⟩) | s=>s
end S2
namespace L2
open PySem PySem.Spec PyProof.Rows
noncomputable def znx(tabs:List (Addr×Addr))(H:Hp):Prop:=∀b,H b=none\/(∃o xs,H b=some (.frz o (.lst xs)))\/(H b=some (.tbl #[])/\b∈tabs.map (·.2))
def zkX{P:Program}{w:World}{K:PySem.W.Frag}{mg mb:Z6}{CX:CXT}{k:Nat}{fa a:Addr}{fd:FuncData}{x:Str}{sp:Sp}{s₁:Shared}{vs:List Value}{ns:List Int}{tabs:List (Addr×Addr)}
  (KX:K.In s₁.heap) (hns:s₁.heap.Ns mainGlobals mg) (hb:s₁.heap.Ns builtinsNs mb) (hbb:∀x:Str,x ≠ "__name__" -> mb x=bootBuiltins x) (hlim:s₁.heap.NoLimit) (hg:s₁.gens=#[])
  (ha:s₁.heap.get? a=some { cls:=.type "list",data:=.seq vs.toArray }) (hi:IntsAre vs ns) (hl:ns.length<=sizeLine) (hr:Room k callerA)
  (hT:PySem.W.TabsAt tabs s₁.heap) (hnt:PySem.W.noTabs K=true) (hbm:zny mg s₁.heap)
  (F:∀base:Heap,K.In base->base.Ns mainGlobals mg->zny mg base->(∀q∈tabs,PySem.W.CodeHd base q.1 q.2)->FnOk P w K mg base CX k fa fd [x] sp) (hbind:∀(s:Shared) (u:Value),BindsTo s fd ⟨[u],[]⟩ [(x,u)])
  (hsp:∀H:Hp,znx tabs H->(∀q∈tabs,H q.2=some (.tbl #[]))->(∀q∈tabs,q.2≠a)->SqL K H a (ns.map V.int)->sp [.ref a] H (fun v _=>v=.bl true) fun _ _ _=>False)
  (hCX:∀H e s',CX [] H s₁ (fun _ _ _=>False) e s'->False) :
  codeAny (model P w) callerA (.call (.ref fa) ⟨[.ref a],[]⟩) (fun r s'=>r=.ok (.ret (.bool true))/\OldK s₁.heap s'.heap/\s'.os=s₁.os/\AllBare s'.gens) s₁:=by
 have rv:=zgj hi;have lenV:=hi.length
 have tP:∀b∈tabs.map (·.2),s₁.heap.get? b=some (PySem.W.tabObj #[]):=fun b hb=>by
  obtain ⟨q,hq,rfl⟩:=yax.mp hb;exact (hT q hq).2
 have na:a ∉ tabs.map (·.2):=fun z=>by have e:=tP a z;rw [ha] at e;cases e
 have tK:∀b∈tabs.map (·.2),K.lookup b=none:=fun b hb=>by
  cases e:K.lookup b with
  | none=>rfl
  | some o =>
   have e1:=KX b o e;rw [tP b hb] at e1;cases e1;have h2:=yby.mp hnt _ (PySem.W.mem_of_lookupK e);exact absurd (show false=true from h2) yaU
 have core:∀H:Hp,znx tabs H->(∀q∈tabs,H q.2=some (.tbl #[]))->SqL K H a (ns.map V.int)->HOk P w H s₁.heap->(∀b,H b≠none->b=a\/b∈tabs.map (·.2))->(H a≠none->K.lookup a=none) →
   codeAny (model P w) callerA (.call (.ref fa) ⟨[.ref a],[]⟩) (fun r s'=>r=.ok (.ret (.bool true))/\OldK s₁.heap s'.heap/\s'.os=s₁.os/\AllBare s'.gens) s₁:=by
  intro H hO hTb hS hok hA hK;have zcJ:∀{b:Addr} {o:Obj},s₁.heap.get? b=some o->H b=none->(zlf s₁.heap H).get? b=some o:=fun e n=>zmZ e n
  have noX:∀{b:Addr} {o:Obj},s₁.heap.get? b=some o->(∀its n,o.data≠.seq its n)->o≠PySem.W.tabObj #[]->H b=none:=fun {b o} e d d2=>by
   cases q:H b with
   | none=>rfl
   | some u =>
    rcases hA b (by rw [q];simp) with e' | e'
    ·subst e';rw [ha] at e;cases e;exact absurd rfl (d _ _)
    ·rw [tP b e'] at e;cases e;exact absurd rfl d2
  have noA:∀{b:Addr} {o:Obj} {es:Array DictEntry} {ep:Nat},s₁.heap.get? b=some o->o.data=.dict es ep->H b=none:=fun {b o es ep} e d=>noX e (fun _ _ z=>by rw [d] at z;cases z) (fun z=>by rw [z] at d;cases d)
  have nsK:∀{b:Addr} {m:Z6},s₁.heap.Ns b m->(zlf s₁.heap H).Ns b m:=fun {b m} ⟨o,es,ep,e,d,r⟩=>⟨o,es,ep,zcJ e (noA e d),d,r⟩
  have hKb:K.In (zlf s₁.heap H):=fun b o e=>zcJ (KX b o e) (by
   cases q:H b with
   | none=>rfl
   | some u =>
    rcases hA b (by rw [q];simp) with e' | e'
    ·subst e';rw [hK (by rw [q];simp)] at e;cases e
    ·rw [tK b e'] at e;cases e)
  have hBm:zny mg (zlf s₁.heap H):=by
   obtain ⟨bm,ob,b1,b2,b3,b4,b5,b6⟩:=hbm;exact ⟨bm,ob,b1,b2,zcJ b3 (noX b3 (fun _ _ z=>by rw [b6] at z;cases z) (fun z=>by rw [z] at b6;cases b6)),b4,b5,b6⟩
  have hCd:∀q∈tabs,PySem.W.CodeHd (zlf s₁.heap H) q.1 q.2:=fun q hq=>by
   obtain ⟨o,us,file,tf,flags,tg,inF,text,tt,e,r1,r2,r⟩:=(hT q hq).1;exact ⟨o,us,file,tf,flags,tg,inF,text,tt,zcJ e (noX e (fun _ _ z=>by rw [r2] at z;cases z) (fun z=>by rw [z] at r1;cases r1)),r1,r2,r⟩
  have hM:Mod K mg (zlf s₁.heap H):=⟨hKb,nsK hns,⟨mb,nsK hb,hbb⟩,let ⟨mc,h1,h2⟩:=hlim;⟨mc,nsK h1,h2⟩⟩;have e0:Env0 P w K mg (zlf s₁.heap H) callerA [] s₁ H:=⟨rfl,hM,fun b o e=>zpH e,Nat.le_of_eq (zle _ _),trivial,fun b hb=>absurd (show b∈([]:List Addr) from hb) (by simp),hok,.of_eq hg⟩;refine ybu ((F _ hKb (nsK hns) hBm hCd).run callerA [] s₁ H ⟨[.ref a],[]⟩ [.ref a] [.ref a] _ _ hr e0 (hbind s₁ (.ref a)) (.cons rfl .nil) (hsp H hO hTb (fun q hq z=>na (z ▸ ycF hq)) hS)) fun r s' h=>?_
  cases r with
  | error e=>exact (hCX H e s' h).elim
  | ok fl =>
   cases fl with
   | next=>exact False.elim h
   | brk=>exact False.elim h
   | cont=>exact False.elim h
   | ret u =>
    obtain ⟨v,H',os,bare,un,hok',r',q⟩:=h;have q':v=.bl true:=q;subst q';obtain rfl:u=Value.bool true:=r';refine ⟨rfl,⟨fun b o e=>?_,fun b o e=>un.there b o e (by simp)⟩,os,bare⟩
    cases q:H b with
    | none=>exact .inl (un.keep b o e q (by intro z;exact absurd (show b∈([]:List Addr) from z) (by simp)) (by simp))
    | some u =>
     rcases hO b with z | ⟨ob,xs,z⟩ | ⟨z,hb⟩
     ·rw [q] at z;cases z
     ·have z2:=un.frzs b ob _ z;obtain ⟨e1,_⟩:=hok b _ z;obtain ⟨e2,_⟩:=hok' b _ z2;rw [e] at e1;cases e1;exact .inl e2
     ·obtain ⟨more,z2⟩:=un.tbls b _ z;have e2:s'.heap.get? b=some (PySem.W.tabObj (#[]++more)):=hok' b _ z2;have e1:=tP b hb;rw [e] at e1;cases e1;obtain ⟨p,hp,rfl⟩:=yax.mp hb;exact .inr (.inl ⟨((hT p hp).1.tab (hT p hp).2).isCodeTable,rfl,#[],more,rfl,e2⟩)
 have hTO:∀(H0:Hp),HOk P w H0 s₁.heap->(∀b,H0 b≠none->b=a)->HOk P w (fun b=>if b∈tabs.map (·.2) then some (.tbl #[]) else H0 b) s₁.heap:=fun H0 h0 hA b u q=>by
  have q':(if b∈tabs.map (·.2) then some (HO.tbl #[]) else H0 b)=some u:=q;split at q'
  ·rename_i hb;cases q';exact tP b hb
  ·refine (h0 b u q').stay (fun c v _ r=>r) (fun c r=>?_) fun c xs r=>?_
   ·show (if c∈tabs.map (·.2) then _ else H0 c)=_;rw [if_neg (fun z=>na (hA c (by rw [r];simp) ▸ z))];exact r
   ·show (if c∈tabs.map (·.2) then _ else H0 c)=_;rw [if_neg (fun z=>na (hA c (by rw [r];simp) ▸ z))];exact r
 cases hk:K.lookup a with
 | some o =>
  have e:=KX a o hk;rw [ha] at e;cases e;refine core (fun b=>if b∈tabs.map (·.2) then some (.tbl #[]) else none) (fun b=>?_) (fun q hq=>if_pos (ycF hq)) (.inr ⟨_,vs.toArray,_,hk,rfl,rfl,rfl,by rw [yak,lenV];exact hl,by simpa using rv⟩) (hTO (fun _=>none) (fun b u z=>by have z':(none:Option HO)=some u:=z;cases z') fun b z=>absurd rfl z) (fun b z=>?_) fun z=>absurd (if_neg na) z
  ·by_cases hb:b∈tabs.map (·.2)
   ·exact .inr (.inr ⟨if_pos hb,hb⟩)
   ·exact .inl (if_neg hb)
  ·by_cases hb:b∈tabs.map (·.2)
   ·exact .inr hb
   ·exact absurd (if_neg hb) z
 | none =>
  have h0:HOk P w (fun b=>if b=a then some (.frz { cls:=.type "list",data:=.seq vs.toArray } (.lst (ns.map V.int))) else none) s₁.heap:=fun b u z=>by
   by_cases hb:b=a
   ·have z':=(if_pos hb).symm.trans z;cases z';subst hb;exact ⟨ha,by rw [yad];exact hl,vs,_,rv,ha⟩
   ·have z':=(if_neg hb).symm.trans z;cases z'
  refine core (fun b=>if b∈tabs.map (·.2) then some (.tbl #[]) else if b=a then some (.frz { cls:=.type "list",data:=.seq vs.toArray } (.lst (ns.map V.int))) else none) (fun b=>?_) (fun q hq=>if_pos (ycF hq)) (.inl (.inr ⟨{ cls:=.type "list",data:=.seq vs.toArray },(if_neg na).trans (if_pos rfl)⟩)) (hTO _ h0 fun b z=>?_) (fun b z=>?_) fun _=>hk
  ·by_cases hb:b∈tabs.map (·.2)
   ·exact .inr (.inr ⟨if_pos hb,hb⟩)
   ·by_cases hb2:b=a
    ·exact .inr (.inl ⟨_,_,(if_neg hb).trans (if_pos hb2)⟩)
    ·exact .inl ((if_neg hb).trans (if_neg hb2))
  ·by_cases hb:b=a
   ·exact hb
   ·exact absurd (if_neg hb) z
  ·by_cases hb:b∈tabs.map (·.2)
   ·exact .inr hb
   ·by_cases hb2:b=a
    ·exact .inl hb2
    ·exact absurd ((if_neg hb).trans (if_neg hb2)) z
def zlW{l:PySem.W.OpenLaw}{n k:Nat}{q:Program}{loose:List Str}{XP:(Str->Option Value)->Heap->Prop}{YP:World->Heap->Prop}{d:DefRec}{K:Params->PySem.W.Frag}{CX:World->CXT}{sp:World->Sp}{x:Str}{tabs:List (Addr×Addr)}
  (hn:l.most=some n) (hn2:n<=sizeLine) (hdf:d.params.defaults=[]) (hr:Room k callerA)
  (hY:∀(w:World) (h:Heap),YP w h->(K w.params).In h) (hnt:∀w:World,PySem.W.noTabs (K w.params)=true)
  (hT:∀(w:World) (mg mb:Z6) (mean:ExcName->Option Value) (h:Heap),(K w.params).In h->Top q (PySem.W.looseW q loose) mean mg mb h->PySem.W.TabsAt tabs h)
  (F:∀(w:World) (mg:Z6) (fa:Addr) (h:Heap),(K w.params).In h->h.Ns mainGlobals mg->mg d.name=some (.ref fa) →
   ∃fd:FuncData,(∀(s:Shared) (u:Value),BindsTo s fd ⟨[u],[]⟩ [(x,u)]) ∧
    ∀base:Heap,(K w.params).In base->base.Ns mainGlobals mg->zny mg base->(∀q∈tabs,PySem.W.CodeHd base q.1 q.2)->FnOk l.prog w (K w.params) mg base (CX w) k fa fd [x] (sp w))
  (hsp:∀(w:World) (H:Hp) (a:Addr) (ns:List Int),ns.length<=n->znx tabs H->(∀q∈tabs,H q.2=some (.tbl #[]))->(∀q∈tabs,q.2≠a)->SqL (K w.params) H a (ns.map V.int)->sp w [.ref a] H (fun v _=>v=.bl true) fun _ _ _=>False)
  (hCX:∀(w:World) (H:Hp) (s:Shared) (e:Value) (s':Shared),CX w [] H s (fun _ _ _=>False) e s'->False) :
  PySem.W.WalkO q loose XP YP l.row.toRowW d [] (fun f vs=>PySem.call f vs):=by
 refine Att.zh3 hn hdf fun w s₀ s₁ mg mb fa o pm cd doc a vs ns G Y ho hd hcd hmg hobj hints hlen hg=>?_
 have KX:=hY w _ Y;obtain ⟨fd,hb,hF⟩:=F w mg fa _ KX G.T.g hmg;exact zkX KX G.T.g G.T.b G.T.builtins G.T.nolimit hg hobj hints (yau hlen hn2) hr (hT w mg mb _ _ KX G.T) (hnt w) G.T.bmain hF hb (fun H hO hTb hne hS=>hsp w H a ns hlen hO hTb hne hS) fun H e s'=>hCX w H s₁ e s'
end L2
namespace S2
open PySem PySem.Spec PyProof.Rows L2
structure Tab where
 con:List (Str×D)
 blt:List Str
 exc:List Str
 und:List (Str×Str)
 rz:List Str
 fk:List (Str×Str)
 df:List Str
 ds:List Str
noncomputable def ztD(rz exc:List Str)(c C:Str):Option Bool:=if rz.contains c then (if C = "ValueError" then some true else if exc.contains C then some (decide (C=c)||decide (C = "FloorError")) else none) else none
noncomputable def zjQ(l:List (Str×Str))(c C:Str):Bool:=l.contains (c,C)
structure Fn3 where
 cur:Str
 fs:List (Str×FnI)
 ms:List (Str×Str×FnI)
 ks:List (Str×List D×FnI)
def Gn(T:Tab)(F:Fn3):Genv:=⟨fun x=>T.con.lookup x,fun x=>F.fs.lookup x,fun x=>T.blt.contains x,fun x=>T.exc.contains x,zjQ T.und,ztD T.rz T.exc,⟨F.cur,zjQ T.fk,fun f=>T.df.contains f,fun m=>F.ms.lookup m,fun c=>F.ks.lookup c⟩,fun x=>T.ds.contains x,fun _=>none,none⟩
noncomputable def Fn3.fn(F:Fn3)(x:Str)(fi:FnI):Fn3:=⟨F.cur,(x,fi)::F.fs,F.ms,F.ks⟩
noncomputable def Fn3.mt(F:Fn3)(m c:Str)(fi:FnI):Fn3:=⟨F.cur,F.fs,(m,c,fi)::F.ms,F.ks⟩
noncomputable def Fn3.cls(F:Fn3)(c:Str)(dds:List D)(fi:FnI):Fn3:=⟨F.cur,F.fs,F.ms,(c,dds,fi)::F.ks⟩
noncomputable def Fn3.at(F:Fn3)(c:Str):Fn3:=⟨c,F.fs,F.ms,F.ks⟩
section
variable{cl:Cf}{T:Tab}{P:Program}{wo:PySem.World}{K:PySem.W.Frag}{mg:Z6}{base:Heap}{k:Nat}{fs:Fn3}
def zcc{α:Type}{a:α}{l:List (Str×α)}{b:α}(h:((x,a)::l).lookup y=some b):(y=x/\b=a)\/l.lookup y=some b:=by
 rw [yaB] at h
 cases e:y == x with
 | true=>rw [e] at h;cases h;exact .inl ⟨eq_of_beq e,rfl⟩
 | false=>rw [e] at h;exact .inr h
def zeF{α:Type}{p:α->Prop}:∀x∈([]:List α),p x:=fun _ h=>nomatch h
def zav{α:Type}{p:α->Prop}{a:α}{l:List α}(h:p a)(t:∀x∈l,p x):∀x∈a::l,p x:=fun x hx=>(yav.mp hx).elim (fun e=>e ▸ h) (t x)
theorem zgI{α:Type}{a:α}:∀{l:List (Str×α)},l.lookup x=some a->(x,a)∈l
 | [],h=>by cases h
 | (y,b)::l,h=>by
  rcases zcc h with ⟨rfl,rfl⟩ | h
  ·exact yaw
  ·exact yar _ (zgI h)
noncomputable def ztv(K:PySem.W.Frag)(cl:Cf)(exc:List Str)(c:Str):Prop:=PySem.W.ExcCls K (cl c)/\PySem.W.kitOne K (.ref (cl c)) (.type "ValueError")=some true/\∀C∈exc,PySem.W.kitOne K (.ref (cl c)) (.ref (cl C))=some (decide (C=c)||decide (C = "FloorError"))
def zxO(hc:∀p∈T.con,∃v u,mg p.1=some u/\zaX v u/\∀w,Shd cl w v p.2)(hb:∀x∈T.blt,mg x=none)(he:∀c∈T.exc,mg c=some (.ref (cl c))/\PySem.W.excIn K (cl c) bmV "ValueError.__new__" = true)(hu:∀p∈T.und,L2.zqH K (cl p.1) (cl p.2))(hx:∀c∈T.rz,ztv K cl T.exc c)(hfk:∀p∈T.fk,Cls cl.K (cl p.1)/\zci cl.K (cl p.1) p.2):GOk cl (Gn T ⟨"",[],[],[]⟩) P wo K mg base 0 where
 fk:=fun c f h=>hfk (c,f) (by simpa using (show T.fk.contains (c,f)=true from h))
 mt:=fun m c fi h=>by cases h
 mks:=fun c dds fi h=>by cases h
 tl:=fun _ _ _ h=>by cases h
 con:=fun x d h=>hc (x,d) (zgI h)
 fn:=fun x fi h=>by cases h
 blt:=fun x h=>hb x (by simpa using (show T.blt.contains x=true from h))
 exc:=fun c h=>he c (by simpa using (show T.exc.contains c=true from h))
 und:=fun c C h=>hu (c,C) (by simpa using (show T.und.contains (c,C)=true from h))
 isx:=fun c C b h=>by
  have h':ztD T.rz T.exc c C=some b:=h;unfold ztD at h';split at h'
  ·rename_i hc;obtain ⟨x1,x2,x3⟩:=hx c (by simpa using hc);refine ⟨x1,?_⟩;unfold clsV;split at h'
   ·rename_i hC;cases h';rw [if_pos hC];exact x2
   ·rename_i hC;rw [if_neg hC];split at h'
    ·rename_i hm;cases h';exact x3 C (by simpa using hm)
    ·cases h'
  ·cases h'
def GOk.add(g:GOk cl (Gn T fs) P wo K mg base k)(m:mg x=some (.ref f))(kp:PySem.W.keepIn K (.ref f)=true)(b:zcM K fd ps [])(F:FnOk P wo K mg base (CXE P wo) (k+1) f fd ps (zgh cl fi.ar fi.own fi.run)) :
  GOk cl (Gn T (fs.fn x fi)) P wo K mg base (k+1) where
 con:=g.con
 fn:=fun y fj h=>by
  rcases zcc h with ⟨rfl,rfl⟩ | h
  ·exact ⟨f,fd,ps,m,kp,b,F⟩
  ·obtain ⟨f',fd',ps',h1,h2,h3,h4⟩:=g.fn y fj h;exact ⟨f',fd',ps',h1,h2,h3,h4.mono (ya4 _)⟩
 blt:=g.blt
 exc:=g.exc
 und:=g.und
 isx:=g.isx
 fk:=g.fk
 tl:=fun _ _ _ h=>by cases h
 mt:=fun m c fi h=>by
  obtain ⟨f',fd',ps',h1,h2,h3,h4⟩:=g.mt m c fi h;exact ⟨f',fd',ps',h1,h2,h3,h4.mono (ya4 _)⟩
 mks:=fun c dds fi h=>by
  obtain ⟨f',fd',ps',dvs,ds,k',hk,z⟩:=g.mks c dds fi h;exact ⟨f',fd',ps',dvs,ds,k',Nat.le_succ_of_le hk,z⟩
theorem GOk.at(g:GOk cl (Gn T fs) P wo K mg base k)(c:Str):GOk cl (Gn T (fs.at c)) P wo K mg base k:=⟨g.con,g.fn,g.blt,g.exc,g.und,g.isx,g.fk,g.mt,g.mks,fun _ _ _ h=>by cases h⟩
def GOk.up(g:GOk cl (Gn T fs) P wo K mg base k)(hk:k<=k'):GOk cl (Gn T fs) P wo K mg base k' where
 con:=g.con
 fn:=fun y fj h=>by
  obtain ⟨f',fd',ps',h1,h2,h3,h4⟩:=g.fn y fj h;exact ⟨f',fd',ps',h1,h2,h3,h4.mono hk⟩
 blt:=g.blt
 exc:=g.exc
 und:=g.und
 isx:=g.isx
 fk:=g.fk
 tl:=fun _ _ _ h=>by cases h
 mt:=fun m c fi h=>by
  obtain ⟨f',fd',ps',h1,h2,h3,h4⟩:=g.mt m c fi h;exact ⟨f',fd',ps',h1,h2,h3,h4.mono hk⟩
 mks:=fun c dds fi h=>by
  obtain ⟨f',fd',ps',dvs,ds,j,hj,z⟩:=g.mks c dds fi h;exact ⟨f',fd',ps',dvs,ds,j,yau hj hk,z⟩
def GOk.addM(g:GOk cl (Gn T fs) P wo K mg base k)(cc:Cls K (cl c))(hm:Meth K (cl c) m f)(b:zcM K fd ps [])(F:FnOk P wo K mg base (CXE P wo) k f fd ps (zgh cl fi.ar fi.own fi.run)) :
  GOk cl (Gn T (fs.mt m c fi)) P wo K mg base k where
 con:=g.con
 fn:=g.fn
 blt:=g.blt
 exc:=g.exc
 und:=g.und
 isx:=g.isx
 fk:=g.fk
 tl:=fun _ _ _ h=>by cases h
 mt:=fun m' c' fi' h=>by
  rcases zcc h with ⟨rfl,e⟩ | h
  ·cases e;exact ⟨f,fd,ps,cc,hm,b,F⟩
  ·exact g.mt m' c' fi' h
 mks:=g.mks
def GOk.addK(g:GOk cl (Gn T fs) P wo K mg base k)(hk:k'+1<=k)(hm:mg c=some (.ref (cl c)))(M:Mk K (cl c) f)(b0:zcM K fd ps [])(bD:zcM K fd ps ds)(vd:Vals dvs ds)(sd:∀w,Shds cl w dvs dds)(F:FnOk P wo K mg base (CXE P wo) k' f fd ps (zgh cl fi.ar false fi.run)) :
  GOk cl (Gn T (fs.cls c dds fi)) P wo K mg base k where
 con:=g.con
 fn:=g.fn
 blt:=g.blt
 exc:=g.exc
 und:=g.und
 isx:=g.isx
 fk:=g.fk
 tl:=fun _ _ _ h=>by cases h
 mt:=g.mt
 mks:=fun c' dds' fi' h=>by
  rcases zcc h with ⟨rfl,e⟩ | h
  ·cases e;exact ⟨f,fd,ps,dvs,ds,k',hk,hm,M,b0,bD,vd,sd,F⟩
  ·exact g.mks c' dds' fi' h
def zlE{C:Addr}{b:List Value}{i:String}(x:PySem.W.excIn K C b i=true):(PySem.W.clsIn K C).isSome=true/\PySem.W.typeIn K (.ref C)=some (.type "type"):=by
 unfold PySem.W.excIn at x;split at x
 ·rename_i d cd sl e;refine ⟨?_,?_⟩
  ·unfold PySem.W.clsIn;rw [e];rfl
  ·show (K.lookup C).map (·.cls)=_;rw [e];rfl
 ·cases x
def zfD{C:Addr}{el:Value}{ed:Option Addr}{ec:ClassData}{es:Array (Option Value)}{m:List Value}{v:Value}(lk:K.lookup C=some ⟨el,ed,.cls ec,es⟩)(mr:ec.mro=.ref C::m):PySem.W.subIn K (.ref C) v=some ((Value.ref C::m).contains v):=by
 show PySem.W.mroIn K C v=_;unfold PySem.W.mroIn PySem.W.clsIn;rw [lk];show (if ec.mro.isEmpty then none else some (ec.mro.contains v))=_;rw [mr];rfl
def zky{a b:Addr}(h:a≠b):(Value.ref a == Value.ref b)=false:=Bool.eq_false_iff.mpr fun z=>h (Value.ref.inj (ybP.mp z))
theorem zpU{C F:Addr}{el:Value}{ed:Option Addr}{ec:ClassData}{es:Array (Option Value)}(lk:K.lookup C=some ⟨el,ed,.cls ec,es⟩)(mr:ec.mro=.ref C::.ref F::bmV):PySem.W.kitOne K (.ref C) (.type "ValueError")=some true:=by
 have h1:PySem.W.kitMeta "ValueError" = true:=by decide +kernel
 have h0:(Value.ref C == Value.type "ValueError")=false:=by with_unfolding_all rfl
 unfold PySem.W.kitOne PySem.W.kitCls;simp only [h0,h1,zfD lk mr];simp
def zpV{C D F:Addr}{el:Value}{ed:Option Addr}{ec:ClassData}{es:Array (Option Value)}{b:List Value}{i:String}(lk:K.lookup C=some ⟨el,ed,.cls ec,es⟩)(mr:ec.mro=.ref C::.ref F::bmV)(x:PySem.W.excIn K D b i=true):PySem.W.kitOne K (.ref C) (.ref D)=some (decide (D=C)||decide (D=F)):=by
 by_cases h:D=C
 ·subst h;unfold PySem.W.kitOne;rw [if_pos (ybx _)];simp
 ·obtain ⟨h1,h2⟩:=zlE x;have h0:=zky (fun z=>h z.symm:C≠D);unfold PySem.W.kitOne PySem.W.kitCls;simp only [h0,h1,h2,zfD lk mr];have e1:(Value.ref D == Value.ref C)=false:=zky h;simp only [yb9,e1,Bool.false_or,ybH,if_false,ybx,Bool.and_self,ycT,h,decide_false]
  by_cases h4:D=F
  ·subst h4;simp
  ·have e2:(Value.ref D == Value.ref F)=false:=zky h4;simp only [e2,Bool.false_or,h4,decide_false,Option.some.injEq]
   with_unfolding_all rfl
def zhK{c:ClassData}{C F:Addr}{m:List Value}(h:c.mro=.ref C::.ref F::m):c.mro.contains (.ref F)=true:=by
 rw [h,yb9,yb9,ybx,Bool.true_or,Bool.or_true]
def zoj{L:List (Str×Addr)}:∀{C:Str},C∈L.map (·.1)->∃a,L.lookup C=some a/\(C,a)∈L:=by
 induction L with
 | nil=>intro C h;simp at h
 | cons p L ih =>
  intro C h;rw [yaB]
  cases e:C == p.1 with
  | true=>exact ⟨p.2,rfl,by rw [eq_of_beq e];exact yaw⟩
  | false =>
   have:C∈L.map (·.1):=by
    rw [yaz,yav] at h
    rcases h with h | h
    ·rw [h] at e;simp at e
    ·exact h
   obtain ⟨a,h1,h2⟩:=ih this;exact ⟨a,h1,yar _ h2⟩
theorem zj7:∀{L:List (Str×Addr)},(L.map (·.2)).Nodup->∀{C c:Str} {a:Addr},(C,a)∈L->(c,a)∈L->C=c
 | [],_,_,_,_,h,_=>by simp at h
 | p::L,nd,C,c,a,h,h'=>by
  rw [yaz,ya6] at nd;rw [yav] at h h'
  rcases h with h | h<;>rcases h' with h' | h'
  ·rw [<-h'] at h;exact (Prod.mk.inj h).1
  ·exact absurd (yax.mpr ⟨_,h',by rw [<-h]⟩) nd.1
  ·exact absurd (yax.mpr ⟨_,h,by rw [<-h']⟩) nd.1
  ·exact zj7 nd.2 h h'
def ztq{L:List (Str×Addr)}(nd:(L.map (·.2)).Nodup){C c:Str}(hC:C∈L.map (·.1))(hc:c∈L.map (·.1)):(L.lookup C).getD 0=(L.lookup c).getD 0↔C=c:=by
 obtain ⟨a,h1,h2⟩:=zoj hC;obtain ⟨b,h3,h4⟩:=zoj hc;rw [h1,h3];constructor
 ·intro e;have:a=b:=e;subst this;exact zj7 nd h2 h4
 ·rintro rfl;rw [h1] at h3;cases h3;rfl
def zk7{c:Str}{cl:Cf}{exc:List Str}{F:Addr}{el:Value}{ed:Option Addr}{ec:ClassData}{es:Array (Option Value)}
  (lk:K.lookup (cl c)=some ⟨el,ed,.cls ec,es⟩) (mr:ec.mro=.ref (cl c)::.ref F::bmV) (hF:cl "FloorError" = F)
  (ga:PySem.W.findIn K (.ref (cl c)) "__getattribute__" = some (some (.builtin "BaseException.__getattribute__"))) (gt:PySem.W.findIn K (.ref (cl c)) "__getattr__" = some none) (cc:PySem.W.findIn K (.ref (cl c)) "__class__" = some (some (.builtin "object.__class__")))
  (hx:∀C∈exc,PySem.W.excIn K (cl C) bmV "ValueError.__new__" = true) (hi:∀C∈exc,(cl C=cl c↔C=c)/\(cl C=cl "FloorError" ↔ C = "FloorError")):ztv K cl exc c:=by
 refine ⟨⟨ga,gt,cc,?_,?_,_,_,_,_,lk⟩,zpU lk mr,fun C hC=>?_⟩
 ·rw [zfD lk mr];simp
 ·rw [zfD lk mr];simp
 ·rw [zpV lk mr (hx C hC)];obtain ⟨i1,i2⟩:=hi C hC;rw [hF] at i2;simp only [i1,i2]
end
noncomputable def zin(K:PySem.W.Frag)(tabs:List (Addr×Addr)):Sp:=fun vs H Q _=>∃(a:Addr) (ns:List Int),vs=[.ref a]/\ns.length<=63/\znx tabs H/\(∀q∈tabs,H q.2=some (.tbl #[]))/\(∀q∈tabs,q.2≠a)/\SqL K H a (ns.map V.int)/\∀H',Q (.bl true) H'
def zpP{cl:Cf}{tabs:List (Addr×Addr)}(hc:∀P q,cl.tabs P=some q->P∈tabs.map (·.2)){run:List D->Sto->Out D}(hr:∀l:List Int,l.length<=63->∃S,run [.scr l] []=.ok (.bl true) S):∀vs H Q E,zin cl.K tabs vs H Q E->zgh cl 1 false run vs H Q E:=by
 rintro vs H Q E ⟨a,ns,rfl,hl,hO,hT,hne,hS,q⟩
 have na:a ∉ tabs.map (·.2):=fun z=>by obtain ⟨p,hp,e⟩:=yax.mp z;exact hne p hp e
 refine ⟨rfl,⟨fun _=>none,fun _=>none⟩,⟨H,fun b=>if b∈tabs.map (·.2) then some .tab else none,[]⟩,[.scr ns],[],rfl,⟨(fun a o h=>by cases h),(fun a r h=>.inr rfl),rfl,(fun n ob h=>by simp at h),fun P w h=>?_⟩,.cons ?_ .nil,?_⟩
 ·have hP:=hc P w h;obtain ⟨p,hp,rfl⟩:=yax.mp hP;exact ⟨#[],hT p hp,if_pos hP,trivial,fun pos cv e=>by cases e⟩
 ·rcases hS with (hS | ⟨o,hS⟩) | hS
  ·rcases hO a with z | ⟨o,xs,z⟩ | ⟨z,_⟩
   ·rw [hS] at z;cases z
   ·rw [hS] at z;cases z
   ·rw [hS] at z;cases z
  ·exact .scr hS (if_neg na)
  ·exact .scrK fun H=>.inr hS
 ·obtain ⟨S',e⟩:=hr ns hl;rw [e];intro v w' _ _ r;have r':Shd cl w' v (.bl true):=r;cases r';exact q _
noncomputable abbrev Rn:=List D->Sto->Out D
structure FnT(K:PySem.W.Frag)(x q:Str)(st:Stmt)(f:Addr):Prop where
 ex:∃(oc:Value) (od:Option Addr) (kV dc pm:Value) (an:Option Addr) (cd ct:Value) (sl:Array (Option Value)),K.lookup f=some ⟨oc,od,.func (PySem.W.fnOf x q (za4 st) (zaS st) (zak st) .none kV dc pm an cd ct),sl⟩/\PySem.W.codeIn K cd q=true/\PySem.W.keepIn K (.ref f)=true/\PySem.W.isFn K (.ref f)=true
structure GFn(K:PySem.W.Frag)(x:Str)(st:Stmt):Prop where
 ex:∃f,PySem.W.nsIn K mainGlobals x=some (some (.ref f))/\FnT K x x st f
structure MFn(K:PySem.W.Frag)(C:Addr)(m q:Str)(st:Stmt):Prop where
 ex:∃f,PySem.W.findIn K (.ref C) m=some (some (.ref f))/\FnT K m q st f
noncomputable def BB(x q:Str)(st:Stmt)(ps:List Str):Prop:=∀(kV doc pm:Value) (an:Option Addr) (cdv ct:Value) (us:List Value),us.length=ps.length->bindArgs (PySem.W.fnOf x q (za4 st) (zaS st) (zak st) .none kV doc pm an cdv ct) ⟨us,[]⟩=pure (ps.zip us)
def bb0{p:List Value->Prop}(h:p []):∀us:List Value,us.length=0->p us:=fun us e=>by rw [ybA e];exact h
def bbS{n:Nat}{p:List Value->Prop}(h:∀a:Value,∀us:List Value,us.length=n->p (a::us)):∀us:List Value,us.length=n+1->p us:=fun us e=>by
 cases us with
 | nil=>cases e
 | cons a us=>exact h a us (Nat.succ.inj e)
def bb1{p:List Value->Prop}(h:∀a0:Value,p [a0]):∀us:List Value,us.length=1->p us:=bbS fun a0=>bb0 (h a0)
def bb2{p:List Value->Prop}(h:∀a0 a1:Value,p [a0,a1]):∀us:List Value,us.length=2->p us:=bbS fun a0=>bbS fun a1=>bb0 (h a0 a1)
def bb3{p:List Value->Prop}(h:∀a0 a1 a2:Value,p [a0,a1,a2]):∀us:List Value,us.length=3->p us:=bbS fun a0=>bbS fun a1=>bbS fun a2=>bb0 (h a0 a1 a2)
def bb4{p:List Value->Prop}(h:∀a0 a1 a2 a3:Value,p [a0,a1,a2,a3]):∀us:List Value,us.length=4->p us:=bbS fun a0=>bbS fun a1=>bbS fun a2=>bbS fun a3=>bb0 (h a0 a1 a2 a3)
def bb5{p:List Value->Prop}(h:∀a0 a1 a2 a3 a4:Value,p [a0,a1,a2,a3,a4]):∀us:List Value,us.length=5->p us:=bbS fun a0=>bbS fun a1=>bbS fun a2=>bbS fun a3=>bbS fun a4=>bb0 (h a0 a1 a2 a3 a4)
def bb6{p:List Value->Prop}(h:∀a0 a1 a2 a3 a4 a5:Value,p [a0,a1,a2,a3,a4,a5]):∀us:List Value,us.length=6->p us:=bbS fun a0=>bbS fun a1=>bbS fun a2=>bbS fun a3=>bbS fun a4=>bbS fun a5=>bb0 (h a0 a1 a2 a3 a4 a5)
section
variable{cl:Cf}{T:Tab}{P:Program}{wo:PySem.World}{K:PySem.W.Frag}{mg:Z6}{base:Heap}{k:Nat}{fs:Fn3}
def FnT.un{x q:Str}{st:Stmt}{f:Addr}{ps:List Str}(p:FnT K x q st f)(b:BB x q st ps):∃fd,Fun K x q st f fd/\zcM K fd ps []/\PySem.W.keepIn K (.ref f)=true/\PySem.W.isFn K (.ref f)=true:=by
 obtain ⟨oc,od,kV,dc,pm,an,cd,ct,sl,l,c,kp,i⟩:=p.ex;have U:=ziU (st:=st) l c kp;exact ⟨_,U,U.binds b,kp,i⟩
end
open PySem
open L2 hiding D
noncomputable def zdY:Fs :=
  (zao (sFz [] (zbn (zg0 (eUn (zeA "int") (zal 0)) (eUn zcV (eUn (zeA "bool") (zal 0))))))
  sNx)
noncomputable def zcr:List S2.D->Sto->Out S2.D:=zbx 1 false zdY
noncomputable def zbV:Fs :=
  (zao (sFz [] (zbn (zg0 (eUn (zeA "tuple") (zal 0)) (zc5 leD leD (zal 1) (zaE zcO [(zal 0)]) (zal 2)))))
  sNx)
noncomputable def zaM:List S2.D->Sto->Out S2.D:=zbx 3 false zbV
noncomputable def zdw:Fs :=
  (zao (sFz [0] (zbn (zg0 (eFn zcr [(zan 0)]) (zc5 leD leD (zah (.int 0)) (zal 0) (zah (.int 8))))))
  sNx)
noncomputable def zcA:List S2.D->Sto->Out S2.D:=zbx 1 false zdw
noncomputable def zeH:Fs :=
  (zao (sFz [0,0] (zbn (zg0 (eFn zaM [(zan 0),(zah (.int 4)),(zah (.int 4))]) (zaE zlV [(zc4 1 (.one 0) (zbl (zan 0)) zeY (eFn zcA [(zan 0)]) [])]))))
  sNx)
noncomputable def zcR:List S2.D->Sto->Out S2.D:=zbx 1 false zeH
noncomputable def zf2:Fs :=
  (zao (sFz [0] (sIf (eUn zcV (eFn zaM [(zan 0),(zah (.int 1)),(zah (.int 16))])) (zao (sFz [] (zbn (zah (.bl false)))) sNx) sNx))
  (zao (sFz [0,0] (zbn (zg0 (zaE zlV [(zc4 1 (.one 0) (zbl (zan 0)) zeY (eFn zcR [(zan 0)]) [])]) (zaj eqD (eUn zdv (zan 0)) (zaE zcO [(zal 0)])))))
  sNx))
noncomputable def zcz:List S2.D->Sto->Out S2.D:=zbx 1 false zf2
noncomputable def zcZ:Fs :=
  (zao (sFz [1] (zbn (zg0 (eFn zcr [(zan 1)]) (zc5 leD ltD (zah (.int 0)) (zal 1) (zaE zcO [(zal 0)])))))
  sNx)
noncomputable def zcS:List S2.D->Sto->Out S2.D:=zbx 2 false zcZ
noncomputable def zdM:Fs :=
  (zao (sFz [0,1] (zbn (eOr (zaj zlT (zal 1) (zah .non)) (eFn zcS [(zan 0),(zan 1)]))))
  sNx)
noncomputable def zcq:List S2.D->Sto->Out S2.D:=zbx 2 false zdM
noncomputable def zee:Fs :=
  (zao (sFz [1,1,0] (zbn (zg0 (eFn zaM [(zan 1),(zah (.int 1)),(zah (.int 6))]) (zaE zlV [(zc4 1 (.one 0) (zbl (zan 1)) zeY (eFn zcq [(zan 1),(zan 0)]) [0])]))))
  sNx)
noncomputable def zdc:List S2.D->Sto->Out S2.D:=zbx 2 false zee
noncomputable def zcv:Fs :=
  (zao (sFz [1] (sIf (eUn zcV (eFn zaM [(zan 1),(zah (.int 1)),(zah (.int 6))])) (zao (sFz [] (zbn (zah (.bl false)))) sNx) sNx))
  (zao (sFz [1,0] (sIf (eUn zcV (zaE zlV [(zc4 1 (.one 0) (zbl (zan 1)) zeY (eFn zdc [(zan 1),(zan 0)]) [0])])) (zao (sFz [] (zbn (zah (.bl false)))) sNx) sNx))
  (zao (sFz [1,1] (zbn (zaE zlV [(zc4 1 (.one 0) (zbl (zan 1)) zeY (zaj eqD (zaE zcO [(zal 0)]) (zaE zcO [(zaj ixD (zal 1) (zah (.int 0)))])) [1])])))
  sNx)))
noncomputable def zaZ:List S2.D->Sto->Out S2.D:=zbx 2 false zcv
noncomputable def zeG:Fs :=
  (zao (sFz [] (zcp 1 false (eIf (zaj gtD (zaE zcO [(zal 0)]) (zah (.int 0))) (zaE zcO [(zaj ixD (zal 0) (zah (.int 0)))]) (zah (.int 0)))))
  (zao (sFz [1] (zbn (zdk [(zaE zcO [(zal 0)]),(zan 1)])))
  sNx))
noncomputable def zb0:List S2.D->Sto->Out S2.D:=zbx 2 false zeG
noncomputable def zef:Fs :=
  (zao (sFz [0,1] (sIf (zaj neD (zaj ixD (eFn zb0 [(zan 0)]) (zah (.int 0))) (zaj ixD (eFn zb0 [(zan 1)]) (zah (.int 0)))) (zao (sFz [] (sRz "Unlike" [(zah (.str "the floors have not as many rows"))])) sNx) sNx))
  (zao (sFz [0,1] (zbn (zaE zcQ [(zc4 2 (.tup [0,1]) (zqU (zan 0) (zan 1)) zeY (zaj zb8 (zal 0) (zal 1)) [])])))
  sNx))
noncomputable def zbS:List S2.D->Sto->Out S2.D:=zbx 2 false zef
noncomputable def zf3:Fs :=
  (zao (sFz [0,1] (sIf (zaj neD (zaj ixD (eFn zb0 [(zan 0)]) (zah (.int 1))) (zaj ixD (eFn zb0 [(zan 1)]) (zah (.int 1)))) (zao (sFz [] (sRz "Unlike" [(zah (.str "the floors have not as many columns"))])) sNx) sNx))
  (zao (sFz [] (zbn (zaj zb8 (zal 0) (zal 1))))
  sNx))
noncomputable def zcB:List S2.D->Sto->Out S2.D:=zbx 2 false zf3
noncomputable def zgU:Fs :=
  (zao (sFz [] (sIf (eOr (eUn zcV (eUn (zeA "str") (zal 0))) (eUn zcV (zc5 leD leD (zah (.int 1)) (zaE zcO [(zal 0)]) (zah (.int 6))))) (zao (sFz [] (zbn (zah (.bl false)))) sNx) sNx))
  (zao (sFz [0] (zbn (zaE zlV [(zc4 1 (.one 0) (zbl (zan 0)) zeY (zc5 leD leD (zah (.str "a")) (zal 0) (zah (.str "z"))) [])])))
  sNx))
noncomputable def zdG:List S2.D->Sto->Out S2.D:=zbx 1 false zgU
noncomputable def zbM:Fs :=
  (zao (sFz [0] (sIf (eUn zcV (eFn zdG [(zan 0)])) (zao (sFz [] (sRz "NoName" [(zah (.str "this is no name"))])) sNx) sNx))
  sNx)
noncomputable def zaW:List S2.D->Sto->Out S2.D:=zbx 1 false zbM
noncomputable def zbN:Fs :=
  (zao (sFz [1] (sIf (eUn zcV (eFn zcz [(zan 1)])) (zao (sFz [] (sRz "Unlike" [(zah (.str "this is no set"))])) sNx) sNx))
  (zao (sFz [1] (zki "Album" "tiles" (zan 0) (zan 1)))
  (zao (sFz [] (zkj "Album" "named" 0))
  (zao (sFz [] (ze0 "Album" "done" 0))
  (zao (sFz [] (ze0 "Album" "undone" 0))
  sNx)))))
noncomputable def zaL:List S2.D->Sto->Out S2.D:=zbx 2 false zbN
noncomputable def za2:Fs :=
  (zao (sFz [] (sIf (zaj zlT (zal 2) (zah .non)) (zao (sFz [1] (zjj "Album" "named" 0 (zbw 1))) sNx) (zao (sFz [2] (zji "Album" "named" 0 (zbw 1) (zbw 2))) sNx)))
  sNx)
noncomputable def zax:List S2.D->Sto->Out S2.D:=zbx 3 false za2
noncomputable def zdZ:Fs :=
  (zao (sFz [1,2,2,3] (zjl "Album" "done" 0 [(zbw 1),(zbw 2),(zgA "Album" "named" 0 (zbw 2)),(zbw 3)]))
  (zao (sFz [] (ze0 "Album" "undone" 0))
  (zao (sFz [2,3] (zfF (zaR "Album" "name_floor" zax (zan 0) [(zan 2),(zan 3)])))
  sNx)))
noncomputable def zbX:List S2.D->Sto->Out S2.D:=zbx 4 false zdZ
noncomputable def zdy:Fs :=
  (zao (sFz [1] (zfF (eFn zaW [(zan 1)])))
  (zao (sFz [2] (sIf (eUn zcV (eFn zaZ [(zm9 "Album" "tiles" (zan 0)),(zan 2)])) (zao (sFz [] (sRz "Unlike" [(zah (.str "this is no floor of the set"))])) sNx) sNx))
  (zao (sFz [] (zcp 3 false (eQ (zmk "Album" "named" 0 (zbw 1)))))
  (zao (sFz [1,2] (zfF (zaR "Album" "do" zbX (zan 0) [(zah (.str "put")),(zan 1),(zan 2)])))
  (zao (sFz [3] (zbn (zan 3)))
  sNx)))))
noncomputable def zaD:List S2.D->Sto->Out S2.D:=zbx 4 false zdy
noncomputable def zbh:Fs :=
  (zao (sFz [1] (sIf (eOr (eUn zcV (eFn zdG [(zan 1)])) (eQ (ze2 "Album" "named" 0 (zbw 1)))) (zao (sFz [] (sRz "NoName" [(zah (.str "no floor has this name"))])) sNx) sNx))
  (zao (sFz [] (zbn (eQ (zpc "Album" "named" 0 (zbw 1)))))
  sNx))
noncomputable def zar:List S2.D->Sto->Out S2.D:=zbx 2 false zbh
noncomputable def zce:Fs :=
  (zao (sFz [1] (zcp 2 false (zaR "Album" "floor_of" zar (zan 0) [(zan 1)])))
  (zao (sFz [1] (zfF (zaR "Album" "do" zbX (zan 0) [(zah (.str "take")),(zan 1),(zah .non)])))
  (zao (sFz [2] (zbn (zan 2)))
  sNx)))
noncomputable def zay:List S2.D->Sto->Out S2.D:=zbx 3 false zce
noncomputable def zaI:Fs :=
  (zao (sFz [1] (zfF (eFn zaW [(zan 1)])))
  (zao (sFz [2] (zcp 5 false (zaR "Album" "floor_of" zar (zan 0) [(zan 2)])))
  (zao (sFz [3] (zcp 6 false (zaR "Album" "floor_of" zar (zan 0) [(zan 3)])))
  (zao (sFz [4,5,6,5,6] (zcp 7 false (eIf (zan 4) (eFn zbS [(zan 5),(zan 6)]) (eFn zcB [(zan 5),(zan 6)]))))
  (zao (sFz [7] (sIf (eUn zcV (eFn zaZ [(zm9 "Album" "tiles" (zan 0)),(zan 7)])) (zao (sFz [] (sRz "Unlike" [(zah (.str "both together are no floor"))])) sNx) sNx))
  (zao (sFz [1,7] (zfF (zaR "Album" "do" zbX (zan 0) [(zah (.str "join")),(zan 1),(zan 7)])))
  (zao (sFz [7] (zbn (zan 7)))
  sNx)))))))
noncomputable def zam:List S2.D->Sto->Out S2.D:=zbx 8 false zaI
noncomputable def zcG:Fs :=
  (zao (sFz [] (zbn (zjE "Album" "named" 0)))
  sNx)
noncomputable def zbT:List S2.D->Sto->Out S2.D:=zbx 1 true zcG
noncomputable def zcn:Fs :=
  (zao (sFz [] (zbn (zm9 "Album" "tiles" (zan 0))))
  sNx)
noncomputable def zbe:List S2.D->Sto->Out S2.D:=zbx 1 false zcn
noncomputable def zcF:Fs :=
  (zao (sFz [] (zbn (zdk [(zc3 "Album" "done" 0),(zc3 "Album" "undone" 0)])))
  sNx)
noncomputable def za7:List S2.D->Sto->Out S2.D:=zbx 1 false zcF
noncomputable def zb5:Fs :=
  (zao (sFz [] (sIf (zaj ltD (zal 1) (zaE zcO [(zal 0)])) (zao (sFz [] (zbn (zaj ixD (zal 0) (zal 1)))) sNx) sNx))
  (zao (sFz [] (sIf (zaj eqD (zal 0) (zgZ [])) (zao (sFz [] (zbn (zah (.int 0)))) sNx) sNx))
  (zao (sFz [] (zbn (zaj zb8 (zaj ziH (zaj ixD (zal 0) (zaj zn1 (zal 1) (zaE zcO [(zal 0)]))) (zah (.int 31))) (zal 1))))
  sNx)))
noncomputable def zbB:List S2.D->Sto->Out S2.D:=zbx 2 false zb5
noncomputable def zdx:Fs :=
  (zao (sFz [0,1] (zcp 3 false (zaj zn1 (zaj ziH (zaj zb8 (eFn zbB [(zan 0),(zan 1)]) (zaj ziH (zah (.int 6151)) (zaj zb8 (zal 1) (zah (.int 1))))) (zah (.int 40692))) (zah (.int 2147483399)))))
  (zao (sFz [] (zbn (zaj zn1 (zaj zn1 (zaj zb8 (zaj ziH (zal 3) (zal 3)) (zaj zs7 (zal 3) (zah (.int 31)))) (zah (.int 2147483629))) (zal 2))))
  sNx))
noncomputable def zaq:List S2.D->Sto->Out S2.D:=zbx 4 false zdx
noncomputable def zbf:Fs :=
  (zao (sFz [1,3,5,0] (zcp 6 false (zaE zcQ [(zc4 1 (.one 0) (zdO (zah (.int 4))) zeY (eFn zaq [(zan 4),(zaj zb8 (zaj zb8 (zaj zb8 (zal 1) (zaj ziH (zah (.int 4)) (zal 3))) (zah (.int 2))) (zal 0)),(zan 2)]) [1,3,5,0])]))) (zao (sFz [0] (sIf (zaj eqD (eFn zaq [(zan 0),(zaj zb8 (zaj zb8 (zal 1) (zah (.int 60))) (zal 5)),(zah (.int 3))]) (zah (.int 0))) (zao (sFz [] (zcp 6 false (zdk [(zaj ixD (zal 6) (zah (.int 0))),(zaj ixD (zal 6) (zah (.int 1))),(zaj ixD (zal 6) (zah (.int 0))),(zaj ixD (zal 6) (zah (.int 1)))]))) sNx) sNx)) (zao (sFz [] (sIf (zaj ziG (zal 6) (zal 4)) (zao (sFz [6] (znJ 4 (zan 6))) sNx) sNx)) sNx)))
noncomputable def zc0:Fs :=
  (zao (sFz [0,1] (zcp 3 false (zaj zb8 (zah (.int 2)) (eFn zaq [(zan 0),(zan 1),(zah (.int 2))]))))
  (zao (sFz [] (zcp 4 true (zgZ [])))
  (zao (sFz [0,2] (zjk (.one 5) (zdO (zaj zb8 (zah (.int 1)) (eFn zaq [(zan 0),(zaj zb8 (zal 1) (zah (.int 1))),(zan 2)]))) zbf))
  (zao (sFz [] (zbn (zaE zcQ [(zal 4)])))
  sNx))))
noncomputable def zca:List S2.D->Sto->Out S2.D:=zbx 7 false zc0
noncomputable def zbg:Fs :=
  (zao (sFz [0] (zcp 10 false (eFn zaq [(zan 0),(zaj zb8 (zaj zb8 (zal 1) (zaj ziH (zah (.int 7)) (zal 7))) (zal 9)),(zaj ziH (zaE zcO [(zal 2)]) (zal 5))]))) (zao (sFz [10] (znJ 8 (eIf (zaj ltD (zal 10) (zaE zcO [(zal 2)])) (zan 10) (zah .non)))) sNx))
noncomputable def zco:Fs :=
  (zao (sFz [] (zcp 8 true (zgZ []))) (zao (sFz [4] (zjk (.one 9) (zdO (zan 4)) zbg)) (zao (sFz [] (znJ 6 (zaE zcQ [(zal 8)]))) sNx)))
noncomputable def zc1:Fs :=
  (zao (sFz [] (zcp 6 true (zgZ [])))
  (zao (sFz [3] (zjk (.one 7) (zdO (zan 3)) zco))
  (zao (sFz [] (zbn (zaE zcQ [(zal 6)])))
  sNx)))
noncomputable def zcb:List S2.D->Sto->Out S2.D:=zbx 11 false zc1
noncomputable def zb4:Fs :=
  (zao (sFz [] (zcp 3 true (zgZ [(zah (.str "a")),(zah (.str "b")),(zah (.str "c")),(zah (.str "sheet"))])))
  (zao (sFz [0,1,0] (zl8 4 5 false (zaj ixD (zal 3) (eFn zaq [(zan 0),(zan 1),(zah (.int 4))])) false (eFn zaq [(zan 0),(zaj zb8 (zal 1) (zah (.int 1))),(zah (.int 6))])))
  (zao (sFz [] (sIf (zaj ltD (zal 5) (zah (.int 3))) (zao (sFz [0,0] (zl8 6 7 false (zaj zb8 (zah (.int 1)) (eFn zaq [(zan 0),(zaj zb8 (zal 1) (zah (.int 2))),(zah (.int 3))])) false (zaj zb8 (zah (.int 1)) (eFn zaq [(zan 0),(zaj zb8 (zal 1) (zah (.int 3))),(zah (.int 3))])))) (zao (sFz [4,0,2,6,7] (zbn (zdk [(zah (.str "put")),(zan 4),(eFn zcb [(zan 0),(zaj zb8 (zal 1) (zah (.int 10))),(zan 2),(zan 6),(zan 7),(zah (.int 2))])]))) sNx)) sNx))
  (zao (sFz [] (sIf (zaj eqD (zal 5) (zah (.int 3))) (zao (sFz [4] (zbn (zdk [(zah (.str "take")),(zan 4)]))) sNx) sNx))
  (zao (sFz [0,0] (zl8 8 9 false (zaj ixD (zal 3) (eFn zaq [(zan 0),(zaj zb8 (zal 1) (zah (.int 4))),(zah (.int 4))])) false (zaj ixD (zal 3) (eFn zaq [(zan 0),(zaj zb8 (zal 1) (zah (.int 5))),(zah (.int 4))]))))
  (zao (sFz [4,8,9,0] (zbn (zdk [(zah (.str "join")),(zan 4),(zan 8),(zan 9),(zaj eqD (eFn zaq [(zan 0),(zaj zb8 (zal 1) (zah (.int 6))),(zah (.int 2))]) (zah (.int 0)))])))
  sNx))))))
noncomputable def zbk:List S2.D->Sto->Out S2.D:=zbx 10 false zb4
noncomputable def zat:Fs :=
  (zao (sFz [0,1,0] (zcp 2 true (zaE zhW [(zc4 1 (.one 0) (zbl (zan 0)) (zaj neD (zal 0) (zaj ixD (zal 1) (zah (.int 1)))) (zdk [(zan 0),(zaj ixD (zal 2) (zal 0))]) [1,0])])))
  (zao (sFz [] (sIf (zaj eqD (zaj ixD (zal 1) (zah (.int 0))) (zah (.str "put"))) (zao (sFz [] (zeZ 2 (zaj ixD (zal 1) (zah (.int 1))) (zaj ixD (zal 1) (zah (.int 2))))) (zao (sFz [2] (zbn (zdk [(zan 2),(zaj inD (zaj ixD (zal 1) (zah (.int 1))) (zal 0))]))) sNx)) sNx))
  (zao (sFz [] (sIf (zaj eqD (zaj ixD (zal 1) (zah (.int 0))) (zah (.str "take"))) (zao (sFz [2,0] (zbn (eIf (zaj inD (zaj ixD (zal 1) (zah (.int 1))) (zal 0)) (zdk [(zan 2),(zaj ixD (zal 0) (zaj ixD (zal 1) (zah (.int 1))))]) (zdk [(zan 0),(zah (.str "no name"))])))) sNx) sNx))
  (zao (sFz [] (sIf (eOr (zaj ziG (zaj ixD (zal 1) (zah (.int 2))) (zal 0)) (zaj ziG (zaj ixD (zal 1) (zah (.int 3))) (zal 0))) (zao (sFz [0] (zbn (zdk [(zan 0),(zah (.str "no name"))]))) sNx) sNx))
  (zao (sFz [] (zek (.tup [3,4,5]) (zdk [(zaj ixD (zal 0) (zaj ixD (zal 1) (zah (.int 2)))),(zaj ixD (zal 0) (zaj ixD (zal 1) (zah (.int 3)))),(zaj ixD (zal 1) (zah (.int 4)))])))
  (zao (sFz [5,5] (sIf (eOr (zg0 (zan 5) (zaj neD (zaE zcO [(zal 3)]) (zaE zcO [(zal 4)]))) (zg0 (eUn zcV (zan 5)) (zaj neD (zaE zcO [(zaj ixD (zal 3) (zah (.int 0)))]) (zaE zcO [(zaj ixD (zal 4) (zah (.int 0)))])))) (zao (sFz [0] (zbn (zdk [(zan 0),(zah (.str "unlike"))]))) sNx) sNx))
  (zao (sFz [] (zcp 6 false (zaj zb8 (zal 3) (zal 4))))
  (zao (sFz [5] (sIf (zan 5) (zao (sFz [3,4] (zcp 6 false (zaE zcQ [(zc4 1 (.one 0) (zdO (zaE zcO [(zal 3)])) zeY (zaj zb8 (zaj ixD (zal 1) (zal 0)) (zaj ixD (zal 2) (zal 0))) [3,4])]))) sNx) sNx))
  (zao (sFz [] (sIf (eOr (zaj gtD (zaE zcO [(zal 6)]) (zah (.int 6))) (zaj gtD (zaE zcO [(zaj ixD (zal 6) (zah (.int 0)))]) (zah (.int 6)))) (zao (sFz [0] (zbn (zdk [(zan 0),(zah (.str "unlike"))]))) sNx) sNx))
  (zao (sFz [6] (zeZ 2 (zaj ixD (zal 1) (zah (.int 1))) (zan 6)))
  (zao (sFz [2,6] (zbn (zdk [(zan 2),(zan 6)])))
  sNx)))))))))))
noncomputable def zad:List S2.D->Sto->Out S2.D:=zbx 7 false zat
noncomputable def zcE:Fs :=
  (zao (sFz [0] (zbn (zaE zhW [(zc4 1 (.one 0) (zbl (zaR "Album" "names" zbT (zan 0) [])) zeY (zdk [(zan 0),(zaR "Album" "floor_of" zar (zan 1) [(zan 0)])]) [0])])))
  sNx)
noncomputable def zaN:List S2.D->Sto->Out S2.D:=zbx 1 true zcE
noncomputable def zcf:Fs :=
  (zao (sFz [] (sIf (zaj eqD (zc3 "Album" "done" 0) (zah (.int 0))) (zao (sFz [] (sRz "Nothing" [(zah (.str "there is nothing to take back"))])) sNx) sNx))
  (zao (sFz [] (zcp 1 false (zf5 "Album" "done" 0)))
  (zao (sFz [1] (zfG "Album" "undone" 0 (zbw 1)))
  (zao (sFz [] (zfF (zaR "Album" "name_floor" zax (zan 0) [(zaj ixD (zal 1) (zah (.int 1))),(zaj ixD (zal 1) (zah (.int 2)))])))
  (zao (sFz [] (zbn (zaj ixD (zal 1) (zah (.int 0)))))
  sNx)))))
noncomputable def zaA:List S2.D->Sto->Out S2.D:=zbx 2 false zcf
noncomputable def zcH:Fs :=
  (zao (sFz [] (sIf (zaj eqD (zc3 "Album" "undone" 0) (zah (.int 0))) (zao (sFz [] (sRz "Nothing" [(zah (.str "there is nothing to do again"))])) sNx) sNx))
  (zao (sFz [] (zcp 1 false (zf5 "Album" "undone" 0)))
  (zao (sFz [1] (zfG "Album" "done" 0 (zbw 1)))
  (zao (sFz [] (zfF (zaR "Album" "name_floor" zax (zan 0) [(zaj ixD (zal 1) (zah (.int 1))),(zaj ixD (zal 1) (zah (.int 3)))])))
  (zao (sFz [] (zbn (zaj ixD (zal 1) (zah (.int 0)))))
  sNx)))))
noncomputable def za8:List S2.D->Sto->Out S2.D:=zbx 2 false zcH
noncomputable def zc2:Fs :=
  (zao (sFz [] (zcp 1 false (eMk "Album" [] zaL [(zm9 "Album" "tiles" (zan 0))])))
  (zao (sFz [] (zqP "Album" "named" 1 "named" 0))
  (zao (sFz [] (zma "Album" "done" 1 "done" 0))
  (zao (sFz [] (zma "Album" "undone" 1 "undone" 0))
  (zao (sFz [1] (zbn (zan 1)))
  sNx)))))
noncomputable def zbF:List S2.D->Sto->Out S2.D:=zbx 2 false zc2
noncomputable def Fo.seq(b:Fs):Fo->Fo | .nx ρ' S'=>b ρ' S' | o=>o
def zuN(a b:Fs)(ρ:Env):Out D->Fo | .ok d S'=>(match isB d with | some true=>a ρ S' | some false=>b ρ S' | none=>.bad) | .exc x S'=>.ex x ρ S' | .bad=>.bad
noncomputable def zuP(i:Nat)(o:Bool)(ρ:Env):Out D->Fo | .ok d S'=>.nx (ρ.set i (some (o,d))) S' | .exc c S'=>.ex c ρ S' | .bad=>.bad
noncomputable def zwn(ρ:Env):Out D->Fo | .ok _ S'=>.nx ρ S' | .exc c S'=>.ex c ρ S' | .bad=>.bad
noncomputable def zuL(ρ:Env):Out D->Fo | .ok d S'=>.rt d S' | .exc c S'=>.ex c ρ S' | .bad=>.bad
def zp2(i:Nat)(ρ:Env)(l:List D):Out D->Fo
 | .ok d S'=>if zaK l.length then .nx (ρ.set i (some (true,.lst (l++[d])))) S' else .bad
 | .exc c S'=>.ex c ρ S' | .bad=>.bad
noncomputable def zwr(i:Nat)(f:Fe)(ρ:Env)(S:Sto):Option (Option (Bool×D))->Fo | some (some (true,.lst l))=>zp2 i ρ l (f ρ S) | _=>.bad
noncomputable def zpZ(i j:Nat)(o1 o2:Bool)(d1:D)(ρ:Env):Out D->Fo | .ok d2 S2=>.nx ((ρ.set i (some (o1,d1))).set j (some (o2,d2))) S2 | .exc c S'=>.ex c ρ S' | .bad=>.bad
noncomputable def zwj(i j:Nat)(o1 o2:Bool)(g:Fe)(ρ:Env):Out D->Fo | .ok d1 S1=>zpZ i j o1 o2 d1 ρ (g ρ S1) | .exc c S'=>.ex c ρ S' | .bad=>.bad
noncomputable def zuM(S:Sto):Option Env->Fo | some ρ'=>.nx ρ' S | none=>.bad
def zp1(t:Tg)(ρ:Env):Out D->Fo | .ok d S'=>zuM S' (t.put ρ d) | .exc c S'=>.ex c ρ S' | .bad=>.bad
noncomputable def zwl(t:Tg)(a:Fs)(ρ:Env):Out (List D)->Fo | .ok ds S'=>zeE t a ds ρ S' | .exc c S'=>.ex c ρ S' | .bad=>.bad
noncomputable def zwh(S:Sto):Option (Option (Bool×D))->Out D | some (some (false,d))=>.ok d S | _=>.bad
noncomputable def zwp(S:Sto):Option (Option (Bool×D))->Out D | some (some (_,d))=>.ok d S | _=>.bad
def kUn(u:D->Option D):Out D->Out D | .ok a S=>Out.of (u a) S | .exc c S=>.exc c S | .bad=>.bad
def zmU(u:D->D->Option D)(a:D):Out D->Out D | .ok b S=>Out.of (u a b) S | .exc c S=>.exc c S | .bad=>.bad
noncomputable def zwq(u:D->D->Option D)(g:Fe)(ρ:Env):Out D->Out D | .ok a S=>zmU u a (g ρ S) | .exc c S=>.exc c S | .bad=>.bad
def kIf(f g:Fe)(ρ:Env):Out D->Out D | .ok d S1=>(match isB d with | some true=>f ρ S1 | some false=>g ρ S1 | none=>.bad) | .exc c S=>.exc c S | .bad=>.bad
def zuQ(g:Fe)(ρ:Env):Out D->Out D | .ok d S1=>(match isB d with | some true=>g ρ S1 | some false=>.ok (.bl false) S1 | none=>.bad) | .exc c S=>.exc c S | .bad=>.bad
def kOr(g:Fe)(ρ:Env):Out D->Out D | .ok d S1=>(match isB d with | some true=>.ok (.bl true) S1 | some false=>g ρ S1 | none=>.bad) | .exc c S=>.exc c S | .bad=>.bad
noncomputable def ziR(d:D):Out (List D)->Out (List D) | .ok ds S=>.ok (d::ds) S | .exc c S=>.exc c S | .bad=>.bad
def zsL(fs:List Fe)(ρ:Env):Out D->Out (List D) | .ok d S=>ziR d (zau fs ρ S) | .exc c S=>.exc c S | .bad=>.bad
def zwi:Out (List D)->Out D | .ok ds S=>if zaK ds.length then .ok (.tup ds) S else .bad | .exc c S=>.exc c S | .bad=>.bad
def zwk:Out (List D)->Out D | .ok ds S=>if zaK ds.length then .ok (.lst ds) S else .bad | .exc c S=>.exc c S | .bad=>.bad
def zsM(u:List D->Option D):Out (List D)->Out D | .ok ds S=>Out.of (u ds) S | .exc c S=>.exc c S | .bad=>.bad
noncomputable def kFn(r:List D->Sto->Out D):Out (List D)->Out D | .ok ds S=>r ds S | .exc c S=>.exc c S | .bad=>.bad
def zex(v:D->D->Option D)(b:D):Out D->Out D | .ok c S=>Out.of (v b c) S | .exc c S=>.exc c S | .bad=>.bad
def zew(v:D->D->Option D)(h:Fe)(ρ:Env)(b:D)(S:Sto):Option D->Out D | some d=>(match isB d with | some true=>zex v b (h ρ S) | some false=>.ok (.bl false) S | none=>.bad) | none=>.bad
noncomputable def zfS(u v:D->D->Option D)(h:Fe)(ρ:Env)(a:D):Out D->Out D | .ok b S=>zew v h ρ b S (u a b) | .exc c S=>.exc c S | .bad=>.bad
noncomputable def zn3(u v:D->D->Option D)(g h:Fe)(ρ:Env):Out D->Out D | .ok a S=>zfS u v h ρ a (g ρ S) | .exc c S=>.exc c S | .bad=>.bad
def ziQ:Out D->Out (List D) | .ok (.str x) S=>.ok (znH x) S | .ok (.lst l) S=>.ok l S | .ok (.tup l) S=>.ok l S | .ok (.dic ds) S=>if zai ds then .ok ((zbI ds).map D.str) S else .bad | .ok _ _=>.bad | .exc c S=>.exc c S | .bad=>.bad
def zwg:Out (List D)->Out (List D) | .ok ds S1=>(match ds with | [.tup l,.tup k]=>.ok (zgi l k) S1 | _=>.bad) | .exc c S=>.exc c S | .bad=>.bad
def zsJ:Out (List D)->Out (List D) | .ok ds S1=>(match ds with | [.int j]=>if -1000000<=j/\j<=1000000 then .ok (zaF 0 j) S1 else .bad | _=>.bad) | .exc c S=>.exc c S | .bad=>.bad
def zk4:Out (List D)->Out D | .ok ys S2=>if zaK ys.length then .ok (.lst ys) S2 else .bad | _=>.bad
def zp0(tg:Tg)(c elt:Fe)(ρ0:Env):Out (List D)->Out D | .ok ds S1=>zk4 (zb6 tg c elt ρ0 ds S1) | .exc c S=>.exc c S | .bad=>.bad
noncomputable def zwo:Option (Option (Bool×D))->Option (Bool×D) | some (some (false,d))=>some (false,d) | _=>none
noncomputable def zuO(ρ:Env)(i:Nat):Option (Option (Bool×D))->Env | some (some (true,d))=>ρ.set i (some (false,d)) | _=>ρ
noncomputable def ztB(own:Bool):Fo->Out D | .rt d S'=>.ok d S' | .nx _ S'=>if own then .bad else .ok .non S' | .ex c _ S'=>.exc c S' | _=>.bad
def kRz(c:Str)(ρ:Env):Out (List D)->Fo | .ok ds S'=>if zaK ds.length then .ex c ρ S' else .bad | .exc x S'=>.ex x ρ S' | .bad=>.bad
section
variable{ρ:Env}{S:Sto}{f g h k c:Fe}{a b:Fs}
@[simp] def zvj:zao a b ρ S=(a ρ S).seq b:=by
 show (match a ρ S with | .nx ρ' S'=>b ρ' S' | o=>o)=_
 cases a ρ S<;>rfl
@[simp] def zvW:(Fo.nx ρ S).seq b=b ρ S:=(rfl)
@[simp] def zvV:(Fo.rt d S).seq b=.rt d S:=(rfl)
@[simp] def zvU:(Fo.ex x ρ S).seq b=.ex x ρ S:=(rfl)
@[simp] def ztR:zlq ρ S=.ok (.dic []) S:=(rfl)
def zkC{i:Nat}{fk fe:Fe}{ds:List (D×D)}{d:D}{x:Str}{S1 S2:Sto}(h:ρ[i]?=some (some (true,.dic ds)))(ho:zai ds=true)(hl:ds.length<=100000)(he:fe ρ S=.ok d S1)(hk:fk ρ S1=.ok (.str x) S2):zeZ i fk fe ρ S=.nx (ρ.set i (some (true,.dic (putS x d ds)))) S2:=by
 unfold zeZ zj8;rw [h];dsimp only;rw [ho,show zaK ds.length=true from yaE hl]
 show (match fe ρ S with
  | .ok d S1=>(match fk ρ S1 with
   | .ok k S2=>(match k with
    | .str x=>Fo.nx (ρ.set i (some (true,.dic (putS x d ds)))) S2
    | _=>.bad)
   | .exc c S2=>.ex c ρ S2 | .bad=>.bad)
  | .exc c S1=>.ex c ρ S1 | .bad=>.bad)=_
 rw [he];dsimp only;rw [hk]
@[simp] def zwJ:sFz is a ρ S=a (frz is ρ) S:=(rfl)
@[simp] def zvy:frz [] ρ=ρ:=(rfl)
@[simp] def zvx:frz (i::is) ρ=frz is (frz1 ρ i):=(rfl)
@[simp] def zwS(i:Nat):frz1 ρ i=zuO ρ i ρ[i]?:=(rfl)
@[simp] def zv7:zuO ρ i (some (some (true,d)))=ρ.set i (some (false,d)):=(rfl)
@[simp] def zv6:zuO ρ i (some (some (false,d)))=ρ:=(rfl)
@[simp] def zwH:sNx ρ S=.nx ρ S:=(rfl)
@[simp] def zvo:zcp i o f ρ S=zuP i o ρ (f ρ S):=(rfl)
@[simp] def zwc:zuP i o ρ (.ok d S)=.nx (ρ.set i (some (o,d))) S:=(rfl)
@[simp] def zwb:zuP i o ρ (.exc x S)=.ex x ρ S:=(rfl)
@[simp] def zvn:zfF f ρ S=zwn ρ (f ρ S):=(rfl)
@[simp] def zv8:zwn ρ (.ok d S)=.nx ρ S:=(rfl)
@[simp] def zvk:zbn f ρ S=zuL ρ (f ρ S):=(rfl)
@[simp] def zv2:zuL ρ (.ok d S)=.rt d S:=(rfl)
@[simp] def zv1:zuL ρ (.exc x S)=.ex x ρ S:=(rfl)
@[simp] def zwI:sIf c a b ρ S=zuN a b ρ (c ρ S):=(rfl)
@[simp] def zv5:zuN a b ρ (.ok (.bl true) S)=a ρ S:=(rfl)
@[simp] def zv4:zuN a b ρ (.ok (.bl false) S)=b ρ S:=(rfl)
@[simp] def zvp:znJ i f ρ S=zwr i f ρ S ρ[i]?:=(rfl)
@[simp] def zxG:zwr i f ρ S (some (some (true,.lst l)))=zp2 i ρ l (f ρ S):=(rfl)
@[simp] def zwd:zp2 i ρ l (.ok d S)=if zaK l.length then .nx (ρ.set i (some (true,.lst (l++[d])))) S else .bad:=(rfl)
@[simp] def zvl:zl8 i j o1 f o2 g ρ S=zwj i j o1 o2 g ρ (f ρ S):=(rfl)
@[simp] def zxn:zwj i j o1 o2 g ρ (.ok d S)=zpZ i j o1 o2 d ρ (g ρ S):=(rfl)
@[simp] def zv3:zpZ i j o1 o2 d ρ (.ok e S)=.nx ((ρ.set i (some (o1,d))).set j (some (o2,e))) S:=(rfl)
@[simp] def ztN:zek t f ρ S=zp1 t ρ (f ρ S):=by
 unfold zek zp1
 cases f ρ S with
 | ok d S'=>dsimp only;cases t.put ρ d<;>rfl
 | exc c S'=>rfl
 | bad=>rfl
@[simp] def zwa:zp1 t ρ (.ok d S)=zuM S (t.put ρ d):=(rfl)
@[simp] def zxm:zuM S (some ρ')=.nx ρ' S:=(rfl)
@[simp] def zvm:zjk t it a ρ S=zwl t a ρ (it ρ S):=(rfl)
@[simp] def zxx:zwl t a ρ (.ok ds S)=zeE t a ds ρ S:=(rfl)
@[simp] def zwG:sRz x fs ρ S=kRz x ρ (zau fs ρ S):=(rfl)
@[simp] def zx5:kRz x ρ (.ok ds S)=if zaK ds.length then .ex x ρ S else .bad:=(rfl)
@[simp] def zvs:(Tg.tup is).put ρ (.tup ds)=zd6 is ds ρ:=(rfl)
@[simp] def zvu:zd6 (i::is) (d::ds) ρ=zd6 is ds (ρ.set i (some (false,d))):=(rfl)
@[simp] def zvt:zd6 [] [] ρ=some ρ:=(rfl)
@[simp] def zjV:zan i ρ S=zwh S ρ[i]?:=(rfl)
@[simp] def zuG:zwh S (some (some (false,d)))=.ok d S:=(rfl)
@[simp] def zie:zal i ρ S=zwp S ρ[i]?:=(rfl)
@[simp] def zmT:zwp S (some (some (o,d)))=.ok d S:=(rfl)
@[simp] def zid:zah d ρ S=.ok d S:=(rfl)
@[simp] def zwT:eUn u f ρ S=kUn u (f ρ S):=by
 unfold eUn;cases f ρ S<;>rfl
@[simp] def zxk:kUn u (.ok d S)=Out.of (u d) S:=(rfl)
@[simp] def zif:zaj u f g ρ S=zwq u g ρ (f ρ S):=by
 unfold zaj
 cases f ρ S with
 | ok a S1=>show ((g ρ S1).bind fun b S2=>Out.of (u a b) S2)=zmU u a (g ρ S1);cases g ρ S1<;>rfl
 | exc c S=>rfl
 | bad=>rfl
@[simp] def ziO:zwq u g ρ (.ok d S)=zmU u d (g ρ S):=(rfl)
@[simp] def ziN:zmU u d (.ok e S)=Out.of (u d e) S:=(rfl)
@[simp] def zwW:eIf c f g ρ S=kIf f g ρ (c ρ S):=by
 unfold eIf;cases c ρ S<;>rfl
@[simp] def zxw:kIf f g ρ (.ok (.bl true) S)=f ρ S:=(rfl)
@[simp] def zxv:kIf f g ρ (.ok (.bl false) S)=g ρ S:=(rfl)
@[simp] def zvC:zg0 f g ρ S=zuQ g ρ (f ρ S):=by
 unfold zg0;cases f ρ S<;>rfl
@[simp] def zwf:zuQ g ρ (.ok (.bl true) S)=g ρ S:=(rfl)
@[simp] def zwe:zuQ g ρ (.ok (.bl false) S)=.ok (.bl false) S:=(rfl)
@[simp] def zwU:eOr f g ρ S=kOr g ρ (f ρ S):=by
 unfold eOr;cases f ρ S<;>rfl
@[simp] def zxp:kOr g ρ (.ok (.bl true) S)=.ok (.bl true) S:=(rfl)
@[simp] def zxo:kOr g ρ (.ok (.bl false) S)=g ρ S:=(rfl)
@[simp] def zoo:zau [] ρ S=.ok [] S:=(rfl)
@[simp] def ztP:zau (f::fs) ρ S=zsL fs ρ (f ρ S):=by
 show ((f ρ S).bind fun d S1=>(zau fs ρ S1).bind fun ds S2=>.ok (d::ds) S2)=_
 cases f ρ S with
 | ok a S1=>show ((zau fs ρ S1).bind fun ds S2=>.ok (a::ds) S2)=ziR a (zau fs ρ S1);cases zau fs ρ S1<;>rfl
 | exc c S=>rfl
 | bad=>rfl
@[simp] def zuI:zsL fs ρ (.ok d S)=ziR d (zau fs ρ S):=(rfl)
@[simp] def zuH:ziR d (.ok ds S)=.ok (d::ds) S:=(rfl)
@[simp] def zvz:zdk fs ρ S=zwi (zau fs ρ S):=by
 unfold zdk;cases zau fs ρ S<;>rfl
@[simp] def zxl:zwi (.ok ds S)=if zaK ds.length then .ok (.tup ds) S else .bad:=(rfl)
@[simp] def zvA:zgZ fs ρ S=zwk (zau fs ρ S):=by
 unfold zgZ;cases zau fs ρ S<;>rfl
@[simp] def zxr:zwk (.ok ds S)=if zaK ds.length then .ok (.lst ds) S else .bad:=(rfl)
@[simp] def ztS:zaE u fs ρ S=zsM u (zau fs ρ S):=by
 unfold zaE;cases zau fs ρ S<;>rfl
@[simp] def zuK:zsM u (.ok ds S)=Out.of (u ds) S:=(rfl)
@[simp] def zwX:eFn r fs ρ S=kFn r (zau fs ρ S):=by
 unfold eFn;cases zau fs ρ S<;>rfl
@[simp] def zxy:kFn r (.ok ds S)=r ds S:=(rfl)
@[simp] def ztx:zc5 u v f g h ρ S=zn3 u v g h ρ (f ρ S):=by
 show ((f ρ S).bind fun a S1=>(g ρ S1).bind fun b S2=>match (u a b).bind isB with
  | some true=>(h ρ S2).bind fun c S3=>Out.of (v b c) S3
  | some false=>.ok (.bl false) S2
  | none=>.bad)=_
 cases f ρ S with
 | ok a S1 =>
  show ((g ρ S1).bind fun b S2=>match (u a b).bind isB with
   | some true=>(h ρ S2).bind fun c S3=>Out.of (v b c) S3
   | some false=>.ok (.bl false) S2
   | none=>.bad)=zfS u v h ρ a (g ρ S1)
  cases g ρ S1 with
  | ok b S2 =>
   show (match (u a b).bind isB with
    | some true=>(h ρ S2).bind fun c S3=>Out.of (v b c) S3
    | some false=>.ok (.bl false) S2
    | none=>.bad)=zew v h ρ b S2 (u a b)
   cases hu:u a b with
   | none=>rfl
   | some d =>
    show (match isB d with
     | some true=>(h ρ S2).bind fun c S3=>Out.of (v b c) S3
     | some false=>.ok (.bl false) S2
     | none=>.bad)=(match isB d with | some true=>zex v b (h ρ S2) | some false=>.ok (.bl false) S2 | none=>.bad)
    cases hb:isB d with
    | none=>rfl
    | some x=>cases x with
     | true=>show ((h ρ S2).bind fun c S3=>Out.of (v b c) S3)=zex v b (h ρ S2);cases h ρ S2<;>rfl
     | false=>rfl
  | exc c S=>rfl
  | bad=>rfl
 | exc c S=>rfl
 | bad=>rfl
@[simp] def zxE:zn3 u v g h ρ (.ok d S)=zfS u v h ρ d (g ρ S):=(rfl)
@[simp] def zxD:zfS u v h ρ d (.ok e S)=zew v h ρ e S (u d e):=(rfl)
@[simp] def zxC:zew v h ρ e S (some (.bl true))=zex v e (h ρ S):=(rfl)
@[simp] def zxB:zew v h ρ e S (some (.bl false))=.ok (.bl false) S:=(rfl)
@[simp] def zxA:zex v e (.ok d S)=Out.of (v e d) S:=(rfl)
@[simp] def ztO:zbl f ρ S=ziQ (f ρ S):=by
 show ((f ρ S).bind fun d S1=>match d with | .str x=>.ok (znH x) S1 | .lst l=>.ok l S1 | .tup l=>.ok l S1 | .dic ds=>if zai ds then .ok ((zbI ds).map D.str) S1 else .bad | _=>.bad)=_
 cases f ρ S with
 | ok d S'=>cases d<;>rfl
 | exc c S'=>rfl
 | bad=>rfl
@[simp] def zxs{ds:List (D×D)}:ziQ (.ok (.dic ds) S)=if zai ds then .ok ((zbI ds).map D.str) S else .bad:=(rfl)
@[simp] def zvr{l:List D}:zkx (.lst l) (.int (-1))=some (.lst l.reverse):=(rfl)
@[simp] def zxu:ziQ (.ok (.lst l) S)=.ok l S:=(rfl)
@[simp] def zxt:ziQ (.ok (.tup l) S)=.ok l S:=(rfl)
@[simp] def zwE:zqU f g ρ S=zwg (zau [f,g] ρ S):=by
 unfold zqU;cases zau [f,g] ρ S<;>rfl
@[simp] def zvT{l k:List D}:zwg (.ok [.tup l,.tup k] S)=.ok (zgi l k) S:=(rfl)
@[simp] def zvq:zdO f ρ S=zsJ (zau [f] ρ S):=by
 unfold zdO;cases zau [f] ρ S<;>rfl
@[simp] def zv0:zsJ (.ok [.int j] S)=if -1000000<=j/\j<=1000000 then .ok (zaF 0 j) S else .bad:=(rfl)
@[simp] def zvD:zc4 n t it c f caps ρ S=zp0 t c f (zbO n caps ρ) (it ρ S):=by
 unfold zc4
 cases it ρ S with
 | ok ds S' =>
  simp only [Out.bind,zp0]
  cases zb6 t c f (zbO n caps ρ) ds S'<;>rfl
 | exc c S'=>rfl
 | bad=>rfl
@[simp] def zv9:zp0 t c f ρ0 (.ok ds S)=zk4 (zb6 t c f ρ0 ds S):=(rfl)
@[simp] def zuJ:zk4 (.ok ys S)=if zaK ys.length then .ok (.lst ys) S else .bad:=(rfl)
@[simp] def zqY:zbO n caps ρ=List.replicate n none++caps.map (zfw ρ):=(rfl)
@[simp] def zvE:zfw ρ i=zwo ρ[i]?:=(rfl)
@[simp] def zxF:zwo (some (some (false,d)))=some (false,d):=(rfl)
def zas:zbx n own fs ds S=ztB own (fs (ds.map (fun d=>some (false,d))++List.replicate (n-ds.length) none) S):=(rfl)
@[simp] def zvZ:ztB own (.rt d S)=.ok d S:=(rfl)
@[simp] def zvY:ztB false (.nx ρ S)=.ok .non S:=(rfl)
@[simp] def zvX:ztB own (.ex x ρ S)=.exc x S:=(rfl)
@[simp] def zwR{b:Bool}:isB (.bl b)=some b:=(rfl)
@[simp] def zwK{b:Bool}:zcV (.bl b)=some (.bl (!b)):=(rfl)
@[simp] def zwL:zmK (.int i)=some (.int (-i)):=(rfl)
@[simp] def zvG:zb8 (.int i) (.int j)=some (.int (i+j)):=(rfl)
@[simp] def zvF:zb8 (.tup x) (.tup y)=if zaK (x.length+y.length) then some (.tup (x++y)) else none:=(rfl)
@[simp] def zwF:zqO (.int i) (.int j)=some (.int (i-j)):=(rfl)
@[simp] def zwN:ziH (.int i) (.int j)=if zb3 i||zb3 j then some (.int (i*j)) else none:=(rfl)
@[simp] def zwO:zn1 (.int i) (.int j)=if 0<j then some (.int (i % j)) else none:=(rfl)
@[simp] def zwY:zs7 (.int i) (.int j)=if 0<j/\j<1073741824 then some (.int (i / j)) else none:=(rfl)
@[simp] def zx2:ltD (.int i) (.int j)=some (.bl (decide (i<j))):=(rfl)
@[simp] def zx3:leD (.int i) (.int j)=some (.bl (decide (i<=j))):=(rfl)
@[simp] def zx4:gtD (.int i) (.int j)=some (.bl (decide (j<i))):=(rfl)
@[simp] def zwQ:ixD (.lst l) (.int i)=atI l i:=(rfl)
@[simp] def zqX:ixD (.tup l) (.int i)=atI l i:=(rfl)
@[simp] def zwP:ixD (.scr l) (.int i)=(atI l i).map D.int:=(rfl)
@[simp] def zvw:zcO [.lst l]=some (.int l.length):=(rfl)
@[simp] def zd2:zcO [.tup l]=some (.int l.length):=(rfl)
@[simp] def zvv:zcO [.scr l]=some (.int l.length):=(rfl)
@[simp] def zvi:zcQ [.lst l]=some (.tup l):=(rfl)
@[simp] def ztM:zaK n=decide (n<=100000):=(rfl)
def zaf{α:Type}(xs:List α)(j:Nat):atI xs (j:Int)=xs[j]?:=by
 unfold atI ixN
 by_cases h:j<xs.length
 ·simp [h]
 ·simp [h]
@[simp] def ztK{α:Type}(xs:List α):atI xs 0=xs[0]?:=zaf xs 0
@[simp] def zva{α:Type}(xs:List α):atI xs 1=xs[1]?:=zaf xs 1
def zi6{α:Type}{xs:List α}(h:0<=i):atI xs i=xs[i.toNat]?:=by
 obtain ⟨n,rfl⟩:=ycd h;exact zaf xs n
end
theorem zfY(Iv:Nat->Env->Prop)(step:∀k d ρ,ds[k]?=some d->Iv k ρ->∃ρ1 ρ2,tg.put ρ d=some ρ1/\body ρ1 S=.nx ρ2 S/\Iv (k+1) ρ2)(h0:Iv 0 ρ):∃ρ',zeE tg body ds ρ S=.nx ρ' S/\Iv ds.length ρ':=by
 have go:∀(n:Nat) (es:List D) (k:Nat) (ρ:Env),es.length=n->ds.drop k=es->k+n=ds.length->Iv k ρ->∃ρ',zeE tg body es ρ S=.nx ρ' S/\Iv ds.length ρ':=by
  intro n
  induction n with
  | zero =>
   intro es k ρ hl he hk hi;obtain rfl:es=[]:=ybA hl;exact ⟨ρ,rfl,by rw [show ds.length=k by omega];exact hi⟩
  | succ n ih =>
   intro es k ρ hl he hk hi
   cases es with
   | nil=>cases hl
   | cons d es =>
    have hd:ds[k]?=some d:=by
     have:=congrArg (fun l=>l[0]?) he;rw [ybG] at this;simpa using this
    obtain ⟨ρ1,ρ2,e1,e2,hi2⟩:=step k d ρ hd hi;obtain ⟨ρ',e3,e4⟩:=ih es (k+1) ρ2 (by simpa using hl) (by rw [<-List.drop_drop,he];rfl) (by omega) hi2;refine ⟨ρ',?_,e4⟩;unfold zeE;rw [e1];dsimp only;rw [e2];exact e3
 exact go ds.length ds 0 ρ rfl (by simp) (by omega) h0
theorem zeR:∀{ds:List D},(∀d∈ds,∃ρ1,tg.put ρ0 d=some ρ1/\c ρ1 S=.ok (.bl (p d)) S/\(p d=true->elt ρ1 S=.ok (g d) S))->zb6 tg c elt ρ0 ds S=.ok ((ds.filter p).map g) S
 | [],_=>rfl
 | d::ds,h=>by
  obtain ⟨ρ1,e1,e2,e3⟩:=h d yaw;have ih:=zeR (ds:=ds) fun x hx=>h x (yar _ hx)
  unfold zb6;rw [e1];dsimp only;rw [e2]
  cases hp:p d with
  | true=>simp [e3 hp,ih,hp]
  | false=>simp [ih,hp]
def zbv(h:∀d∈ds,∃ρ1,tg.put ρ0 d=some ρ1/\elt ρ1 S=.ok (g d) S):zb6 tg zeY elt ρ0 ds S=.ok (ds.map g) S:=by
 have:=zeR (c:=zeY) (p:=fun _=>true) (tg:=tg) (elt:=elt) (ρ0:=ρ0) (S:=S) (g:=g) (ds:=ds) fun d hd=>by
  obtain ⟨ρ1,e1,e2⟩:=h d hd;exact ⟨ρ1,e1,rfl,fun _=>e2⟩
 rw [this,List.filter_eq_self.mpr (fun _ _=>rfl)]
mutual
noncomputable def D.pl:D->Bool
 | .non=>true
 | .int _=>true
 | .str _=>true
 | .tup l=>D.pls l
 | .lst l=>D.pls l
 | _=>false
noncomputable def D.pls:List D->Bool
 | []=>true
 | d::l=>d.pl&&D.pls l
end
theorem D.pls_iff:∀{l:List D},D.pls l=true↔∀d∈l,d.pl=true
 | []=>by simp [D.pls]
 | d::l=>by simp [D.pls,D.pls_iff (l:=l)]
mutual
theorem zgW:∀(d e:D),d.pl=true->e.pl=true->(d.py.eqv e.py=true↔d=e)
 | .non,e,_,h=>by cases e<;>simp [D.py,PyData.eqv,D.pl] at h ⊢
 | .int i,e,_,h=>by cases e<;>simp [D.py,PyData.eqv,D.pl] at h ⊢
 | .str x,e,_,h=>by cases e<;>simp [D.py,PyData.eqv,D.pl] at h ⊢
 | .tup l,e,hd,h=>by
  cases e with
  | tup k =>
   simp only [D.py,PyData.eqv,D.pl] at hd h ⊢;rw [zhR l k hd h];simp
  | _=>simp [D.py,PyData.eqv,D.pl] at h ⊢
 | .lst l,e,hd,h=>by
  cases e with
  | lst k =>
   simp only [D.py,PyData.eqv,D.pl] at hd h ⊢;rw [zhR l k hd h];simp
  | _=>simp [D.py,PyData.eqv,D.pl] at h ⊢
 | .bl _,_,hd,_=>by simp [D.pl] at hd
 | .dic _,_,hd,_=>by simp [D.pl] at hd
 | .ref _,_,hd,_=>by simp [D.pl] at hd
 | .exc _,_,hd,_=>by simp [D.pl] at hd
 | .scr _,_,hd,_=>by simp [D.pl] at hd
theorem zhR:∀(l k:List D),D.pls l=true->D.pls k=true->(PyData.eqvAll (D.pys l) (D.pys k)=true↔l=k)
 | [],[],_,_=>by simp [D.pys,PyData.eqvAll]
 | [],_::_,_,_=>by simp [D.pys,PyData.eqvAll]
 | _::_,[],_,_=>by simp [D.pys,PyData.eqvAll]
 | d::l,e::k,h1,h2=>by
  simp only [D.pls,yaa] at h1 h2;simp only [D.pys,PyData.eqvAll,yaa,List.cons.injEq];rw [zgW d e h1.1 h2.1,zhR l k h1.2 h2.2]
end
@[simp] def zlm:D.fit n (.int i)=true:=by cases n<;>rfl
@[simp] def zqj:D.fit n .non=true:=by cases n<;>rfl
@[simp] def zuY:D.fit (n+1) (.tup l)=D.fits n l:=(rfl)
@[simp] def ztF:D.fits n []=true:=by cases n<;>rfl
@[simp] def zs0:D.fits n (d::l)=(d.fit n&&D.fits n l):=by cases n<;>rfl
@[simp] def ztQ:eqD (.int i) (.int j)=some (.bl (decide (i=j))):=by
 unfold eqD zel;simp [D.py,PyData.eqv]
 cases h:(i == j)<;>simp_all
@[simp] def zwM:neD (.int i) (.int j)=some (.bl (!decide (i=j))):=by
 unfold neD zel;simp [D.py,PyData.eqv]
 cases h:(i == j)<;>simp_all
def zfo:eqD (.scr l) (.lst [])=some (.bl (decide (l=[]))):=by
 cases l with
 | nil=>rfl
 | cons a l=>simp [eqD,D.fit,D.fits,zel,D.py,D.pys,PyData.eqv,PyData.eqvAll]
noncomputable def zjI(l:List Int)(k:Int):Int:=if k<l.length then l.getD k.toNat 0 else if l=[] then 0 else l.getD (k % l.length).toNat 0*31+k
def za3(l:List Int)(k:Int)(many:Int):Int :=
 let d:=(zjI l k+6151*(k+1))*40692 % 2147483399
 (d*d+d / 31) % 2147483629 % many
def zbt(l:List Int)(k:Int)(h:0<many):0<=za3 l k many/\za3 l k many<many:=⟨ycA _ (by omega),yb7 _ h⟩
@[simp] def zwv:zb3 31=true:=by decide
@[simp] def ztG:zb3 6151=true:=by decide
@[simp] def zs3:zb3 40692=true:=by decide
theorem zs2(h0:-(2 ^ 64)<i)(h:i<2 ^ 64):zb3 i=true:=by unfold zb3;simp;omega
theorem zme(hk:0<=k):zbB [.scr l,.int k] S=.ok (.int (zjI l k)) S:=by
 unfold zjI
 by_cases h:k<l.length
 ·have hx:l[k.toNat]?=some l[k.toNat]:=yac (by omega);rw [if_pos h,yaL,hx];simp [zbB,zas,zb5,h,zi6 hk,hx]
 ·by_cases h0:l=[]
  ·subst h0;simp [zbB,zas,zb5,zfo,show ¬ k<0 by omega]
  ·have hl:0<l.length:=by cases l with | nil=>exact absurd rfl h0 | cons _ _=>simp
   have hm0:0<=k % (l.length:Int):=ycA _ (by omega);have hm1:k % (l.length:Int)<l.length:=yb7 _ (by omega);have hx:l[(k % (l.length:Int)).toNat]?=some (l[(k % (l.length:Int)).toNat]'(by omega)):=yac (by omega);rw [if_neg h,if_neg h0,yaL,hx];simp [zbB,zas,zb5,h,h0,zfo,zi6 hm0,hx,hl]
theorem za1(hk:0<=k)(hm:0<many):zaq [.scr l,.int k,.int many] S=.ok (.int (za3 l k many)) S:=by
 unfold za3;have h0:0<=(zjI l k+6151*(k+1))*40692 % 2147483399:=ycA _ (by omega);have h1:(zjI l k+6151*(k+1))*40692 % 2147483399<2147483399:=yb7 _ (by omega);have hf:zb3 ((zjI l k+6151*(k+1))*40692 % 2147483399)=true:=zs2 (by omega) (by omega);simp [zaq,zas,zdx,zme hk,hf,hm]
noncomputable def zac(t:List Int):D:=.tup (t.map D.int)
def zmY{t u:List Int}:t.map D.int=u.map D.int↔t=u:=by
 constructor
 ·intro h
  induction t generalizing u with
  | nil=>cases u with | nil=>rfl | cons _ _=>cases h
  | cons a t ih=>cases u with
   | nil=>cases h
   | cons b u =>
    simp only [yaz,List.cons.injEq,D.int.injEq] at h;rw [h.1,ih h.2]
 ·rintro rfl;rfl
def zl1:zac t=zac u↔t=u:=by unfold zac;rw [D.tup.injEq];exact zmY
def zmr{t:List Int}:D.pls (t.map D.int)=true:=by rw [D.pls_iff];intro d hd;obtain ⟨i,_,rfl⟩:=yax.mp hd;rfl
def zhE:(zac t).pl=true:=zmr
def zll{t:List Int}:D.fits n (t.map D.int)=true:=by rw [D.fits_iff];intro d hd;obtain ⟨i,_,rfl⟩:=yax.mp hd;exact zlm
def zf0:(zac t).fit (n+1)=true:=zll
theorem zn2:∀{l:List D},d.pl=true->D.pls l=true->(zjr d l=true↔d∈l)
 | [],_,_=>by simp [zjr]
 | e::l,h,hl=>by
  simp only [D.pls,yaa] at hl;have ih:=zn2 (d:=d) (l:=l) h hl.2;have e1:=zgW e d hl.1 h;unfold zjr;simp only [ycS,ycB,yav];unfold zjr at ih;rw [ih];unfold zel;rw [e1]
  constructor<;>(intro z;rcases z with z | z<;>simp [z])
def zgH{ts:Z2}:ziG (zac t) (.lst (ts.map zac))=some (.bl (!decide (t∈ts))):=by
 have f1:(zac t).fit 8=true:=zf0
 have f2:D.fits 8 (ts.map zac)=true:=by rw [D.fits_iff];intro d hd;obtain ⟨i,_,rfl⟩:=yax.mp hd;exact zf0
 have p2:D.pls (ts.map zac)=true:=by rw [D.pls_iff];intro d hd;obtain ⟨i,_,rfl⟩:=yax.mp hd;exact zhE
 have m:=zn2 (d:=zac t) zhE p2
 have:(zac t∈ts.map zac)↔t∈ts:=by
  rw [yax];constructor
  ·rintro ⟨u,hu,e⟩;rw [<-zl1.mp e];exact hu
  ·intro h;exact ⟨t,h,rfl⟩
 rw [this] at m;unfold ziG;simp only [zkc,f1,f2,Bool.and_self,ycT,Option.some.injEq,D.bl.injEq];congr 1
 by_cases h:t∈ts
 ·rw [m.mpr h];simp [h]
 ·cases hm:zjr (zac t) (ts.map zac)
  ·simp [h]
  ·exact absurd (m.mp hm) h
structure Tiles(most:Int)(ts:Z2):Prop where
 ne:1<=ts.length
 le:(ts.length:Int)<=most
 four:∀t∈ts,t.length=4
 col:∀t∈ts,∀c∈t,0<=c/\c<3
 nd:ts.Nodup
def zbE{k:Nat}(h:(zaF 0 hi)[k]?=some d):d=.int k/\(k:Int)<hi:=by
 unfold zaF at h;rw [yao] at h
 cases hr:(List.range (hi-0).toNat)[k]? with
 | none=>rw [hr] at h;cases h
 | some j =>
  rw [hr] at h;obtain ⟨h1,h2⟩:=yai.mp hr;simp at h1 h2;subst h2;simp at h;exact ⟨h.symm,by omega⟩
@[simp] def zgz:(zaF 0 hi).length=hi.toNat:=by unfold zaF;simp
def zkz(h:d∈zaF 0 hi):∃k:Nat,d=.int k/\(k:Int)<hi:=by
 obtain ⟨k,hk⟩:=List.getElem?_of_mem h;exact ⟨k,zbE hk⟩
def zfO(h:d.pl=true)(f:d.fit 9=true):neD d d=some (.bl false):=by
 unfold neD zel;rw [f,(zgW d d h h).mpr rfl];rfl
def zrH:zaF 0 4=[.int 0,.int 1,.int 2,.int 3]:=by rfl
@[simp] def zxU:zb3 4=true:=by decide
@[simp] def zxT:zb3 7=true:=by decide
theorem zow(ha:0<=at')(hk:0<=k)(hc:0<col)(hc3:col<=3)(hn:ts.length<=1000) :
  ∃t y',t.length=4/\(∀c∈t,0<=c/\c<3)/\zbf [some (false,.scr l),some (false,.int at'),some (false,.int most),some (false,.int col),some (true,.lst (ts.map zac)),some (false,.int k),y] S
   = .nx [some (false,.scr l),some (false,.int at'),some (false,.int most),some (false,.int col),some (true,.lst ((if t∈ts then ts else ts++[t]).map zac)),some (false,.int k),y'] S:=by
 have hcomp:∀ρ0:Env,ρ0=[none,some (false,.int at'),some (false,.int col),some (false,.int k),some (false,.scr l)]->zb6 (.one 0) zeY (eFn zaq [(zan 4),(zaj zb8 (zaj zb8 (zaj zb8 (zal 1) (zaj ziH (zah (.int 4)) (zal 3))) (zah (.int 2))) (zal 0)),(zan 2)]) ρ0 (zaF 0 4) S
   = .ok ([za3 l (at'+4*k+2+0) col,za3 l (at'+4*k+2+1) col,za3 l (at'+4*k+2+2) col,za3 l (at'+4*k+2+3) col].map D.int) S:=by
  rintro _ rfl;rw [zrH,zbv (g:=fun d=>match d with | .int i=>.int (za3 l (at'+4*k+2+i) col) | _=>.non)]
  ·rfl
  ·intro d hd;simp only [yav,ycs,or_false] at hd
   rcases hd with rfl | rfl | rfl | rfl<;>exact ⟨_,rfl,by simp;rw [za1 (by omega) hc]⟩
 have b0:=zbt l (at'+4*k+2+0) hc;have b1:=zbt l (at'+4*k+2+1) hc;have b2:=zbt l (at'+4*k+2+2) hc;have b3:=zbt l (at'+4*k+2+3) hc;generalize za3 l (at'+4*k+2+0) col=p0 at *;generalize za3 l (at'+4*k+2+1) col=p1 at *;generalize za3 l (at'+4*k+2+2) col=p2 at *;generalize za3 l (at'+4*k+2+3) col=p3 at *
 have fin:∀t:List Int,(zao (sFz [] (sIf (zaj ziG (zal 6) (zal 4)) (zao (sFz [6] (znJ 4 (zan 6))) sNx) sNx)) sNx) [some (false,.scr l),some (false,.int at'),some (false,.int most),some (false,.int col),some (true,.lst (ts.map zac)),some (false,.int k),some (false,zac t)] S
   = .nx [some (false,.scr l),some (false,.int at'),some (false,.int most),some (false,.int col),some (true,.lst ((if t∈ts then ts else ts++[t]).map zac)),some (false,.int k),some (false,zac t)] S:=by
  intro t
  by_cases h:t∈ts
  ·simp [zgH,h]
  ·simp [zgH,h,show ts.length<=100000 by omega]
 by_cases h3:za3 l (at'+60+k) 3=0
 ·refine ⟨[p0,p1,p0,p1],some (false,zac [p0,p1,p0,p1]),rfl,by simp;omega,?_⟩;rw [<-fin];simp [zbf,hcomp,za1 (show 0<=at'+60+k by omega) (show (0:Int)<3 by omega),h3];rfl
 ·refine ⟨[p0,p1,p2,p3],some (false,zac [p0,p1,p2,p3]),rfl,by simp;omega,?_⟩;rw [<-fin];simp [zbf,hcomp,za1 (show 0<=at'+60+k by omega) (show (0:Int)<3 by omega),h3];rfl
theorem zkk(ha:0<=at')(hm:0<most)(hm2:most<=100):∃ts,Tiles most ts/\zca [.scr l,.int at',.int most] S=.ok (.tup (ts.map zac)) S:=by
 have b:=zbt l at' (many:=2) (by omega);have n:=zbt l (at'+1) hm;have p1:=za1 (l:=l) (S:=S) ha (show (0:Int)<2 by omega);have p2:=za1 (l:=l) (S:=S) (show 0<=at'+1 by omega) hm;generalize za3 l at' 2=c at *;generalize za3 l (at'+1) most=m at *
 obtain ⟨ρ',e,ts,x,y,rfl,h1,h2,h3,h4,h5⟩:=zfY (tg:=.one 5) (body:=zbf) (ds:=zaF 0 (1+m)) (S:=S) (fun k ρ=>∃ts x y,ρ=[some (false,.scr l),some (false,.int at'),some (false,.int most),some (false,.int (2+c)),some (true,.lst (ts.map zac)),x,y]/\ts.length<=k/\(0<k->1<=ts.length)/\(∀t∈ts,t.length=4)/\(∀t∈ts,∀c∈t,0<=c/\c<3)/\ts.Nodup) (by
   rintro k d ρ hd ⟨ts,x,y,rfl,h1,h2,h3,h4,h5⟩;obtain ⟨rfl,hk⟩:=zbE hd;obtain ⟨t,y',a1,a2,a3⟩:=zow (l:=l) (at':=at') (most:=most) (col:=2+c) (k:=k) (S:=S) (ts:=ts) (y:=y) ha (by omega) (by omega) (by omega) (by omega);refine ⟨_,_,rfl,a3,_,_,_,rfl,?_,?_,?_,?_,?_⟩
   ·split<;>(try simp)<;>omega
   ·intro _;split
    ·rename_i h;exact List.length_pos_of_mem h
    ·simp
   ·intro u hu;split at hu
    ·exact h3 u hu
    ·rw [yaV,yaF] at hu
     rcases hu with hu | rfl
     ·exact h3 u hu
     ·exact a1
   ·intro u hu;split at hu
    ·exact h4 u hu
    ·rw [yaV,yaF] at hu
     rcases hu with hu | rfl
     ·exact h4 u hu
     ·exact a2
   ·split
    ·exact h5
    ·rename_i h;rw [ycj];refine ⟨h5,by simp,?_⟩
     intro a ha b hb;rw [yaF] at hb;subst hb;rintro rfl;exact h ha)
  (ρ:=[some (false,.scr l),some (false,.int at'),some (false,.int most),some (false,.int (2+c)),some (true,.lst []),none,none]) ⟨[],none,none,rfl,by simp,by simp,by simp,by simp,by simp⟩
 rw [zgz] at h1 h2;refine ⟨ts,⟨h2 (by omega),by omega,h3,h4,h5⟩,?_⟩;simp [zca,zas,zc0,p1,p2,show -1000000<=1+m/\1+m<=1000000 by omega,e]
noncomputable def oD:Option Int->D | none=>.non | some i=>.int i
noncomputable def zjR(c:Nat)(g:Nat->Option Int):List D:=(List.range c).map fun j=>oD (g j)
def zug(c:Nat)(g:Nat->Option Int):D:=.tup (zjR c g)
noncomputable def zm3(r c:Nat)(g:Z1):List D:=(List.range r).map fun i=>zug c (g i)
def flr(r c:Nat)(g:Z1):D:=.tup (zm3 r c g)
@[simp] def zmg:(zjR c g).length=c:=by simp [zjR]
@[simp] def ztE:(zm3 r c g).length=r:=by simp [zm3]
def zkw:zjR (k+1) g=zjR k g++[oD (g k)]:=by simp [zjR,ycC]
def zlk:zm3 (k+1) c g=zm3 k c g++[zug c (g k)]:=by simp [zm3,ycC]
def zkO(l:List Int)(at' n m:Int)(i j:Nat):Option Int:=if za3 l (at'+7*i+j) (n*m)<n then some (za3 l (at'+7*i+j) (n*m)) else none
theorem zso(h:0<n*m):∀x,zkO l at' n m i j=some x->0<=x/\x<n:=by
 intro x e;unfold zkO at e;have:=zbt l (at'+7*i+j) h;split at e
 ·cases e;omega
 ·cases e
theorem zm4{l:List Int}{at' m:Int}{ts:List D}{r c:Nat}{i:Nat}{S:Sto}{A B Mm:Option (Bool×D)}{y:Option (Bool×D)}{z:Option (Bool×D)}(ha:0<=at')(hp:0<(ts.length:Int)*m)(hm:zb3 m=true)(hc:c<=1000) :
  ∃y' z',zeE (.one 9) zbg (zaF 0 c) [some (false,.scr l),some (false,.int at'),some (false,.tup ts),A,B,some (false,.int m),Mm,some (false,.int i),some (true,.lst []),y,z] S
   = .nx [some (false,.scr l),some (false,.int at'),some (false,.tup ts),A,B,some (false,.int m),Mm,some (false,.int i),some (true,.lst (zjR c (zkO l at' ts.length m i))),y',z'] S:=by
 obtain ⟨ρ',e,y',z',rfl⟩:=zfY (tg:=.one 9) (body:=zbg) (ds:=zaF 0 c) (S:=S) (fun k ρ=>∃y z,ρ=[some (false,.scr l),some (false,.int at'),some (false,.tup ts),A,B,some (false,.int m),Mm,some (false,.int i),some (true,.lst (zjR k (zkO l at' ts.length m i))),y,z]) (by
  rintro k d ρ hd ⟨y,z,rfl⟩;obtain ⟨rfl,hk⟩:=zbE hd;have p:=za1 (l:=l) (S:=S) (show 0<=at'+7*(i:Int)+(k:Int) by omega) hp;have pn:=zbt l (at'+7*(i:Int)+(k:Int)) hp;refine ⟨_,_,rfl,?_,some (false,.int k),some (false,.int (za3 l (at'+7*i+k) (ts.length*m))),rfl⟩
  ·rw [zkw]
   by_cases h:za3 l (at'+7*(i:Int)+(k:Int)) (ts.length*m)<ts.length
   ·simp [zbg,p,hm,h,zkO,oD,show k<=100000 by omega]
   ·simp [zbg,p,hm,h,zkO,oD,show k<=100000 by omega])
  (ρ:=[some (false,.scr l),some (false,.int at'),some (false,.tup ts),A,B,some (false,.int m),Mm,some (false,.int i),some (true,.lst []),y,z]) ⟨y,z,rfl⟩
 exact ⟨y',z',by simpa using e⟩
theorem zks(ha:0<=at')(hp:0<(ts.length:Int)*m)(hm:zb3 m=true)(hr:0<=r)(hr2:r<=1000)(hc:0<=c)(hc2:c<=1000) :
  zcb [.scr l,.int at',.tup ts,.int r,.int c,.int m] S=.ok (flr r.toNat c.toNat (zkO l at' ts.length m)) S:=by
 obtain ⟨r,rfl⟩:=ycd hr;obtain ⟨c,rfl⟩:=ycd hc
 obtain ⟨ρ',e,x1,x2,x3,x4,rfl⟩:=zfY (tg:=.one 7) (body:=zco) (ds:=zaF 0 r) (S:=S) (fun k ρ=>∃x1 x2 x3 x4,ρ=[some (false,.scr l),some (false,.int at'),some (false,.tup ts),some (false,.int r),some (false,.int c),some (false,.int m),some (true,.lst (zm3 k c (zkO l at' ts.length m))),x1,x2,x3,x4]) (by
  rintro k d ρ hd ⟨x1,x2,x3,x4,rfl⟩;obtain ⟨rfl,hk⟩:=zbE hd;obtain ⟨y',z',e⟩:=zm4 (l:=l) (at':=at') (m:=m) (ts:=ts) (r:=r) (c:=c) (i:=k) (S:=S) (A:=some (false,.int r)) (B:=some (false,.int c)) (Mm:=some (true,.lst (zm3 k c (zkO l at' ts.length m)))) (y:=x3) (z:=x4) ha hp hm (by omega);refine ⟨_,_,rfl,?_,some (false,.int k),some (true,.lst (zjR c (zkO l at' ts.length m k))),y',z',rfl⟩
  ·rw [zlk]
   simp [zco,e,zug,show -1000000<=(c:Int)/\(c:Int)<=1000000 by omega,show k<=100000 by omega])
  (ρ:=[some (false,.scr l),some (false,.int at'),some (false,.tup ts),some (false,.int r),some (false,.int c),some (false,.int m),some (true,.lst []),none,none,none,none]) ⟨none,none,none,none,rfl⟩
 simp at e;simp [zcb,zas,zc1,e,flr,show -1000000<=(r:Int)/\(r:Int)<=1000000 by omega]
def zwm(cn f:Str):Out D->Out D | .ok d S=>(match zob cn f d S with | some r=>.ok r S | none=>.bad) | .exc c S=>.exc c S | .bad=>.bad
noncomputable def ziP(G:List D->Sto->Out D)(d:D):Out (List D)->Out D | .ok ds S=>G (d::ds) S | .exc c S=>.exc c S | .bad=>.bad
def zsK(c m:Str)(G:List D->Sto->Out D)(fs:List Fe)(ρ:Env):Out D->Out D | .ok d S=>if zaz c m d S then ziP G d (zau fs ρ S) else .bad | .exc c S=>.exc c S | .bad=>.bad
noncomputable def ztC(n:Nat):Out D->Out D | .ok .non S=>.ok (.ref n) S | .ok _ _=>.bad | .exc c S=>.exc c S | .bad=>.bad
noncomputable def kMk(c:Str)(dds:List D)(G:List D->Sto->Out D):Out (List D)->Out D | .ok ds S=>ztC S.length (G (.ref S.length::(ds++dds)) (S++[⟨c,[]⟩])) | .exc c S=>.exc c S | .bad=>.bad
section
variable{ρ:Env}{S:Sto}{f:Fe}{n i:Nat}
@[simp] def zvB:zm9 c x f ρ S=zwm c x (f ρ S):=by unfold zm9;cases f ρ S<;>rfl
@[simp] def zxz:zwm c x (.ok d S)=(match zob c x d S with | some r=>.ok r S | none=>.bad):=(rfl)
@[simp] def zop:zaR c m G f fs ρ S=zsK c m G fs ρ (f ρ S):=by
 unfold zaR
 cases f ρ S with
 | ok d S1 =>
  show (if zaz c m d S1 then (zau fs ρ S1).bind fun ds S2=>G (d::ds) S2 else .bad)=(if zaz c m d S1 then ziP G d (zau fs ρ S1) else .bad)
  cases zau fs ρ S1<;>rfl
 | exc c S=>rfl
 | bad=>rfl
@[simp] def zsI:zsK c m G fs ρ (.ok d S)=if zaz c m d S then ziP G d (zau fs ρ S) else .bad:=(rfl)
@[simp] def zpY:ziP G d (.ok ds S)=G (d::ds) S:=(rfl)
@[simp] def zwV:eMk c dds G fs ρ S=kMk c dds G (zau fs ρ S):=by
 unfold eMk
 cases zau fs ρ S with
 | ok ds S1 =>
  show ((G (.ref S1.length::(ds++dds)) (S1++[⟨c,[]⟩])).bind fun r S2=>match r with | .non=>.ok (.ref S1.length) S2 | _=>.bad)=ztC S1.length (G (.ref S1.length::(ds++dds)) (S1++[⟨c,[]⟩]))
  cases G (.ref S1.length::(ds++dds)) (S1++[⟨c,[]⟩]) with
  | ok r S2=>cases r<;>rfl
  | exc c S=>rfl
  | bad=>rfl
 | exc c S=>rfl
 | bad=>rfl
@[simp] def zx6:kMk c dds G (.ok ds S)=ztC S.length (G (.ref S.length::(ds++dds)) (S++[⟨c,[]⟩])):=(rfl)
@[simp] def zxq:ztC n (.ok .non S)=.ok (.ref n) S:=(rfl)
noncomputable def alb(ts:D)(ds:List (D×D))(dn un:List D):Ob:=⟨"Album",[("tiles",false,ts),("named",true,.tup [.dic ds]),("done",true,.tup [.lst dn]),("undone",true,.tup [.lst un])]⟩
variable{ts:D}{ds ds':List (D×D)}{dn un dn' un':List D}
def zi8:(alb ts ds dn un).put "done" true (.tup [.lst dn'])=alb ts ds dn' un:=rfl
def zfz:(alb ts ds dn un).put "undone" true (.tup [.lst un'])=alb ts ds dn un':=rfl
def zb7:zd7 (alb ts ds dn un)=true:=by
 show decide (["tiles","named","done","undone"]:List Str).Nodup=true;decide
def zcK(h:S[n]?=some (alb ts ds dn un)):zob "Album" "tiles" (.ref n) S=some ts:=by unfold zob;dsimp only;rw [h];rfl
def zch(hi:ρ[i]?=some (some (false,.ref n)))(h:S[n]?=some (alb ts ds dn un))(ho:zai ds=true):dicI "Album" "named" ρ S i=some (n,alb ts ds dn un,ds):=by
 unfold dicI zhI;rw [hi];dsimp only [zqQ];rw [h];show (if zai ds then some (n,alb ts ds dn un,ds) else none)=_;rw [if_pos ho]
def zdB(hi:ρ[i]?=some (some (false,.ref n)))(h:S[n]?=some (alb ts ds dn un)):zhI "Album" "done" ρ S i=some (n,alb ts ds dn un,.lst dn):=by
 unfold zhI;rw [hi];dsimp only [zqQ];rw [h];rfl
def zc6(hi:ρ[i]?=some (some (false,.ref n)))(h:S[n]?=some (alb ts ds dn un)):zhI "Album" "undone" ρ S i=some (n,alb ts ds dn un,.lst un):=by
 unfold zhI;rw [hi];dsimp only [zqQ];rw [h];rfl
def zaC{m:Str}(h:S[n]?=some (alb ts ds dn un))(hm:(m == ("tiles":Str))=false/\(m == ("named":Str))=false/\(m == ("done":Str))=false/\(m == ("undone":Str))=false):zaz "Album" m (.ref n) S=true:=by
 unfold zaz;dsimp only;rw [h];show (true&&(List.lookup m _).isNone)=true;simp [alb,List.lookup,hm]
def zb9{ob ob':Ob}(h:S[n]?=some ob):(S.set n ob')[n]?=some ob':=by
 rw [yaC (yai.mp h).1]
def zxK{k:Str}(hi:ρ[i]?=some (some (false,.ref n)))(h:S[n]?=some (alb ts ds dn un))(ho:zai ds=true){j:Nat}(hj:ρ[j]?=some (some (false,.str k))):eQ (zmk "Album" "named" i (zbw j)) ρ S=.ok (.bl (zae k ds).isSome) S:=by
 unfold eQ zmk;rw [zch hi h ho,show zbw j ρ S=some (.str k) by unfold zbw;rw [hj]]
def zss{k:Str}(hi:ρ[i]?=some (some (false,.ref n)))(h:S[n]?=some (alb ts ds dn un))(ho:zai ds=true){j:Nat}(hj:ρ[j]?=some (some (false,.str k))):eQ (ze2 "Album" "named" i (zbw j)) ρ S=.ok (.bl (!(zae k ds).isSome)) S:=by
 unfold eQ ze2;rw [zch hi h ho,show zbw j ρ S=some (.str k) by unfold zbw;rw [hj]]
def zxH{k:Str}{d:D}(hi:ρ[i]?=some (some (false,.ref n)))(h:S[n]?=some (alb ts ds dn un))(ho:zai ds=true){j:Nat}(hj:ρ[j]?=some (some (false,.str k)))(hd:zae k ds=some d):eQ (zpc "Album" "named" i (zbw j)) ρ S=.ok d S:=by
 unfold eQ zpc;rw [zch hi h ho,show zbw j ρ S=some (.str k) by unfold zbw;rw [hj]];dsimp only;rw [hd]
noncomputable def nmd(k:Str)(d:D)(ds:List (D×D)):List (D×D):=match d with | .non=>dropS k ds | d=>putS k d ds
def zdE(h:S[n]?=some ob):S.set n ob=S:=by
 apply ycQ;intro m
 by_cases e:n=m
 ·subst e;rw [zb9 h,h]
 ·rw [yaO e]
theorem zeL{k:Str}:∀{ds:List (D×D)},zai ds=true->zae k ds=none->dropS k ds=ds
 | [],_,_=>rfl
 | (.str x,d)::r,ho,h=>by
  unfold zai at ho;rw [yaa] at ho;unfold zae at h;split at h
  ·cases h
  ·rename_i hx;unfold dropS;rw [if_neg hx,zeL ho.2 h]
def zfH{k:Str}{d:D}(h:S[n]?=some (alb ts ds dn un))(ho:zai ds=true)(hl:ds.length<=100000):zax [.ref n,.str k,d] S=.ok .non (S.set n (alb ts (nmd k d ds) dn un)):=by
 by_cases hn:zcu d=true
 ·have e:d=.non:=zcX hn;subst e
  have e1:∀ρ:Env,ρ[0]?=some (some (false,.ref n))->ρ[1]?=some (some (false,.str k))->zjj "Album" "named" 0 (zbw 1) ρ S=.nx ρ (S.set n (alb ts (dropS k ds) dn un)):=by
   intro ρ h0 h1;unfold zjj;rw [show zbw 1 ρ S=some (.str k) by unfold zbw;rw [h1],zch h0 h ho];dsimp only;rw [if_pos zb7]
   cases hl:zae k ds with
   | some d=>rfl
   | none =>
    dsimp only [Option.isSome];have:dropS k ds=ds:=zeL ho hl;rw [this,if_neg (by decide)];congr 1;exact (zdE h).symm
  have e3:zlT .non .non=some (.bl true):=rfl;simp [zax,zas,za2,e3,e1,nmd]
 ·have e1:∀ρ:Env,ρ[0]?=some (some (false,.ref n))->ρ[1]?=some (some (false,.str k))->ρ[2]?=some (some (false,d))->zji "Album" "named" 0 (zbw 1) (zbw 2) ρ S=.nx ρ (S.set n (alb ts (putS k d ds) dn un)):=by
   intro ρ h0 h1 h2;unfold zji;rw [show zbw 1 ρ S=some (.str k) by unfold zbw;rw [h1],show zbw 2 ρ S=some d by unfold zbw;rw [h2],zch h0 h ho];dsimp only;rw [if_pos (by rw [zb7,show zaK ds.length=true from yaE hl];rfl)];rfl
  have e2:nmd k d ds=putS k d ds:=by
   unfold nmd
   cases d<;>first | rfl | exact absurd rfl hn
  have hn':zcu d=false:=by simpa using hn
  rw [e2]
  have e3:zlT d .non=some (.bl false):=by unfold zlT;rw [hn'];rfl
  simp [zax,zas,za2,e3,e1]
end
section
variable{ρ:Env}{S:Sto}{n i:Nat}{ts:D}{ds:List (D×D)}{dn un:List D}
def qv{j:Nat}{d:D}(h:ρ[j]?=some (some (false,d))):zbw j ρ S=some d:=by unfold zbw;rw [h]
def zkt{w k:Str}{d:D}(h:S[n]?=some (alb ts ds dn un))(ho:zai ds=true)(hl:ds.length<=100000)(hd:dn.length<=100000) :
  zbX [.ref n,.str w,.str k,d] S=.ok .non (S.set n (alb ts (nmd k d ds) (dn++[.tup [.str w,.str k,(zae k ds).getD .non,d]]) [])):=by
 have e1:∀ρ:Env,ρ[0]?=some (some (false,.ref n))->ρ[1]?=some (some (false,.str w))->ρ[2]?=some (some (false,.str k))->ρ[3]?=some (some (false,d)) →
   zjl "Album" "done" 0 [(zbw 1),(zbw 2),(zgA "Album" "named" 0 (zbw 2)),(zbw 3)] ρ S=.nx ρ (S.set n (alb ts ds (dn++[.tup [.str w,.str k,(zae k ds).getD .non,d]]) un)):=by
  intro ρ h0 h1 h2 h3
  have q:zhQ [(zbw 1),(zbw 2),(zgA "Album" "named" 0 (zbw 2)),(zbw 3)] ρ S=some [.str w,.str k,(zae k ds).getD .non,d]:=by
   have g:zgA "Album" "named" 0 (zbw 2) ρ S=some ((zae k ds).getD .non):=by unfold zgA;rw [qv h2,zch h0 h ho]
   simp only [zhQ,qv h1,qv h2,qv h3,g,Option.bind,Option.map]
  unfold zjl;rw [zdB h0 h,q];dsimp only;rw [if_pos (by rw [zb7,show zaK dn.length=true from yaE hd];rfl)];rfl
 generalize hx:dn++[.tup [.str w,.str k,(zae k ds).getD .non,d]]=dn' at e1 ⊢;have h1:(S.set n (alb ts ds dn' un))[n]?=some (alb ts ds dn' un):=zb9 h
 have e2:∀ρ:Env,ρ[0]?=some (some (false,.ref n))->ze0 "Album" "undone" 0 ρ (S.set n (alb ts ds dn' un))=.nx ρ (S.set n (alb ts ds dn' [])):=by
  intro ρ h0;unfold ze0;rw [h0];dsimp only;rw [h1];show (if _ then Fo.nx ρ ((S.set n (alb ts ds dn' un)).set n (alb ts ds dn' [])) else _)=_;rw [if_pos (by rfl),ybl]
 have h2:(S.set n (alb ts ds dn' []))[n]?=some (alb ts ds dn' []):=zb9 h;have e3:=zfH (k:=k) (d:=d) h2 ho hl;have m:zaz "Album" "name_floor" (.ref n) (S.set n (alb ts ds dn' []))=true:=zaC h2 (by decide);simp [zbX,zas,zdZ,e1,e2,e3,m]
noncomputable def zcL(k:Str):Prop:=k = "a" \/ k = "b" \/ k = "c" \/ k = "sheet"
def zdT{k:Str}(h:zcL k):zdG [.str k] S=.ok (.bl true) S:=by
 rcases h with rfl | rfl | rfl | rfl<;>kernel_rfl
def za6{k:Str}(h:zcL k):zaW [.str k] S=.ok .non S:=by
 simp [zaW,zas,zbM,zdT h,zcV]
def zbj{k:Str}{d:D}(hk:zcL k)(h:S[n]?=some (alb ts ds dn un))(ho:zai ds=true)(hd:zae k ds=some d):zar [.ref n,.str k] S=.ok d S:=by
 have e1:∀ρ:Env,ρ[0]?=some (some (false,.ref n))->ρ[1]?=some (some (false,.str k))->eQ (ze2 "Album" "named" 0 (zbw 1)) ρ S=.ok (.bl false) S:=fun ρ h0 h1=>by rw [zss h0 h ho h1,hd];rfl
 have e2:∀ρ:Env,ρ[0]?=some (some (false,.ref n))->ρ[1]?=some (some (false,.str k))->eQ (zpc "Album" "named" 0 (zbw 1)) ρ S=.ok d S:=fun ρ h0 h1=>zxH h0 h ho h1 hd
 simp [zar,zas,zbh,zdT hk,zcV,e1,e2]
def zck{k:Str}(hk:zcL k)(h:S[n]?=some (alb ts ds dn un))(ho:zai ds=true)(hd:zae k ds=none):zar [.ref n,.str k] S=.exc "NoName" S:=by
 have e1:∀ρ:Env,ρ[0]?=some (some (false,.ref n))->ρ[1]?=some (some (false,.str k))->eQ (ze2 "Album" "named" 0 (zbw 1)) ρ S=.ok (.bl true) S:=fun ρ h0 h1=>by rw [zss h0 h ho h1,hd];rfl
 simp [zar,zas,zbh,zdT hk,zcV,e1]
def zkm{k:Str}{d:D}(hk:zcL k)(hn:zcu d=false)(h:S[n]?=some (alb ts ds dn un))(ho:zai ds=true)(hl:ds.length<=100000)(hd:dn.length<=100000)(hf:zaZ [ts,d] S=.ok (.bl true) S) :
  zaD [.ref n,.str k,d] S=.ok (.bl (zae k ds).isSome) (S.set n (alb ts (putS k d ds) (dn++[.tup [.str "put",.str k,(zae k ds).getD .non,d]]) [])):=by
 have e1:∀ρ:Env,ρ[0]?=some (some (false,.ref n))->ρ[1]?=some (some (false,.str k))->eQ (zmk "Album" "named" 0 (zbw 1)) ρ S=.ok (.bl (zae k ds).isSome) S:=fun ρ h0 h1=>zxK h0 h ho h1
 have e3:=zkt (w:="put") (k:=k) (d:=d) h ho hl hd
 have en:nmd k d ds=putS k d ds:=by
  unfold nmd
  cases d<;>first | rfl | cases hn
 rw [en] at e3;have m:zaz "Album" "do" (.ref n) S=true:=zaC h (by decide);simp [zaD,zas,zdy,za6 hk,zcK h,hf,zcV,e1,e3,m]
def zmc{k:Str}{d:D}(hk:zcL k)(h:S[n]?=some (alb ts ds dn un))(ho:zai ds=true)(hl:ds.length<=100000)(hd:dn.length<=100000)(he:zae k ds=some d) :
  zay [.ref n,.str k] S=.ok d (S.set n (alb ts (dropS k ds) (dn++[.tup [.str "take",.str k,d,.non]]) [])):=by
 have e1:=zbj hk h ho he;have e3:=zkt (w:="take") (k:=k) (d:=.non) h ho hl hd;rw [he] at e3;have e4:nmd k .non ds=dropS k ds:=rfl;rw [e4] at e3;have m:zaz "Album" "do" (.ref n) S=true:=zaC h (by decide);have m2:zaz "Album" "floor_of" (.ref n) S=true:=zaC h (by decide);simp [zay,zas,zce,e1,e3,m,m2]
def zhA{k:Str}(hk:zcL k)(h:S[n]?=some (alb ts ds dn un))(ho:zai ds=true)(he:zae k ds=none):zay [.ref n,.str k] S=.exc "NoName" S:=by
 have e1:=zck hk h ho he;have m2:zaz "Album" "floor_of" (.ref n) S=true:=zaC h (by decide);simp [zay,zas,zce,e1,m2]
noncomputable def zjw(b:Bool)(x y:D)(S:Sto):Out D:=if b then zbS [x,y] S else zcB [x,y] S
def zmd{k k1 k2:Str}{b:Bool}{x y z:D}(hk:zcL k)(hk1:zcL k1)(hk2:zcL k2)(hn:zcu z=false)(h:S[n]?=some (alb ts ds dn un))(ho:zai ds=true)(hl:ds.length<=100000)(hd:dn.length<=100000)
  (h1:zae k1 ds=some x) (h2:zae k2 ds=some y) (hj:zjw b x y S=.ok z S) (hf:zaZ [ts,z] S=.ok (.bl true) S) :
  zam [.ref n,.str k,.str k1,.str k2,.bl b] S=.ok z (S.set n (alb ts (putS k z ds) (dn++[.tup [.str "join",.str k,(zae k ds).getD .non,z]]) [])):=by
 have e1:=zbj hk1 h ho h1;have e2:=zbj hk2 h ho h2;have e3:=zkt (w:="join") (k:=k) (d:=z) h ho hl hd
 have en:nmd k z ds=putS k z ds:=by
  unfold nmd
  cases z<;>first | rfl | cases hn
 rw [en] at e3;have m:zaz "Album" "do" (.ref n) S=true:=zaC h (by decide);have m2:zaz "Album" "floor_of" (.ref n) S=true:=zaC h (by decide)
 cases b with
 | true =>
  have hj':zbS [x,y] S=.ok z S:=hj;simp [zam,zas,zaI,za6 hk,e1,e2,hj',zcK h,hf,zcV,e3,m,m2]
 | false =>
  have hj':zcB [x,y] S=.ok z S:=hj;simp [zam,zas,zaI,za6 hk,e1,e2,hj',zcK h,hf,zcV,e3,m,m2]
def zgv{k k1 k2:Str}{b:Bool}(hk:zcL k)(hk1:zcL k1)(h:S[n]?=some (alb ts ds dn un))(ho:zai ds=true)(h1:zae k1 ds=none):zam [.ref n,.str k,.str k1,.str k2,.bl b] S=.exc "NoName" S:=by
 have e1:=zck hk1 h ho h1;have m2:zaz "Album" "floor_of" (.ref n) S=true:=zaC h (by decide);simp [zam,zas,zaI,za6 hk,e1,m2]
def zgu{k k1 k2:Str}{b:Bool}{x:D}(hk:zcL k)(hk1:zcL k1)(hk2:zcL k2)(h:S[n]?=some (alb ts ds dn un))(ho:zai ds=true)(h1:zae k1 ds=some x)(h2:zae k2 ds=none):zam [.ref n,.str k,.str k1,.str k2,.bl b] S=.exc "NoName" S:=by
 have e1:=zbj hk1 h ho h1;have e2:=zck hk2 h ho h2;have m2:zaz "Album" "floor_of" (.ref n) S=true:=zaC h (by decide);simp [zam,zas,zaI,za6 hk,e1,e2,m2]
def zcy{k k1 k2:Str}{b:Bool}{x y:D}(hk:zcL k)(hk1:zcL k1)(hk2:zcL k2)(h:S[n]?=some (alb ts ds dn un))(ho:zai ds=true)(h1:zae k1 ds=some x)(h2:zae k2 ds=some y)
  (hj:zjw b x y S=.exc "Unlike" S\/∃z,zjw b x y S=.ok z S/\zaZ [ts,z] S=.ok (.bl false) S):zam [.ref n,.str k,.str k1,.str k2,.bl b] S=.exc "Unlike" S:=by
 have e1:=zbj hk1 h ho h1;have e2:=zbj hk2 h ho h2;have m2:zaz "Album" "floor_of" (.ref n) S=true:=zaC h (by decide)
 cases b with
 | true =>
  rcases hj with hj | ⟨z,hj,hf⟩
  ·have hj':zbS [x,y] S=.exc "Unlike" S:=hj;simp [zam,zas,zaI,za6 hk,e1,e2,hj',m2]
  ·have hj':zbS [x,y] S=.ok z S:=hj;simp [zam,zas,zaI,za6 hk,e1,e2,hj',zcK h,hf,zcV,m2]
 | false =>
  rcases hj with hj | ⟨z,hj,hf⟩
  ·have hj':zcB [x,y] S=.exc "Unlike" S:=hj;simp [zam,zas,zaI,za6 hk,e1,e2,hj',m2]
  ·have hj':zcB [x,y] S=.ok z S:=hj;simp [zam,zas,zaI,za6 hk,e1,e2,hj',zcK h,hf,zcV,m2]
end
noncomputable def FlD(rs:List (List D)):D:=.tup (rs.map D.tup)
noncomputable def zlR(n:Nat)(d:D):Prop:=d=.non\/∃x:Int,d=.int x/\0<=x/\x<n
structure FlOk(n c:Nat)(rs:List (List D)):Prop where
 ne:1<=rs.length
 c1:1<=c
 row:∀r∈rs,r.length=c/\∀d∈r,zlR n d
section
variable{S:Sto}{n c c':Nat}{rs rs':List (List D)}{tl:List D}
def zdF{x:Int}:zcr [.int x] S=.ok (.bl true) S:=by
 simp [zcr,zas,zdY,zeA,zcV]
def zbi{l:List D}{a b:Int}:zaM [.tup l,.int a,.int b] S=.ok (.bl (decide (a<=l.length/\(l.length:Int)<=b))) S:=by
 by_cases h:a<=(l.length:Int)
 ·simp [zaM,zas,zbV,zeA,h]
 ·simp [zaM,zas,zbV,zeA,h]
def zjm{d:D}(h:zlR tl.length d):zcq [.tup tl,d] S=.ok (.bl true) S:=by
 rcases h with rfl | ⟨x,rfl,h1,h2⟩
 ·have e:zlT .non .non=some (.bl true):=rfl;simp [zcq,zas,zdM,e]
 ·have e:zlT (.int x) .non=some (.bl false):=rfl;simp [zcq,zas,zdM,e,zcS,zcZ,zdF,h1,h2]
theorem zhe{α:Type}(f:α->Bool):∀l:List α,zgb (l.map fun x=>.bl (f x))=some (l.map f)
 | []=>rfl
 | a::l=>by rw [yaz];unfold zgb;rw [zhe f l];rfl
theorem all_map{α:Type}{f:α->Bool}{l:List α}:zlV [.lst (l.map fun x=>.bl (f x))]=some (.bl (l.all f)):=by
 show (zgb _).map _=_;rw [zhe];show some (D.bl ((l.map f).all id))=_;rw [List.all_map];rfl
theorem zkq{row:List D}(h1:1<=row.length)(hz:row.length<=1000)(h:∀d∈row,zlR tl.length d):zdc [.tup tl,.tup row] S=.ok (.bl (decide (row.length<=6))) S:=by
 have ec:zb6 (.one 0) zeY (eFn zcq [(zan 1),(zan 0)]) [none,some (false,.tup tl)] row S=.ok (row.map fun _=>.bl true) S:=by
  refine zbv fun d hd=>⟨_,rfl,?_⟩
  simp [zjm (h d hd)]
 have ea:=all_map (f:=fun _:D=>true) (l:=row)
 by_cases h6:row.length<=6
 ·have e6:((1:Int)<=row.length/\(row.length:Int)<=6):=⟨by omega,by omega⟩;simp [zdc,zas,zee,zbi,e6,ec,ea,zfw,show row.length<=100000 by omega,h6]
 ·have e6:¬ ((1:Int)<=row.length/\(row.length:Int)<=6):=fun z=>h6 (by omega)
  simp [zdc,zas,zee,zbi,e6,h6]
theorem zbZ(h:FlOk tl.length c rs)(hr:rs.length<=1000)(hc:c<=1000):zaZ [.tup tl,FlD rs] S=.ok (.bl (decide (rs.length<=6/\c<=6))) S:=by
 unfold FlD
 by_cases h6:rs.length<=6
 ·have e6:((1:Int)<=(rs.map D.tup).length/\((rs.map D.tup).length:Int)<=6):=by rw [yad];have:=h.ne;exact ⟨by omega,by omega⟩
  have ec:zb6 (.one 0) zeY (eFn zdc [(zan 1),(zan 0)]) [none,some (false,.tup tl)] (rs.map D.tup) S=.ok ((rs.map D.tup).map fun _=>.bl (decide (c<=6))) S:=by
   refine zbv fun d hd=>?_
   obtain ⟨r,hr',rfl⟩:=yax.mp hd;obtain ⟨hl,hok⟩:=h.row r hr';refine ⟨_,rfl,?_⟩;have e:=zkq (S:=S) (tl:=tl) (row:=r) (by rw [hl];exact h.c1) (by rw [hl];exact hc) hok;rw [hl] at e;simp [e]
  have ea:=all_map (f:=fun _:D=>decide (c<=6)) (l:=rs.map D.tup)
  obtain ⟨r0,zbD,hrs⟩:∃r0 zbD,rs=r0::zbD:=by
   cases hx:rs with
   | nil=>have:=h.ne;rw [hx] at this;cases this
   | cons a b=>exact ⟨a,b,rfl⟩
  have ef:((rs.map D.tup).all fun _=>decide (c<=6))=decide (c<=6):=by
   rw [hrs]
   by_cases hc6:c<=6
   ·simp [hc6]
   ·simp [hc6]
  rw [ef] at ea
  by_cases hc6:c<=6
  ·have ed:zb6 (.one 0) zeY (zaj eqD (zaE zcO [(zal 0)]) (zaE zcO [(zaj ixD (zal 1) (zah (.int 0)))])) [none,some (false,.tup (rs.map D.tup))] (rs.map D.tup) S=.ok ((rs.map D.tup).map fun _=>.bl true) S:=by
    refine zbv fun d hd=>?_
    obtain ⟨r,hr',rfl⟩:=yax.mp hd;have l1:=(h.row r hr').1;have l2:=(h.row r0 (by rw [hrs];exact yaw)).1;refine ⟨_,rfl,?_⟩
    have ea:atI (rs.map D.tup) 0=some (.tup r0):=by
     have:=zaf (rs.map D.tup) 0;rw [hrs] at this ⊢;exact this
    simp [ea,l1,l2]
   have eb:=all_map (f:=fun _:D=>true) (l:=rs.map D.tup);rw [yaE hc6] at ec ea;generalize rs.map D.tup=R at *;simp [zaZ,zas,zcv,zbi,e6,ec,ea,ed,eb,zfw,zcV,h6,hc6,show R.length<=100000 by omega]
  ·rw [yaG hc6] at ec ea;generalize rs.map D.tup=R at *;simp [zaZ,zas,zcv,zbi,e6,ec,ea,zfw,zcV,hc6,show R.length<=100000 by omega]
 ·have e6:¬ ((1:Int)<=(rs.map D.tup).length/\((rs.map D.tup).length:Int)<=6):=by rw [yad];intro z;omega
  generalize rs.map D.tup=R at *;simp [zaZ,zas,zcv,zbi,e6,zcV,h6]
end
section
variable{S:Sto}{n c c':Nat}{rs rs':List (List D)}{tl:List D}
theorem zfk:∀t:List Int,zd8 (t.map D.int)=some t
 | []=>rfl
 | a::t=>by rw [yaz];unfold zd8;rw [zfk t];rfl
theorem zfh:∀ts:List (List Int),keysOf (ts.map zac)=some ts
 | []=>rfl
 | t::ts=>by rw [yaz];unfold keysOf;rw [show zpX (zac t)=some t from zfk t,zfh ts];rfl
theorem zjn{t:List Int}(h4:t.length=4)(hc:∀c∈t,0<=c/\c<3):zcR [zac t] S=.ok (.bl true) S:=by
 have ec:zb6 (.one 0) zeY (eFn zcA [(zan 0)]) [none] (t.map D.int) S=.ok ((t.map D.int).map fun _=>.bl true) S:=by
  refine zbv fun d hd=>?_
  obtain ⟨x,hx,rfl⟩:=yax.mp hd;refine ⟨_,rfl,?_⟩;have:=hc x hx;simp [zcA,zas,zdw,zdF,show 0<=x by omega,show x<=8 by omega]
 have ea:=all_map (f:=fun _:D=>true) (l:=t.map D.int)
 have hl:(t.map D.int).length=4:=by rw [yad];exact h4
 unfold zac;generalize t.map D.int=T at *;have e4:((4:Int)<=T.length/\(T.length:Int)<=4):=⟨by omega,by omega⟩;simp [zcR,zas,zeH,zbi,e4,ec,ea,show T.length<=100000 by omega]
theorem zkp{most:Int}{ts:Z2}(h:Tiles most ts)(hm:most<=5):zcz [.tup (ts.map zac)] S=.ok (.bl true) S:=by
 have ec:zb6 (.one 0) zeY (eFn zcR [(zan 0)]) [none] (ts.map zac) S=.ok ((ts.map zac).map fun _=>.bl true) S:=by
  refine zbv fun d hd=>?_
  obtain ⟨x,hx,rfl⟩:=yax.mp hd;refine ⟨_,rfl,?_⟩;simp [zjn (h.four x hx) (h.col x hx)]
 have ea:=all_map (f:=fun _:D=>true) (l:=ts.map zac);have hl:(ts.map zac).length=ts.length:=yad _;have h1:=h.ne;have h2:=h.le
 have es:zdv (.tup (ts.map zac))=some (.int ts.length):=by
  show (keysOf (ts.map zac)).bind _=_;rw [zfh];exact if_pos ⟨by omega,h.nd⟩
 rw [yby.mpr (fun _ _=>rfl)] at ea;generalize ts.map zac=T at *;have e16:((1:Int)<=T.length/\(T.length:Int)<=16):=⟨by omega,by omega⟩;simp [zcz,zas,zf2,zbi,ec,ea,es,zcV,hl,show ts.length<=100000 by omega,show (1:Int)<=ts.length by omega,show (ts.length:Int)<=16 by omega]
noncomputable def zbU(rs rs':List (List D)):List (List D):=(List.zip rs rs').map fun p=>p.1++p.2
def zct:(zbU rs rs').length=min rs.length rs'.length:=by unfold zbU;rw [yad,List.length_zip]
def zqh(h:FlOk n c rs):∃r0 zbD,rs=r0::zbD/\r0.length=c:=by
 cases hx:rs with
 | nil=>have:=h.ne;rw [hx] at this;cases this
 | cons a b=>exact ⟨a,b,rfl,(h.row a (by rw [hx];exact yaw)).1⟩
def at0(h:FlOk n c rs):∃r0,atI (rs.map D.tup) 0=some (.tup r0)/\r0.length=c:=by
 obtain ⟨r0,zbD,rfl,hl⟩:=zqh h;exact ⟨r0,zaf ((r0::zbD).map D.tup) 0,hl⟩
theorem zed(h:FlOk n c rs):zb0 [FlD rs] S=.ok (.tup [.int rs.length,.int c]) S:=by
 obtain ⟨r0,e0,hl⟩:=at0 h;have h1:=h.ne;have hm:(rs.map D.tup).length=rs.length:=yad _;unfold FlD;generalize rs.map D.tup=R at *
 have hg:decide (0<(R.length:Int))=true:=by rw [hm];simp;omega
 have hg':(0<R.length):=by omega
 simp [zb0,zas,zeG,e0,hl,hm,show 0<rs.length by omega]
theorem zh9:∀(rs rs':List (List D)),zgi (rs.map D.tup) (rs'.map D.tup)=(List.zip rs rs').map fun p=>.tup [.tup p.1,.tup p.2]
 | [],_=>rfl
 | _::_,[]=>rfl
 | a::rs,b::rs'=>by rw [yaz,yaz,List.zip_cons_cons,yaz,<-zh9 rs rs'];rfl
theorem zjo(h:FlOk n c rs)(h':FlOk n c' rs')(hr:rs.length<=100)(hc:c<=100)(hc':c'<=100):zbS [FlD rs,FlD rs'] S=if rs.length=rs'.length then .ok (FlD (zbU rs rs')) S else .exc "Unlike" S:=by
 have s1:=zed (S:=S) h;have s2:=zed (S:=S) h'
 have ec:zb6 (.tup [0,1]) zeY (zaj zb8 (zal 0) (zal 1)) [none,none] (zgi (rs.map D.tup) (rs'.map D.tup)) S=.ok ((zbU rs rs').map D.tup) S:=by
  rw [zh9,zbv (g:=fun d=>match d with | .tup [.tup a,.tup b]=>.tup (a++b) | _=>.non) (fun d hd=>by
   obtain ⟨⟨a,b⟩,hp,rfl⟩:=yax.mp hd;refine ⟨_,rfl,?_⟩;have ha:=(h.row a (ya7 hp).1).1;have hb:=(h'.row b (ya7 hp).2).1
   have hs:a.length+b.length<=100000:=by omega
   simp [hs]),ybv]
  unfold zbU;rw [ybv];rfl
 have hz:((zbU rs rs').map D.tup).length<=100000:=by rw [yad,zct];omega
 unfold FlD at *;generalize (zbU rs rs').map D.tup=Z at *;generalize rs.map D.tup=R at *;generalize rs'.map D.tup=R' at *
 by_cases he:rs.length=rs'.length
 ·simp [zbS,zas,zef,s1,s2,ec,hz,he]
 ·have he':¬ ((rs.length:Int)=rs'.length):=by omega
  simp [zbS,zas,zef,s1,s2,he,he']
theorem zkv(h:FlOk n c rs)(h':FlOk n c' rs')(hr:rs.length<=100)(hr':rs'.length<=100):zcB [FlD rs,FlD rs'] S=if c=c' then .ok (FlD (rs++rs')) S else .exc "Unlike" S:=by
 have s1:=zed (S:=S) h;have s2:=zed (S:=S) h'
 have hz:(rs.map D.tup).length+(rs'.map D.tup).length<=100000:=by rw [yad,yad];omega
 unfold FlD at *;rw [ybt];generalize rs.map D.tup=R at *;generalize rs'.map D.tup=R' at *
 by_cases he:c=c'
 ·simp [zcB,zas,zf3,s1,s2,hz,he]
 ·have he':¬ ((c:Int)=c'):=by omega
  simp [zcB,zas,zf3,s1,s2,he,he']
theorem FlOk.beside(h:FlOk n c rs)(h':FlOk n c' rs')(he:rs.length=rs'.length):FlOk n (c+c') (zbU rs rs') where
 ne:=by rw [zct,<-he,Nat.min_self];exact h.ne
 c1:=by have:=h.c1;omega
 row:=fun r hr=>by
  unfold zbU at hr;obtain ⟨⟨a,b⟩,hp,rfl⟩:=yax.mp hr;obtain ⟨a1,a2⟩:=h.row a (ya7 hp).1;obtain ⟨b1,b2⟩:=h'.row b (ya7 hp).2;refine ⟨by show (a++b).length=_;rw [yan,a1,b1],fun d hd=>?_⟩
  rcases yaV.mp hd with hd | hd
  ·exact a2 d hd
  ·exact b2 d hd
theorem FlOk.below(h:FlOk n c rs)(h':FlOk n c rs'):FlOk n c (rs++rs') where
 ne:=by rw [yan];have:=h.ne;omega
 c1:=h.c1
 row:=fun r hr=>by
  rcases yaV.mp hr with hr | hr
  ·exact h.row r hr
  ·exact h'.row r hr
end
noncomputable def zbo:List (D×D)->List (Str×D)
 | (.str x,d)::r=>(x,d)::zbo r
 | _=>[]
noncomputable def unS(ps:List (Str×D)):List (D×D):=ps.map fun p=>(.str p.1,p.2)
section
variable{ds es:List (D×D)}{k x:Str}{d:D}
def zaQ(h:zai ((.str x,d)::ds)=true):zae x ds=none/\zai ds=true:=by
 unfold zai at h;rw [yaa] at h;exact ⟨by simpa using h.1,h.2⟩
theorem za0:∀{ds:List (D×D)},zbI ds=(zbo ds).map (·.1)
 | []=>rfl
 | (.str x,d)::r=>by show x::zbI r=x::(zbo r).map (·.1);rw [za0]
 | (.non,_)::_=>rfl
 | (.bl _,_)::_=>rfl
 | (.int _,_)::_=>rfl
 | (.tup _,_)::_=>rfl
 | (.lst _,_)::_=>rfl
 | (.dic _,_)::_=>rfl
 | (.ref _,_)::_=>rfl
 | (.exc _,_)::_=>rfl
 | (.scr _,_)::_=>rfl
theorem zbH:∀{ds:List (D×D)},zai ds=true->(zae k ds=none↔k ∉ zbI ds)
 | [],_=>⟨(fun _ z=>by cases z),fun _=>rfl⟩
 | (.str x,d)::r,h=>by
  have ih:=zbH (zaQ h).2;unfold zae;show _↔k ∉ x::zbI r
  by_cases e:x=k
  ·rw [if_pos e];simp [e]
  ·rw [if_neg e,ih];simp [Ne.symm e]
theorem zcs:∀{ds:List (D×D)},zai ds=true->(zbI ds).Nodup
 | [],_=>List.nodup_nil
 | (.str x,d)::r,h=>ya6.mpr ⟨(zbH (zaQ h).2).mp (zaQ h).1,zcs (zaQ h).2⟩
theorem zcU:∀{ds:List (D×D)},zai ds=true->∀p∈zbo ds,zae p.1 ds=some p.2
 | [],_,p,h=>by cases h
 | (.str x,d)::r,h,p,hp=>by
  cases hp with
  | head=>show (if x=x then some d else _)=_;rw [if_pos rfl]
  | tail _ hp =>
   have ih:=zcU (zaQ h).2 p hp;unfold zae;rw [if_neg (fun e=>by subst e;rw [(zaQ h).1] at ih;cases ih)];exact ih
theorem zgJ:∀{ds:List (D×D)},zae k ds=some d->(k,d)∈zbo ds
 | (.str x,e)::r,h=>by
  unfold zae at h
  by_cases q:x=k
  ·rw [if_pos q] at h;cases h;rw [q];exact yaw
  ·rw [if_neg q] at h;exact yar _ (zgJ h)
theorem zkB:∀{ds:List (D×D)},zai ds=true->zae k ds=none->putS k d ds=ds++[(.str k,d)]
 | [],_,_=>rfl
 | (.str x,e)::r,h,hn=>by
  unfold zae at hn
  by_cases q:x=k
  ·rw [if_pos q] at hn;cases hn
  ·rw [if_neg q] at hn;unfold putS;rw [if_neg q,zkB (zaQ h).2 hn];rfl
theorem zec:∀{ps:List (Str×D)},(ps.map (·.1)).Nodup->zai (unS ps)=true/\zbo (unS ps)=ps
 | [],_=>⟨rfl,rfl⟩
 | (x,e)::r,h=>by
  rw [yaz,ya6] at h;obtain ⟨h1,h2⟩:=zec h.2;refine ⟨?_,by show (x,e)::zbo (unS r)=_;rw [h2]⟩;show ((zae x (unS r)).isNone&&zai (unS r))=true;rw [h1,(zbH h1).mpr (by rw [za0,h2];exact h.1)];rfl
theorem zfe:∀(ps qs:List (Str×D)),((qs++ps).map (·.1)).Nodup->ps.foldl (fun acc p=>putS p.1 p.2 acc) (unS qs)=unS (qs++ps)
 | [],qs,_=>by rw [yaQ];rfl
 | p::ps,qs,h=>by
  have hq:(qs.map (·.1)).Nodup:=by rw [ybt] at h;exact (ycj.mp h).1
  obtain ⟨o,pe⟩:=zec hq
  have hn:zae p.1 (unS qs)=none:=by
   rw [zbH o,za0,pe];intro z;rw [ybt,ycj] at h;exact h.2.2 p.1 z p.1 (by simp) rfl
  rw [ybK,zkB o hn];have:=zfe ps (qs++[p]) (by rw [ych];exact h);rw [ych] at this;refine Eq.trans ?_ this;unfold unS;rw [ybt];rfl
def zpe{ps:List (Str×D)}(h:(ps.map (·.1)).Nodup):zpf ps=unS ps:=zfe ps [] h
theorem zkE:∀(ps:List (Str×D)),zpl (ps.map fun p=>.tup [.str p.1,p.2])=some ps
 | []=>rfl
 | p::ps=>by
  show (zpl (ps.map fun p=>.tup [.str p.1,p.2])).map _=_;rw [zkE ps];rfl
def zfp{ps:List (Str×D)}(h:(ps.map (·.1)).Nodup):zhW [.lst (ps.map fun p=>.tup [.str p.1,p.2])]=some (.dic (unS ps)):=by
 show (zpl _).map _=_;rw [zkE];show some (D.dic (zpf ps))=_;rw [zpe h]
theorem zeM:∀{ds:List (D×D)},zai ds=true->unS ((zbo ds).filter fun p=>!decide (p.1=k))=dropS k ds
 | [],_=>rfl
 | (.str x,d)::r,h=>by
  have hh:=zaQ h;have ih:=zeM hh.2;show unS (((x,d)::zbo r).filter _)=_;unfold dropS
  by_cases e:x=k
  ·rw [if_pos e,List.filter_cons_of_neg (by simp [e]),ih];exact zeL hh.2 (by rw [<-e];exact hh.1)
  ·rw [if_neg e,List.filter_cons_of_pos (by simp [e])];show (D.str x,d)::unS _=_;rw [ih]
theorem zb1:∀{ds:List (D×D)},zai ds=true->zae x (dropS k ds)=if k=x then none else zae x ds
 | [],_=>by show none=_;split<;>rfl
 | (.str y,e)::r,h=>by
  have hh:=zaQ h;unfold dropS
  by_cases q:y=k
  ·rw [if_pos q]
   by_cases z:k=x
   ·rw [if_pos z,<-z,<-q];exact hh.1
   ·rw [if_neg z];show _=(if y=x then some e else zae x r);rw [if_neg (fun w=>z (q.symm.trans w))]
  ·rw [if_neg q];unfold zae
   by_cases w:y=x
   ·rw [if_pos w,if_neg (fun z=>q (w.trans z.symm)),if_pos w]
   ·rw [if_neg w,zb1 hh.2,if_neg w]
theorem zbu:∀{ds:List (D×D)},zai ds=true->zai (dropS k ds)=true
 | [],_=>rfl
 | (.str y,e)::r,h=>by
  have hh:=zaQ h;unfold dropS
  by_cases q:y=k
  ·rw [if_pos q];exact hh.2
  ·rw [if_neg q];show ((zae y (dropS k r)).isNone&&zai (dropS k r))=true;rw [zb1 hh.2,zbu hh.2,if_neg (fun z=>q z.symm),hh.1];rfl
structure Mp(ds es:List (D×D)):Prop where
 l:zai ds=true
 r:zai es=true
 eq:∀x,zae x ds=zae x es
def Mp.perm(m:Mp ds es):(zbI ds).Perm (zbI es):=by
 refine (List.perm_ext_iff_of_nodup (zcs m.l) (zcs m.r)).mpr fun x=>?_
 have h1:=zbH (k:=x) m.l;have h2:=zbH (k:=x) m.r;rw [m.eq] at h1;exact Decidable.not_iff_not.mp (h1.symm.trans h2)
theorem zdJ:∀{ds:List (D×D)},zai ds=true->(zbI ds).length=ds.length
 | [],_=>rfl
 | (.str x,d)::r,h=>by show _+1=_+1;rw [zdJ (zaQ h).2]
def Mp.len(m:Mp ds es):ds.length=es.length:=by rw [<-zdJ m.l,<-zdJ m.r];exact m.perm.length_eq
noncomputable def PlV(ds:List (D×D)):Prop:=∀x d,zae x ds=some d->d.pl=true/\d.fit 8=true
theorem zhO:∀{ds:List (D×D)},zai ds=true->PlV ds->zln ds=true
 | [],_,_=>rfl
 | (.str x,d)::r,h,p=>by
  have hh:=zaQ h;unfold zln;rw [yaX,yaa];refine ⟨(p x d (by unfold zae;rw [if_pos rfl])).2,zhO hh.2 fun y e hy=>p y e ?_⟩;unfold zae;rw [if_neg (fun z=>by rw [<-z,hh.1] at hy;cases hy)];exact hy
theorem zoc:∀{ds:List (D×D)},zai ds=true->PlV ds->(∀x d,zae x ds=some d->zae x es=some d)->eqK es ds=true
 | [],_,_,_=>rfl
 | (.str x,d)::r,h,p,m=>by
  have hh:=zaQ h
  have h0:zae x ((.str x,d)::r)=some d:=by unfold zae;rw [if_pos rfl]
  have up:∀y e,zae y r=some e->zae y ((.str x,d)::r)=some e:=fun y e hy=>by
   unfold zae;rw [if_neg (fun z=>by rw [<-z,hh.1] at hy;cases hy)];exact hy
  show ((match zae x es with | some e=>zel d e | none=>false)&&eqK es r)=true;rw [m x d h0,zoc hh.2 (fun y e hy=>p y e (up y e hy)) fun y e hy=>m y e (up y e hy)];show (zel d d&&true)=true;rw [show zel d d=true from (zgW d d (p x d h0).1 (p x d h0).1).mpr rfl];rfl
def zsu(m:Mp ds es)(p:PlV ds):neD (.dic ds) (.dic es)=some (.bl false):=by
 have p':PlV es:=fun x d h=>p x d (by rw [m.eq];exact h)
 show (zlu (.dic ds) (.dic es)).map _=_;show (if zai ds&&zai es&&zln ds&&zln es then some (ds.length == es.length&&eqK es ds) else none).map _=_;rw [m.l,m.r,zhO m.l p,zhO m.r p',m.len,zoc m.l p fun x d h=>by rw [<-m.eq];exact h];simp
end
inductive DeedOk(n:Nat):D->Prop
 | put {k:Str} {rs:List (List D)} {c:Nat}:zcL k->FlOk n c rs->rs.length<=6->c<=6->DeedOk n (.tup [.str "put",.str k,FlD rs])
 | take {k:Str}:zcL k->DeedOk n (.tup [.str "take",.str k])
 | join {k k1 k2:Str} {b:Bool}:zcL k->zcL k1->zcL k2->DeedOk n (.tup [.str "join",.str k,.str k1,.str k2,.bl b])
noncomputable def nmL:List D:=[.str "a",.str "b",.str "c",.str "sheet"]
theorem zpK{p:Int}(h0:0<=p)(h4:p<4):∃k,zcL k/\atI nmL p=some (.str k):=by
 have:p=0\/p=1\/p=2\/p=3:=by omega
 rcases this with rfl | rfl | rfl | rfl
 ·exact ⟨"a",.inl rfl,zaf nmL 0⟩
 ·exact ⟨"b",.inr (.inl rfl),zaf nmL 1⟩
 ·exact ⟨"c",.inr (.inr (.inl rfl)),zaf nmL 2⟩
 ·exact ⟨"sheet",.inr (.inr (.inr rfl)),zaf nmL 3⟩
def zm2{r c:Nat}{g:Z1}:flr r c g=FlD ((List.range r).map fun i=>zjR c (g i)):=by
 unfold flr zm3 FlD;rw [ybv];rfl
def zsY{n r c:Nat}{g:Z1}(h1:1<=r)(h2:1<=c)(hg:∀i j x,g i j=some x->0<=x/\x<n):FlOk n c ((List.range r).map fun i=>zjR c (g i)) where
 ne:=by rw [yad,yci];exact h1
 c1:=h2
 row:=fun row hr=>by
  obtain ⟨i,_,rfl⟩:=yax.mp hr;refine ⟨zmg,fun d hd=>?_⟩;unfold zjR at hd;obtain ⟨j,_,rfl⟩:=yax.mp hd
  cases hx:g i j with
  | none=>exact .inl rfl
  | some x=>exact .inr ⟨x,rfl,hg i j x hx⟩
theorem ziv{l:List Int}{at' most:Int}{ts:Z2}{S:Sto}(ha:0<=at')(ht:Tiles most ts)(hm:most<=16):∃d,DeedOk ts.length d/\zbk [.scr l,.int at',.tup (ts.map zac)] S=.ok d S:=by
 obtain ⟨p0,p4⟩:=zbt l at' (many:=4) (by decide);obtain ⟨w0,w6⟩:=zbt l (at'+1) (many:=6) (by decide);obtain ⟨k,hk,ek⟩:=zpK p0 p4;have e1:=za1 (l:=l) (k:=at') (many:=4) (S:=S) ha (by decide);have e2:=za1 (l:=l) (k:=at'+1) (many:=6) (S:=S) (by omega) (by decide);have hnl:nmL.length=4:=rfl
 by_cases hw:za3 l (at'+1) 6<3
 ·obtain ⟨r0,r3⟩:=zbt l (at'+2) (many:=3) (by decide);obtain ⟨c0,c3⟩:=zbt l (at'+3) (many:=3) (by decide);have e3:=za1 (l:=l) (k:=at'+2) (many:=3) (S:=S) (by omega) (by decide);have e4:=za1 (l:=l) (k:=at'+3) (many:=3) (S:=S) (by omega) (by decide);generalize za3 l (at'+2) 3=R at *;generalize za3 l (at'+3) 3=C at *;have hne:=ht.ne
  have hp:0<(((ts.map zac).length:Nat):Int)*2:=by rw [yad];omega
  have ef:=zks (l:=l) (at':=at'+10) (m:=2) (ts:=ts.map zac) (r:=1+R) (c:=1+C) (S:=S) (by omega) hp (by decide) (by omega) (by omega) (by omega) (by omega);rw [zm2] at ef
  have hok:=zsY (n:=ts.length) (r:=(1+R).toNat) (c:=(1+C).toNat) (g:=zkO l (at'+10) ((ts.map zac).length:Nat) 2) (by omega) (by omega) (fun i j x hx=>by
   have:=zso hp x hx;rw [yad] at this
   exact this)
  refine ⟨_,.put hk hok (by rw [yad,yci];omega) (by omega),?_⟩;generalize FlD _=F at *;generalize ts.map zac=T at *;generalize za3 l at' 4=P at *;generalize za3 l (at'+1) 6=W at *;have en:D.lst [.str "a",.str "b",.str "c",.str "sheet"]=.lst nmL:=rfl;simp [zbk,zas,zb4,en,e1,e2,e3,e4,ek,hw,ef]
 ·by_cases hw3:za3 l (at'+1) 6=3
  ·refine ⟨_,.take hk,?_⟩;generalize ts.map zac=T at *;generalize za3 l at' 4=P at *;generalize za3 l (at'+1) 6=W at *;have en:D.lst [.str "a",.str "b",.str "c",.str "sheet"]=.lst nmL:=rfl;simp [zbk,zas,zb4,en,e1,e2,ek,hw,hw3]
  ·obtain ⟨q0,q4⟩:=zbt l (at'+4) (many:=4) (by decide);obtain ⟨s0,s4⟩:=zbt l (at'+5) (many:=4) (by decide);obtain ⟨k1,hk1,ek1⟩:=zpK q0 q4;obtain ⟨k2,hk2,ek2⟩:=zpK s0 s4;have e3:=za1 (l:=l) (k:=at'+4) (many:=4) (S:=S) (by omega) (by decide);have e4:=za1 (l:=l) (k:=at'+5) (many:=4) (S:=S) (by omega) (by decide);have e5:=za1 (l:=l) (k:=at'+6) (many:=2) (S:=S) (by omega) (by decide);refine ⟨_,.join (b:=decide (za3 l (at'+6) 2=0)) hk hk1 hk2,?_⟩;generalize ts.map zac=T at *;generalize za3 l at' 4=P at *;generalize za3 l (at'+1) 6=W at *;generalize za3 l (at'+4) 4=Q at *;generalize za3 l (at'+5) 4=V at *;generalize za3 l (at'+6) 2=U at *;have en:D.lst [.str "a",.str "b",.str "c",.str "sheet"]=.lst nmL:=rfl;simp [zbk,zas,zb4,en,e1,e2,e3,e4,e5,ek,ek1,ek2,hw,hw3]
theorem zsr{k:Str}(h:zcL k):PyData.strOk k=true:=by
 rcases h with rfl | rfl | rfl | rfl<;>decide +kernel
def zst{x k:Str}(hx:PyData.strOk x=true)(hk:PyData.strOk k=true):neD (.str x) (.str k)=some (.bl (!decide (x=k))):=by
 unfold neD;rw [if_pos (by show (PyData.strOk x&&PyData.strOk k)=true;rw [hx,hk];rfl)]
 have e:zel (.str x) (.str k)=decide (x=k):=by
  have h:=zgW (.str x) (.str k) rfl rfl
  by_cases q:x=k
  ·rw [yaE q];exact h.mpr (by rw [q])
  ·rw [yaG q]
   cases hb:zel (.str x) (.str k) with
   | false=>rfl
   | true=>exact absurd (by cases h.mp hb;rfl) q
 rw [e]
def zs5:eqD (.str "put") (.str "put")=some (.bl true):=by kernel_rfl
def zqm:eqD (.str "take") (.str "put")=some (.bl false):=by kernel_rfl
def zs4:eqD (.str "take") (.str "take")=some (.bl true):=by kernel_rfl
def zgY:eqD (.str "join") (.str "put")=some (.bl false):=by kernel_rfl
def zgX:eqD (.str "join") (.str "take")=some (.bl false):=by kernel_rfl
def zu1:eqD (.str "join") (.str "join")=some (.bl true):=by kernel_rfl
def zu0:eqD (.str "put") (.str "join")=some (.bl false):=by kernel_rfl
def zuZ:eqD (.str "take") (.str "join")=some (.bl false):=by kernel_rfl
noncomputable def zgg(es:List (D×D)):Prop:=∀x d,zae x es=some d->zcL x
section
variable{S:Sto}{es:List (D×D)}{k k1 k2:Str}{F deed:D}
def zdn(ho:zai es=true)(hk:zgg es)(hn:zcL k)(hd:ixD deed (.int 1)=some (.str k)) :
  zb6 (.one 0) (zaj neD (zal 0) (zaj ixD (zal 1) (zah (.int 1)))) (zdk [(zan 0),(zaj ixD (zal 2) (zal 0))]) [none,some (false,deed),some (false,.dic es)] ((zbI es).map D.str) S=.ok (((zbo es).filter fun p=>!decide (p.1=k)).map fun p=>.tup [.str p.1,p.2]) S:=by
 rw [zeR (p:=fun d=>match d with | .str x=>!decide (x=k) | _=>false) (g:=fun d=>match d with | .str x=>.tup [.str x,(zae x es).getD .non] | _=>.non) (fun d hx0=>by
  obtain ⟨x,hx,rfl⟩:=yax.mp hx0;rw [za0] at hx;obtain ⟨p,hp,rfl⟩:=yax.mp hx;have hl:=zcU ho p hp;have en:=zst (zsr (hk _ _ hl)) (zsr hn)
  have ei:ixD (.dic es) (.str p.1)=some p.2:=by show (if zai es then zae p.1 es else none)=_;rw [if_pos ho,hl]
  refine ⟨_,rfl,?_,fun _=>?_⟩
  ·simp [hd,en]
  ·simp [ei,hl]),za0,ybv,List.filter_map,ybv]
 congr 1;have ef:((fun d=>match d with | D.str x=>!decide (x=k) | _=>false)∘D.str∘fun x:Str×D=>x.1)=fun p:Str×D=>!decide (p.1=k):=rfl
 rw [ef];apply List.map_congr_left;intro p hp;have hl:=zcU ho p (ycw.mp hp).1;show D.tup [.str p.1,(zae p.1 es).getD .non]=_;rw [hl];rfl
def zjC(ho:zai es=true):((((zbo es).filter fun p=>!decide (p.1=k))).map (·.1)).Nodup:=by
 have h:=zcs ho;rw [za0] at h;exact h.sublist ((List.filter_sublist).map _)
def zdm(ho:zai es=true):zhW [.lst (((zbo es).filter fun p=>!decide (p.1=k)).map fun p=>.tup [.str p.1,p.2])]=some (.dic (dropS k es)):=by
 rw [zfp (zjC ho),zeM ho]
def zld(ho:zai es=true):inD (.str k) (.dic es)=some (.bl (zae k es).isSome):=by
 show (zqT (.str k) (.dic es)).map _=_;show (if zai es then some (zae k es).isSome else none).map _=_;rw [if_pos ho];rfl
def zdV(ho:zai es=true):ziG (.str k) (.dic es)=some (.bl (!(zae k es).isSome)):=by
 show (zqT (.str k) (.dic es)).map _=_;show (if zai es then some (zae k es).isSome else none).map _=_;rw [if_pos ho];rfl
def zgO{d:D}(ho:zai es=true)(h:zae k es=some d):ixD (.dic es) (.str k)=some d:=by
 show (if zai es then zae k es else none)=_;rw [if_pos ho,h]
theorem zdl:∀{ds:List (D×D)},(dropS k ds).length<=ds.length
 | []=>yag _
 | (.str x,d)::r=>by
  unfold dropS;split
  ·exact ya4 _
  ·exact Nat.succ_le_succ zdl
 | (.non,_)::_=>yaK _
 | (.bl _,_)::_=>yaK _
 | (.int _,_)::_=>yaK _
 | (.tup _,_)::_=>yaK _
 | (.lst _,_)::_=>yaK _
 | (.dic _,_)::_=>yaK _
 | (.ref _,_)::_=>yaK _
 | (.exc _,_)::_=>yaK _
 | (.scr _,_)::_=>yaK _
def zkL{l:List (Str×D)}(h:l.length<=100000):(l.map fun p=>D.tup [.str p.1,p.2]).length<=100000:=by rw [yad];exact h
theorem zdj(hl:es.length<=1000)(ho:zai es=true):(((zbo es).filter fun p=>!decide (p.1=k)).map fun p=>D.tup [.str p.1,p.2]).length<=100000:=by
 refine zkL (yau (List.length_filter_le _ _) ?_);have:=zdJ ho;rw [za0,yad] at this;omega
def zqw(ho:zai es=true)(hl:es.length<=1000)(hk:zgg es)(hn:zcL k):zad [.dic es,.tup [.str "put",.str k,F]] S=.ok (.tup [.dic (putS k F (dropS k es)),.bl (zae k es).isSome]) S:=by
 have d0:ixD (.tup [.str "put",.str k,F]) (.int 0)=some (.str "put"):=zaf _ 0;have d1:ixD (.tup [.str "put",.str k,F]) (.int 1)=some (.str k):=zaf _ 1;have d2:ixD (.tup [.str "put",.str k,F]) (.int 2)=some F:=zaf _ 2;have ec:=zdn (S:=S) ho hk hn d1;have er:=zdm (k:=k) ho;have hz:=zdj (k:=k) hl ho;have ei:=zld (k:=k) ho
 have hP:∀ρ:Env,ρ[2]?=some (some (true,.dic (dropS k es)))->ρ[1]?=some (some (false,.tup [.str "put",.str k,F]))->zeZ 2 (zaj ixD (zal 1) (zah (.int 1))) (zaj ixD (zal 1) (zah (.int 2))) ρ S=.nx (ρ.set 2 (some (true,.dic (putS k F (dropS k es))))) S :=
  fun ρ h2 h1=>zkC h2 (zbu ho) (yau zdl (by omega)) (by rw [zif,zie,h1,zmT,ziO,zid,ziN,d2];rfl) (by rw [zif,zie,h1,zmT,ziO,zid,ziN,d1];rfl)
 generalize hdd:D.tup [.str "put",.str k,F]=deed at *;generalize (((zbo es).filter fun p=>!decide (p.1=k)).map fun p=>D.tup [.str p.1,p.2])=L at *;simp [zad,zas,zat,zfw,ho,ec,er,hz,d0,d1,zs5,hP,ei]
end
section
variable{S:Sto}{es:List (D×D)}{k k1 k2:Str}{F deed x y:D}{b:Bool}
def znu(ho:zai es=true)(hl:es.length<=1000)(hk:zgg es)(hn:zcL k)(h:zae k es=some F):zad [.dic es,.tup [.str "take",.str k]] S=.ok (.tup [.dic (dropS k es),F]) S:=by
 have d0:ixD (.tup [.str "take",.str k]) (.int 0)=some (.str "take"):=zaf _ 0;have d1:ixD (.tup [.str "take",.str k]) (.int 1)=some (.str k):=zaf _ 1;have ec:=zdn (S:=S) ho hk hn d1;have er:=zdm (k:=k) ho;have hz:=zdj (k:=k) hl ho;have ei:=zld (k:=k) ho;rw [h] at ei;have ex:=zgO ho h;generalize hdd:D.tup [.str "take",.str k]=deed at *;generalize (((zbo es).filter fun p=>!decide (p.1=k)).map fun p=>D.tup [.str p.1,p.2])=L at *;simp [zad,zas,zat,zfw,ho,ec,er,hz,d0,d1,zqm,zs4,ei,ex]
def zh2(ho:zai es=true)(hl:es.length<=1000)(hk:zgg es)(hn:zcL k)(h:zae k es=none):zad [.dic es,.tup [.str "take",.str k]] S=.ok (.tup [.dic es,.str "no name"]) S:=by
 have d0:ixD (.tup [.str "take",.str k]) (.int 0)=some (.str "take"):=zaf _ 0;have d1:ixD (.tup [.str "take",.str k]) (.int 1)=some (.str k):=zaf _ 1;have ec:=zdn (S:=S) ho hk hn d1;have er:=zdm (k:=k) ho;have hz:=zdj (k:=k) hl ho;have ei:=zld (k:=k) ho;rw [h] at ei;generalize hdd:D.tup [.str "take",.str k]=deed at *;generalize (((zbo es).filter fun p=>!decide (p.1=k)).map fun p=>D.tup [.str p.1,p.2])=L at *;simp [zad,zas,zat,zfw,ho,ec,er,hz,d0,d1,zqm,zs4,ei]
def zeT(ho:zai es=true)(hl:es.length<=1000)(hk:zgg es)(hn:zcL k)(h:zae k1 es=none\/zae k2 es=none):zad [.dic es,.tup [.str "join",.str k,.str k1,.str k2,.bl b]] S=.ok (.tup [.dic es,.str "no name"]) S:=by
 have d0:ixD (.tup [.str "join",.str k,.str k1,.str k2,.bl b]) (.int 0)=some (.str "join"):=zaf _ 0;have d1:ixD (.tup [.str "join",.str k,.str k1,.str k2,.bl b]) (.int 1)=some (.str k):=zaf _ 1;have d2:ixD (.tup [.str "join",.str k,.str k1,.str k2,.bl b]) (.int 2)=some (.str k1):=zaf _ 2;have d3:ixD (.tup [.str "join",.str k,.str k1,.str k2,.bl b]) (.int 3)=some (.str k2):=zaf _ 3;have ec:=zdn (S:=S) ho hk hn d1;have er:=zdm (k:=k) ho;have hz:=zdj (k:=k) hl ho;have n1:=zdV (k:=k1) ho;have n2:=zdV (k:=k2) ho;generalize hdd:D.tup [.str "join",.str k,.str k1,.str k2,.bl b]=deed at *;generalize (((zbo es).filter fun p=>!decide (p.1=k)).map fun p=>D.tup [.str p.1,p.2])=L at *
 cases h1:zae k1 es with
 | none =>
  rw [h1] at n1;simp [zad,zas,zat,zfw,ho,ec,er,hz,d0,d1,d2,d3,zgY,zgX,n1]
 | some x =>
  rw [h1] at n1 h
  rcases h with z | h
  ·cases z
  rw [h] at n2;simp [zad,zas,zat,zfw,ho,ec,er,hz,d0,d1,d2,d3,zgY,zgX,n1,n2]
variable{n c c':Nat}{rs rs':List (List D)}
theorem zgc(ho:zai es=true)(hl:es.length<=1000)(hk:zgg es)(hn:zcL k)(h1:zae k1 es=some (FlD rs))(h2:zae k2 es=some (FlD rs'))(f1:FlOk n c rs)(f2:FlOk n c' rs')(r1:rs.length<=6)(r2:rs'.length<=6)(hc:c<=6)(hc':c'<=6) :
  zad [.dic es,.tup [.str "join",.str k,.str k1,.str k2,.bl true]] S=.ok (if rs.length=rs'.length/\c+c'<=6 then .tup [.dic (putS k (FlD (zbU rs rs')) (dropS k es)),FlD (zbU rs rs')] else .tup [.dic es,.str "unlike"]) S:=by
 have d0:ixD (.tup [.str "join",.str k,.str k1,.str k2,.bl true]) (.int 0)=some (.str "join"):=zaf _ 0;have d1:ixD (.tup [.str "join",.str k,.str k1,.str k2,.bl true]) (.int 1)=some (.str k):=zaf _ 1;have d2:ixD (.tup [.str "join",.str k,.str k1,.str k2,.bl true]) (.int 2)=some (.str k1):=zaf _ 2;have d3:ixD (.tup [.str "join",.str k,.str k1,.str k2,.bl true]) (.int 3)=some (.str k2):=zaf _ 3;have d4:ixD (.tup [.str "join",.str k,.str k1,.str k2,.bl true]) (.int 4)=some (.bl true):=zaf _ 4;have ec:=zdn (S:=S) ho hk hn d1;have er:=zdm (k:=k) ho;have hz:=zdj (k:=k) hl ho;have n1:=zdV (k:=k1) ho;have n2:=zdV (k:=k2) ho;have x1:=zgO ho h1;have x2:=zgO ho h2;rw [h1] at n1;rw [h2] at n2;generalize hdd:D.tup [.str "join",.str k,.str k1,.str k2,.bl true]=deed at *;generalize (((zbo es).filter fun p=>!decide (p.1=k)).map fun p=>D.tup [.str p.1,p.2])=L at *
 have ha:zb8 (FlD rs) (FlD rs')=some (FlD (rs++rs')):=by
  unfold FlD;show (if zaK _ then some (D.tup (rs.map D.tup++rs'.map D.tup)) else none)=_;rw [if_pos (show zaK _=true from yaE (by rw [yad,yad];omega)),ybt]
 have e1:zcO [FlD rs]=some (.int rs.length):=by unfold FlD;rw [zd2,yad]
 have e2:zcO [FlD rs']=some (.int rs'.length):=by unfold FlD;rw [zd2,yad]
 by_cases he:rs.length=rs'.length
 ·have fj:=f1.beside f2 he;rw [<-he] at e2
  have ecj:zb6 (.one 0) zeY (zaj zb8 (zaj ixD (zal 1) (zal 0)) (zaj ixD (zal 2) (zal 0))) [none,some (false,FlD rs),some (false,FlD rs')] (zaF 0 rs.length) S=.ok ((zbU rs rs').map D.tup) S:=by
   rw [zbv (g:=fun d=>match d with | .int i=>.tup ((rs.getD i.toNat [])++(rs'.getD i.toNat [])) | _=>.non) (fun d hd=>by
    obtain ⟨i,rfl,hi⟩:=zkz hd
    have hi1:i<rs.length:=by omega
    have hi2:i<rs'.length:=by omega
    have g1:ixD (FlD rs) (.int i)=some (.tup rs[i]):=by unfold FlD;rw [zqX,zaf,yao,yac hi1];rfl
    have g2:ixD (FlD rs') (.int i)=some (.tup rs'[i]):=by unfold FlD;rw [zqX,zaf,yao,yac hi2];rfl
    have l1:=(f1.row _ (List.getElem_mem hi1)).1;have l2:=(f2.row _ (List.getElem_mem hi2)).1
    have hs:rs[i].length+rs'[i].length<=100000:=by omega
    refine ⟨_,rfl,?_⟩
    have q1:rs.getD i []=rs[i]:=by rw [yaL,yac hi1];rfl
    have q2:rs'.getD i []=rs'[i]:=by rw [yaL,yac hi2];rfl
    simp only [ycP,q1,q2];generalize rs[i]=u at *;generalize rs'[i]=v at *;generalize FlD rs=A at *;generalize FlD rs'=B at *
    simp [g1,g2,hs])]
   congr 1;apply ycQ;intro i
   by_cases hi:i<rs.length
   ·have hi2:i<rs'.length:=by omega
    unfold zbU zaF;rw [yao,yao,yao,yao,List.getElem?_range (by omega)];have hzp:(List.zip rs rs')[i]?=some (rs[i],rs'[i]):=List.getElem?_zip_eq_some.mpr ⟨yac hi,yac hi2⟩;rw [hzp];simp [hi,hi2]
   ·rw [List.getElem?_eq_none (by rw [yad,zgz];omega),List.getElem?_eq_none (by rw [yad,zct];omega)]
  have hzj:((zbU rs rs').map D.tup).length<=100000:=by rw [yad,zct];omega
  have et:zcQ [.lst ((zbU rs rs').map D.tup)]=some (FlD (zbU rs rs')):=rfl
  have ej:zcO [FlD (zbU rs rs')]=some (.int rs.length):=by unfold FlD;rw [zd2,yad,zct,<-he,Nat.min_self]
  obtain ⟨j0,aj,lj⟩:=at0 fj;have aj':ixD (FlD (zbU rs rs')) (.int 0)=some (.tup j0):=aj
  have lj':zcO [.tup j0]=some (.int (c+c':Nat)):=by rw [zd2,lj]
  have hr:decide ((6:Int)<rs.length)=false:=by simp;omega
  have hP:∀ρ:Env,ρ[2]?=some (some (true,.dic (dropS k es)))->ρ[1]?=some (some (false,deed))->ρ[6]?=some (some (false,FlD (zbU rs rs')))->zeZ 2 (zaj ixD (zal 1) (zah (.int 1))) (zan 6) ρ S=.nx (ρ.set 2 (some (true,.dic (putS k (FlD (zbU rs rs')) (dropS k es))))) S :=
   fun ρ h2 h1 h6=>zkC h2 (zbu ho) (yau zdl (by omega)) (by rw [zjV,h6];rfl) (by rw [zif,zie,h1,zmT,ziO,zid,ziN,d1];rfl)
  have hrr:-1000000<=(rs.length:Int)/\(rs.length:Int)<=1000000:=by omega
  have hq:(6:Int)<(rs.length:Int)↔False:=⟨fun z=>by omega,False.elim⟩;generalize FlD (rs++rs')=AB at *;generalize FlD (zbU rs rs')=J at *;generalize (zbU rs rs').map D.tup=JL at *;generalize FlD rs=A at *;generalize FlD rs'=B at *
  by_cases h6:c+c'<=6
  ·have hc6:decide ((6:Int)<((c+c':Nat):Int))=false:=yaG (by omega);rw [if_pos ⟨he,h6⟩];generalize ((c+c':Nat):Int)=Q at *;generalize ((rs.length:Nat):Int)=R at *;simp [zad,zas,zat,zfw,ho,ec,er,hz,d0,d1,d2,d3,d4,zgY,zgX,n1,n2,x1,x2,e1,e2,ha,ecj,hzj,et,ej,aj',lj',hP,hrr,hr,hc6]
  ·have hc6:decide ((6:Int)<((c+c':Nat):Int))=true:=yaE (by omega);rw [if_neg (fun z=>h6 z.2)];generalize ((c+c':Nat):Int)=Q at *;generalize ((rs.length:Nat):Int)=R at *;simp [zad,zas,zat,zfw,ho,ec,er,hz,d0,d1,d2,d3,d4,zgY,zgX,n1,n2,x1,x2,e1,e2,ha,ecj,hzj,et,ej,aj',lj',hrr,hr,hc6]
 ·have he':¬ ((rs.length:Int)=rs'.length):=by omega
  generalize FlD (rs++rs')=AB at *;generalize FlD (zbU rs rs')=J at *;generalize FlD rs=A at *;generalize FlD rs'=B at *;rw [if_neg (fun z=>he z.1)];simp [zad,zas,zat,zfw,ho,ec,er,hz,d0,d1,d2,d3,d4,zgY,zgX,n1,n2,x1,x2,e1,e2,he']
end
section
variable{S:Sto}{es:List (D×D)}{k k1 k2:Str}{n c c':Nat}{rs rs':List (List D)}
theorem zfa(ho:zai es=true)(hl:es.length<=1000)(hk:zgg es)(hn:zcL k)(h1:zae k1 es=some (FlD rs))(h2:zae k2 es=some (FlD rs'))(f1:FlOk n c rs)(f2:FlOk n c' rs')(r1:rs.length<=6)(r2:rs'.length<=6)(hc:c<=6)(hc':c'<=6) :
  zad [.dic es,.tup [.str "join",.str k,.str k1,.str k2,.bl false]] S=.ok (if c=c'/\rs.length+rs'.length<=6 then .tup [.dic (putS k (FlD (rs++rs')) (dropS k es)),FlD (rs++rs')] else .tup [.dic es,.str "unlike"]) S:=by
 have d0:ixD (.tup [.str "join",.str k,.str k1,.str k2,.bl false]) (.int 0)=some (.str "join"):=zaf _ 0;have d1:ixD (.tup [.str "join",.str k,.str k1,.str k2,.bl false]) (.int 1)=some (.str k):=zaf _ 1;have d2:ixD (.tup [.str "join",.str k,.str k1,.str k2,.bl false]) (.int 2)=some (.str k1):=zaf _ 2;have d3:ixD (.tup [.str "join",.str k,.str k1,.str k2,.bl false]) (.int 3)=some (.str k2):=zaf _ 3;have d4:ixD (.tup [.str "join",.str k,.str k1,.str k2,.bl false]) (.int 4)=some (.bl false):=zaf _ 4;have ec:=zdn (S:=S) ho hk hn d1;have er:=zdm (k:=k) ho;have hz:=zdj (k:=k) hl ho;have n1:=zdV (k:=k1) ho;have n2:=zdV (k:=k2) ho;have x1:=zgO ho h1;have x2:=zgO ho h2;rw [h1] at n1;rw [h2] at n2;generalize hdd:D.tup [.str "join",.str k,.str k1,.str k2,.bl false]=deed at *;generalize (((zbo es).filter fun p=>!decide (p.1=k)).map fun p=>D.tup [.str p.1,p.2])=L at *
 have ha:zb8 (FlD rs) (FlD rs')=some (FlD (rs++rs')):=by
  unfold FlD;show (if zaK _ then some (D.tup (rs.map D.tup++rs'.map D.tup)) else none)=_;rw [if_pos (show zaK _=true from yaE (by rw [yad,yad];omega)),ybt]
 obtain ⟨a0,aa,la⟩:=at0 f1;obtain ⟨b0,ab,lb⟩:=at0 f2;have aa':ixD (FlD rs) (.int 0)=some (.tup a0):=aa;have ab':ixD (FlD rs') (.int 0)=some (.tup b0):=ab
 have la':zcO [.tup a0]=some (.int c):=by rw [zd2,la]
 have lb':zcO [.tup b0]=some (.int c'):=by rw [zd2,lb]
 have nn:zcV (.bl false)=some (.bl true):=rfl
 by_cases he:c=c'
 ·subst he;have fj:=f1.below f2
  have ej:zcO [FlD (rs++rs')]=some (.int (rs.length+rs'.length:Nat)):=by unfold FlD;rw [zd2,yad,yan]
  obtain ⟨j0,aj,lj⟩:=at0 fj;have aj':ixD (FlD (rs++rs')) (.int 0)=some (.tup j0):=aj
  have lj':zcO [.tup j0]=some (.int c):=by rw [zd2,lj]
  have hr:decide ((6:Int)<c)=false:=yaG (by omega)
  have hP:∀ρ:Env,ρ[2]?=some (some (true,.dic (dropS k es)))->ρ[1]?=some (some (false,deed))->ρ[6]?=some (some (false,FlD (rs++rs')))->zeZ 2 (zaj ixD (zal 1) (zah (.int 1))) (zan 6) ρ S=.nx (ρ.set 2 (some (true,.dic (putS k (FlD (rs++rs')) (dropS k es))))) S :=
   fun ρ h2 h1 h6=>zkC h2 (zbu ho) (yau zdl (by omega)) (by rw [zjV,h6];rfl) (by rw [zif,zie,h1,zmT,ziO,zid,ziN,d1];rfl)
  generalize FlD (rs++rs')=J at *;generalize FlD rs=A at *;generalize FlD rs'=B at *
  by_cases h6:rs.length+rs'.length<=6
  ·have hc6:decide ((6:Int)<((rs.length+rs'.length:Nat):Int))=false:=yaG (by omega);rw [if_pos ⟨rfl,h6⟩];generalize ((rs.length+rs'.length:Nat):Int)=Q at *;generalize ((c:Nat):Int)=R at *;simp [zad,zas,zat,zfw,ho,ec,er,hz,d0,d1,d2,d3,d4,zgY,zgX,n1,n2,x1,x2,aa',ab',la',lb',nn,ha,ej,aj',lj',hP,hr,hc6]
  ·have hc6:decide ((6:Int)<((rs.length+rs'.length:Nat):Int))=true:=yaE (by omega);rw [if_neg (fun z=>h6 z.2)];generalize ((rs.length+rs'.length:Nat):Int)=Q at *;generalize ((c:Nat):Int)=R at *;simp [zad,zas,zat,zfw,ho,ec,er,hz,d0,d1,d2,d3,d4,zgY,zgX,n1,n2,x1,x2,aa',ab',la',lb',nn,ha,ej,aj',lj',hr,hc6]
 ·have he':¬ ((c:Int)=c'):=by omega
  generalize FlD (rs++rs')=J at *;generalize FlD rs=A at *;generalize FlD rs'=B at *;rw [if_neg (fun z=>he z.1)];simp [zad,zas,zat,zfw,ho,ec,er,hz,d0,d1,d2,d3,d4,zgY,zgX,n1,n2,x1,x2,aa',ab',la',lb',nn,he']
variable{m:Nat}{ts:D}{ds:List (D×D)}{dn un:List D}
def zkn(h:S[m]?=some (alb ts ds dn un))(ho:zai ds=true)(hl:ds.length<64):zbT [.ref m] S=.ok (.lst ((zdr (zbI ds)).map D.str)) S:=by
 have e1:∀ρ:Env,ρ[0]?=some (some (false,.ref m))->zjE "Album" "named" 0 ρ S=.ok (.lst ((zdr (zbI ds)).map D.str)) S:=fun ρ h0=>by
  unfold zjE;rw [zch h0 h ho];dsimp only;rw [if_pos hl]
 simp [zbT,zas,zcG,e1]
def zjf(ds:List (D×D)):List (Str×D):=(zdr (zbI ds)).map fun x=>(x,(zae x ds).getD .non)
def zgp:(zjf ds).map (·.1)=zdr (zbI ds):=by
 unfold zjf;rw [ybv];exact List.map_id _
def zdS(ho:zai ds=true):((zjf ds).map (·.1)).Nodup:=by
 rw [zgp];exact (zbm _).nodup_iff.mpr (zcs ho)
def zkU(ho:zai ds=true)(x:Str):zae x (unS (zjf ds))=zae x ds:=by
 obtain ⟨o,pe⟩:=zec (zdS ho)
 cases hx:zae x ds with
 | none =>
  rw [zbH o,za0,pe,zgp];intro z;exact (zbH ho).mp hx ((zbm _).mem_iff.mp z)
 | some d =>
  have hm:x∈zdr (zbI ds):=(zbm _).mem_iff.mpr (by
   rw [za0]
   exact yax.mpr ⟨(x,d),zgJ hx,rfl⟩)
  have:(x,d)∈zbo (unS (zjf ds)):=by
   rw [pe];exact yax.mpr ⟨x,hm,by rw [hx];rfl⟩
  exact zcU o _ this
def Mp.srt(ho:zai ds=true):Mp (unS (zjf ds)) ds:=⟨(zec (zdS ho)).1,ho,zkU ho⟩
theorem zo5(h:S[m]?=some (alb ts ds dn un))(ho:zai ds=true)(hl:ds.length<64)(hk:zgg ds):zaN [.ref m] S=.ok (.dic (unS (zjf ds))) S:=by
 have e1:=zkn h ho hl;have m1:zaz "Album" "names" (.ref m) S=true:=zaC h (by decide);have m2:zaz "Album" "floor_of" (.ref m) S=true:=zaC h (by decide)
 have ec:zb6 (.one 0) zeY (zdk [(zan 0),(zaR "Album" "floor_of" zar (zan 1) [(zan 0)])]) [none,some (false,.ref m)] ((zdr (zbI ds)).map D.str) S=.ok ((zjf ds).map fun p=>.tup [.str p.1,p.2]) S:=by
  rw [zbv (g:=fun d=>match d with | .str x=>.tup [.str x,(zae x ds).getD .non] | _=>.non) (fun d hd0=>by
   obtain ⟨x,hx,rfl⟩:=yax.mp hd0;have hx':=(zbm _).mem_iff.mp hx;rw [za0] at hx';obtain ⟨p,hp,rfl⟩:=yax.mp hx';have hl:=zcU ho p hp;have e2:=zbj (hk _ _ hl) h ho hl;refine ⟨_,rfl,?_⟩
   simp [m2,e2,hl]),ybv]
  unfold zjf;rw [ybv];rfl
 have hz:((zjf ds).map fun p=>D.tup [.str p.1,p.2]).length<=100000:=by
  rw [yad];unfold zjf;rw [yad,(zbm _).length_eq,zdJ ho];omega
 have ed:=zfp (zdS ho);generalize ((zjf ds).map fun p=>D.tup [.str p.1,p.2])=L at *;simp [zaN,zas,zcE,zfw,m1,e1,ec,hz,ed]
end
def zjS(und:Str->Str->Bool)(isx:Str->Str->Option Bool):Fs :=
  (zao (sFz [] (sIf (zaj eqD (zaj ixD (zal 1) (zah (.int 0))) (zah (.str "join"))) (zao (sFz [0,1] (zbn (zdA und isx [0,1] (zaR "Album" "join" zam (zan 0) [(zaj ixD (zal 1) (zah (.int 1))),(zaj ixD (zal 1) (zah (.int 2))),(zaj ixD (zal 1) (zah (.int 3))),(zaj ixD (zal 1) (zah (.int 4)))])))) sNx) sNx))
  (zao (sFz [0,1] (zbn (zdA und isx [0,1] (eIf (zaj eqD (zaj ixD (zal 1) (zah (.int 0))) (zah (.str "put"))) (zaR "Album" "put" zaD (zan 0) [(zaj ixD (zal 1) (zah (.int 1))),(zaj ixD (zal 1) (zah (.int 2)))]) (zaR "Album" "take" zay (zan 0) [(zaj ixD (zal 1) (zah (.int 1)))])))))
  sNx))
structure ClsT(und:Str->Str->Bool)(isx:Str->Str->Option Bool):Prop where
 u1:und "NoName" "FloorError" = true
 u2:und "Unlike" "FloorError" = true
 c1:∀S,zlU isx "NoName" S=.ok (.str "no name") S
 c2:∀S,zlU isx "Unlike" S=.ok (.str "unlike") S
def zev(und:Str->Str->Bool)(isx:Str->Str->Option Bool):Out D->Out D | .ok d S'=>.ok d S' | .exc c S'=>if und c "FloorError" then zlU isx c S' else .bad | .bad=>.bad
section
variable{und:Str->Str->Bool}{isx:Str->Str->Option Bool}{S:Sto}{m:Nat}{deed:D}
def zij{ρ:Env}{caps:List Nat}{fb:Fe}{ds:List D}(h:zg8 ρ caps=some ds):zdA und isx caps fb ρ S=zev und isx (fb (ds.map fun d=>some (false,d)) S):=by
 unfold zdA;rw [h];dsimp only
 cases fb (ds.map fun d=>some (false,d)) S<;>rfl
def znd{k k1 k2:Str}{b:Bool}(hm:zaz "Album" "join" (.ref m) S=true):zbx 2 false (zjS und isx) [.ref m,.tup [.str "join",.str k,.str k1,.str k2,.bl b]] S=zev und isx (zam [.ref m,.str k,.str k1,.str k2,.bl b] S):=by
 have d0:ixD (.tup [.str "join",.str k,.str k1,.str k2,.bl b]) (.int 0)=some (.str "join"):=zaf _ 0;have d1:ixD (.tup [.str "join",.str k,.str k1,.str k2,.bl b]) (.int 1)=some (.str k):=zaf _ 1;have d2:ixD (.tup [.str "join",.str k,.str k1,.str k2,.bl b]) (.int 2)=some (.str k1):=zaf _ 2;have d3:ixD (.tup [.str "join",.str k,.str k1,.str k2,.bl b]) (.int 3)=some (.str k2):=zaf _ 3;have d4:ixD (.tup [.str "join",.str k,.str k1,.str k2,.bl b]) (.int 4)=some (.bl b):=zaf _ 4;generalize D.tup [.str "join",.str k,.str k1,.str k2,.bl b]=deed at *
 have ht:zdA und isx [0,1] (zaR "Album" "join" zam (zan 0) [(zaj ixD (zal 1) (zah (.int 1))),(zaj ixD (zal 1) (zah (.int 2))),(zaj ixD (zal 1) (zah (.int 3))),(zaj ixD (zal 1) (zah (.int 4)))]) [some (false,.ref m),some (false,deed)] S=zev und isx (zam [.ref m,.str k,.str k1,.str k2,.bl b] S):=by
  rw [zij (ds:=[.ref m,deed]) rfl];simp [hm,d1,d2,d3,d4]
 cases hx:zev und isx (zam [.ref m,.str k,.str k1,.str k2,.bl b] S)<;>rw [hx] at ht<;>simp [zas,zjS,d0,zu1,ht]
 all_goals rfl
def zqn{k:Str}{F:D}(hm:zaz "Album" "put" (.ref m) S=true):zbx 2 false (zjS und isx) [.ref m,.tup [.str "put",.str k,F]] S=zev und isx (zaD [.ref m,.str k,F] S):=by
 have d0:ixD (.tup [.str "put",.str k,F]) (.int 0)=some (.str "put"):=zaf _ 0;have d1:ixD (.tup [.str "put",.str k,F]) (.int 1)=some (.str k):=zaf _ 1;have d2:ixD (.tup [.str "put",.str k,F]) (.int 2)=some F:=zaf _ 2;generalize D.tup [.str "put",.str k,F]=deed at *
 have ht:zdA und isx [0,1] (eIf (zaj eqD (zaj ixD (zal 1) (zah (.int 0))) (zah (.str "put"))) (zaR "Album" "put" zaD (zan 0) [(zaj ixD (zal 1) (zah (.int 1))),(zaj ixD (zal 1) (zah (.int 2)))]) (zaR "Album" "take" zay (zan 0) [(zaj ixD (zal 1) (zah (.int 1)))])) [some (false,.ref m),some (false,deed)] S=zev und isx (zaD [.ref m,.str k,F] S):=by
  rw [zij (ds:=[.ref m,deed]) rfl];simp [hm,d0,d1,d2,zs5]
 cases hx:zev und isx (zaD [.ref m,.str k,F] S)<;>rw [hx] at ht<;>simp [zas,zjS,d0,zu0,ht]
 all_goals rfl
def znc{k:Str}(hm:zaz "Album" "take" (.ref m) S=true):zbx 2 false (zjS und isx) [.ref m,.tup [.str "take",.str k]] S=zev und isx (zay [.ref m,.str k] S):=by
 have d0:ixD (.tup [.str "take",.str k]) (.int 0)=some (.str "take"):=zaf _ 0;have d1:ixD (.tup [.str "take",.str k]) (.int 1)=some (.str k):=zaf _ 1;generalize D.tup [.str "take",.str k]=deed at *
 have ht:zdA und isx [0,1] (eIf (zaj eqD (zaj ixD (zal 1) (zah (.int 0))) (zah (.str "put"))) (zaR "Album" "put" zaD (zan 0) [(zaj ixD (zal 1) (zah (.int 1))),(zaj ixD (zal 1) (zah (.int 2)))]) (zaR "Album" "take" zay (zan 0) [(zaj ixD (zal 1) (zah (.int 1)))])) [some (false,.ref m),some (false,deed)] S=zev und isx (zay [.ref m,.str k] S):=by
  rw [zij (ds:=[.ref m,deed]) rfl];simp [hm,d0,d1,zqm]
 cases hx:zev und isx (zay [.ref m,.str k] S)<;>rw [hx] at ht<;>simp [zas,zjS,d0,zuZ,ht]
 all_goals rfl
end
def zqg{n c:Nat}{rs:List (List D)}(h:FlOk n c rs):(FlD rs).pl=true/\∀j,D.fit (j+2) (FlD rs)=true:=by
 have hc:∀r∈rs,∀d∈r,d.pl=true/\∀j,D.fit j d=true:=fun r hr d hd=>by
  rcases (h.row r hr).2 d hd with rfl | ⟨x,rfl,_,_⟩
  ·exact ⟨rfl,fun j=>zqj⟩
  ·exact ⟨rfl,fun j=>zlm⟩
 refine ⟨?_,fun j=>?_⟩
 ·show D.pls (rs.map D.tup)=true;rw [D.pls_iff];intro d hd;obtain ⟨r,hr,rfl⟩:=yax.mp hd;show D.pls r=true;rw [D.pls_iff];exact fun d hd=>(hc r hr d hd).1
 ·show D.fits (j+1) (rs.map D.tup)=true;rw [D.fits_iff];intro d hd;obtain ⟨r,hr,rfl⟩:=yax.mp hd;show D.fits j r=true;rw [D.fits_iff];exact fun d hd=>(hc r hr d hd).2 j
noncomputable def zja(n:Nat)(d:D):Prop:=∃rs c,d=FlD rs/\FlOk n c rs/\rs.length<=6/\c<=6
structure AV(n:Nat)(ds:List (D×D)):Prop where
 key:zgg ds
 val:∀x d,zae x ds=some d->zja n d
section
variable{n:Nat}{ds es:List (D×D)}{k:Str}{d:D}
theorem zja.pl(h:zja n d):d.pl=true/\d.fit 8=true/\d.fit 9=true/\zcu d=false:=by
 obtain ⟨rs,c,rfl,f,_,_⟩:=h;exact ⟨(zqg f).1,(zqg f).2 6,(zqg f).2 7,rfl⟩
def AV.plv(h:AV n ds):PlV ds:=fun x d hx=>⟨(h.val x d hx).pl.1,(h.val x d hx).pl.2.1⟩
def AV.of(h:AV n ds)(e:∀x,zae x ds=zae x es):AV n es:=⟨fun x d hx=>h.key x d (by rw [e];exact hx),fun x d hx=>h.val x d (by rw [e];exact hx)⟩
def AV.put(h:AV n ds)(ho:zai ds=true)(hk:zcL k)(hd:zja n d):AV n (putS k d ds):=by
 refine ⟨fun x e hx=>?_,fun x e hx=>?_⟩<;>rw [zdg ho] at hx<;>split at hx
 ·rename_i q;rw [<-q];exact hk
 ·exact h.key x e hx
 ·cases hx;exact hd
 ·exact h.val x e hx
def AV.drop(h:AV n ds)(ho:zai ds=true):AV n (dropS k ds):=by
 refine ⟨fun x e hx=>?_,fun x e hx=>?_⟩<;>rw [zb1 ho] at hx<;>split at hx
 ·cases hx
 ·exact h.key x e hx
 ·cases hx
 ·exact h.val x e hx
theorem zfK:∀{ds:List (D×D)},(putS k d ds).length<=ds.length+1
 | []=>yag _
 | (.str x,e)::r=>by
  unfold putS;split
  ·exact ya4 _
  ·exact Nat.succ_le_succ zfK
 | (.non,_)::_=>by show 1<=_;rw [yaf];omega
 | (.bl _,_)::_=>by show 1<=_;rw [yaf];omega
 | (.int _,_)::_=>by show 1<=_;rw [yaf];omega
 | (.tup _,_)::_=>by show 1<=_;rw [yaf];omega
 | (.lst _,_)::_=>by show 1<=_;rw [yaf];omega
 | (.dic _,_)::_=>by show 1<=_;rw [yaf];omega
 | (.ref _,_)::_=>by show 1<=_;rw [yaf];omega
 | (.exc _,_)::_=>by show 1<=_;rw [yaf];omega
 | (.scr _,_)::_=>by show 1<=_;rw [yaf];omega
def Mp.putd(M:Mp ds es):Mp (putS k d ds) (putS k d (dropS k es)) where
 l:=zdH M.l
 r:=zdH (zbu M.r)
 eq:=fun x=>by
  rw [zdg M.l,zdg (zbu M.r),zb1 M.r]
  by_cases q:k=x
  ·rw [if_pos q,if_pos q]
  ·rw [if_neg q,if_neg q,if_neg q];exact M.eq x
def Mp.dropd(M:Mp ds es):Mp (dropS k ds) (dropS k es):=⟨zbu M.l,zbu M.r,fun x=>by rw [zb1 M.l,zb1 M.r,M.eq]⟩
inductive DueOk(n:Nat):D->Prop
 | bl (b:Bool):DueOk n (.bl b)
 | fl {d:D}:zja n d->DueOk n d
def zs6{d:D}(h:DueOk n d):neD d d=some (.bl false):=by
 cases h with
 | bl b=>cases b<;>kernel_rfl
 | fl h=>exact zfO h.pl.1 h.pl.2.2.1
structure Done(S S':Sto)(m:Nat)(tl:List D)(n:Nat)(ds es es':List (D×D))(dn:List D)(deed due:D):Prop where
 ex:∃(w k:Str) (new:D),(∃b,deed=.tup (.str w::b))/\(w = "put" \/ w = "take" \/ w = "join")/\zcL k/\(new=.non\/zja n new)/\DueOk n due/\Mp (nmd k new ds) es'/\AV n (nmd k new ds)/\(nmd k new ds).length<=ds.length+1 ∧
  S'=S.set m (alb (.tup tl) (nmd k new ds) (dn++[.tup [.str w,.str k,(zae k ds).getD .non,new]]) [])
def zdU(h:zcu d=false):nmd k d ds=putS k d ds:=by
 unfold nmd
 cases d<;>first | rfl | cases h
theorem zlx{und:Str->Str->Bool}{isx:Str->Str->Option Bool}(C:ClsT und isx){S:Sto}{m:Nat}{tl dn un:List D}{deed:D}(h:S[m]?=some (alb (.tup tl) ds dn un))(M:Mp ds es)(V:AV tl.length ds)(hl:ds.length<=60)(hd:dn.length<=1000)(Dd:DeedOk tl.length deed) :
  ∃es' due S',(∀S0,zad [.dic es,deed] S0=.ok (.tup [.dic es',due]) S0)/\zbx 2 false (zjS und isx) [.ref m,deed] S=.ok due S' ∧
   ((es'=es/\S'=S/\(due=.str "no name" \/ due=.str "unlike"))\/Done S S' m tl tl.length ds es es' dn deed due):=by
 have Ve:=V.of M.eq
 have hle:es.length<=1000:=by rw [<-M.len];omega
 cases Dd with
 | put hk hf hr hc =>
  rename_i k rs c;have FV:zja tl.length (FlD rs):=⟨rs,c,rfl,hf,hr,hc⟩;have ef:=zbZ (S:=S) hf (by omega) (by omega);rw [yaE ⟨hr,hc⟩] at ef;have ep:=zkm hk FV.pl.2.2.2 h M.l (by omega) (by omega) ef;have e2:=zqn (und:=und) (isx:=isx) (k:=k) (F:=FlD rs) (m:=m) (S:=S) (zaC h (by decide));rw [ep] at e2
  refine ⟨_,_,_,fun S0=>zqw M.r hle Ve.key hk,by rw [e2,<-M.eq];rfl,.inr ⟨"put",k,FlD rs,⟨_,rfl⟩,.inl rfl,hk,.inr FV,.bl _,?_,?_,?_,?_⟩⟩<;>rw [zdU FV.pl.2.2.2]
  ·exact M.putd
  ·exact V.put M.l hk FV
  ·exact zfK
 | take hk =>
  rename_i k;have e2:=znc (und:=und) (isx:=isx) (k:=k) (m:=m) (S:=S) (zaC h (by decide))
  cases hx:zae k ds with
  | none =>
   rw [zhA hk h M.l hx] at e2;refine ⟨es,.str "no name",S,fun S0=>zh2 M.r hle Ve.key hk (by rw [<-M.eq];exact hx),?_,.inl ⟨rfl,rfl,.inl rfl⟩⟩;rw [e2];show (if und "NoName" "FloorError" then _ else _)=_;rw [if_pos C.u1,C.c1]
  | some F =>
   rw [zmc hk h M.l (by omega) (by omega) hx] at e2;refine ⟨_,F,_,fun S0=>znu M.r hle Ve.key hk (by rw [<-M.eq];exact hx),e2,.inr ⟨"take",k,.non,⟨_,rfl⟩,.inr (.inl rfl),hk,.inl rfl,.fl (V.val k F hx),M.dropd,V.drop M.l,yau zdl (ya4 _),by rw [hx];rfl⟩⟩
 | join hk hk1 hk2 =>
  rename_i k k1 k2 b;have e2:=znd (und:=und) (isx:=isx) (k:=k) (k1:=k1) (k2:=k2) (b:=b) (m:=m) (S:=S) (zaC h (by decide))
  have no:(∀S0,zad [.dic es,.tup [.str "join",.str k,.str k1,.str k2,.bl b]] S0=.ok (.tup [.dic es,.str "no name"]) S0)->zam [.ref m,.str k,.str k1,.str k2,.bl b] S=.exc "NoName" S->∃es' due S',(∀S0,zad [.dic es,.tup [.str "join",.str k,.str k1,.str k2,.bl b]] S0=.ok (.tup [.dic es',due]) S0)/\zbx 2 false (zjS und isx) [.ref m,.tup [.str "join",.str k,.str k1,.str k2,.bl b]] S=.ok due S' ∧
   ((es'=es/\S'=S/\(due=.str "no name" \/ due=.str "unlike"))\/Done S S' m tl tl.length ds es es' dn (.tup [.str "join",.str k,.str k1,.str k2,.bl b]) due):=fun hb hj=>by
   rw [hj] at e2;refine ⟨es,.str "no name",S,hb,?_,.inl ⟨rfl,rfl,.inl rfl⟩⟩;rw [e2];show (if und "NoName" "FloorError" then _ else _)=_;rw [if_pos C.u1,C.c1]
  have un:(∀S0,zad [.dic es,.tup [.str "join",.str k,.str k1,.str k2,.bl b]] S0=.ok (.tup [.dic es,.str "unlike"]) S0)->zam [.ref m,.str k,.str k1,.str k2,.bl b] S=.exc "Unlike" S->∃es' due S',(∀S0,zad [.dic es,.tup [.str "join",.str k,.str k1,.str k2,.bl b]] S0=.ok (.tup [.dic es',due]) S0)/\zbx 2 false (zjS und isx) [.ref m,.tup [.str "join",.str k,.str k1,.str k2,.bl b]] S=.ok due S' ∧
   ((es'=es/\S'=S/\(due=.str "no name" \/ due=.str "unlike"))\/Done S S' m tl tl.length ds es es' dn (.tup [.str "join",.str k,.str k1,.str k2,.bl b]) due):=fun hb hj=>by
   rw [hj] at e2;refine ⟨es,.str "unlike",S,hb,?_,.inl ⟨rfl,rfl,.inr rfl⟩⟩;rw [e2];show (if und "Unlike" "FloorError" then _ else _)=_;rw [if_pos C.u2,C.c2]
  cases hx:zae k1 ds with
  | none=>exact no (fun S0=>zeT M.r hle Ve.key hk (.inl (by rw [<-M.eq];exact hx))) (zgv hk hk1 h M.l hx)
  | some x =>
   cases hy:zae k2 ds with
   | none=>exact no (fun S0=>zeT M.r hle Ve.key hk (.inr (by rw [<-M.eq];exact hy))) (zgu hk hk1 hk2 h M.l hx hy)
   | some y =>
    obtain ⟨rs,c,rfl,f1,r1,c1⟩:=V.val k1 x hx;obtain ⟨rs',c',rfl,f2,r2,c2⟩:=V.val k2 y hy
    have hx':zae k1 es=some (FlD rs):=by rw [<-M.eq];exact hx
    have hy':zae k2 es=some (FlD rs'):=by rw [<-M.eq];exact hy
    have yes:∀(z:List (List D)) (cz:Nat),FlOk tl.length cz z->z.length<=6->cz<=6->zjw b (FlD rs) (FlD rs') S=.ok (FlD z) S->(∀S0,zad [.dic es,.tup [.str "join",.str k,.str k1,.str k2,.bl b]] S0=.ok (.tup [.dic (putS k (FlD z) (dropS k es)),FlD z]) S0)->∃es' due S',(∀S0,zad [.dic es,.tup [.str "join",.str k,.str k1,.str k2,.bl b]] S0=.ok (.tup [.dic es',due]) S0)/\zbx 2 false (zjS und isx) [.ref m,.tup [.str "join",.str k,.str k1,.str k2,.bl b]] S=.ok due S' ∧
     ((es'=es/\S'=S/\(due=.str "no name" \/ due=.str "unlike"))\/Done S S' m tl tl.length ds es es' dn (.tup [.str "join",.str k,.str k1,.str k2,.bl b]) due):=fun z cz fz hz hcz hj hb=>by
     have FV:zja tl.length (FlD z):=⟨z,cz,rfl,fz,hz,hcz⟩;have ef:=zbZ (S:=S) fz (by omega) (by omega);rw [yaE ⟨hz,hcz⟩] at ef;rw [zmd hk hk1 hk2 FV.pl.2.2.2 h M.l (by omega) (by omega) hx hy hj ef] at e2
     refine ⟨_,_,_,hb,e2,.inr ⟨"join",k,FlD z,⟨_,rfl⟩,.inr (.inr rfl),hk,.inr FV,.fl FV,?_,?_,?_,?_⟩⟩<;>rw [zdU FV.pl.2.2.2]
     ·exact M.putd
     ·exact V.put M.l hk FV
     ·exact zfK
    cases b with
    | true =>
     have hb:∀S0,_:=fun S0=>zgc (S:=S0) M.r hle Ve.key hk hx' hy' f1 f2 r1 r2 c1 c2
     have hj:zjw true (FlD rs) (FlD rs') S=_:=zjo (S:=S) f1 f2 (by omega) (by omega) (by omega)
     by_cases he:rs.length=rs'.length
     ·rw [if_pos he] at hj;have fz:=f1.beside f2 he
      have zl:(zbU rs rs').length=rs.length:=by rw [zct,<-he,Nat.min_self]
      by_cases h6:c+c'<=6
      ·simp only [if_pos (And.intro he h6)] at hb;exact yes _ _ fz (by omega) h6 hj hb
      ·simp only [if_neg (fun z:rs.length=rs'.length/\c+c'<=6=>h6 z.2)] at hb;have ef:=zbZ (S:=S) fz (by omega) (by omega);rw [yaG (fun z=>h6 z.2)] at ef;exact un hb (zcy hk hk1 hk2 h M.l hx hy (.inr ⟨_,hj,ef⟩))
     ·rw [if_neg he] at hj;simp only [if_neg (fun z:rs.length=rs'.length/\c+c'<=6=>he z.1)] at hb;exact un hb (zcy hk hk1 hk2 h M.l hx hy (.inl hj))
    | false =>
     have hb:∀S0,_:=fun S0=>zfa (S:=S0) M.r hle Ve.key hk hx' hy' f1 f2 r1 r2 c1 c2
     have hj:zjw false (FlD rs) (FlD rs') S=_:=zkv (S:=S) f1 f2 (by omega) (by omega)
     by_cases he:c=c'
     ·subst he;rw [if_pos rfl] at hj;have fz:=f1.below f2;have zl:(rs++rs').length=rs.length+rs'.length:=yan
      by_cases h6:rs.length+rs'.length<=6
      ·exact yes _ _ fz (by omega) c1 hj fun S0=>by rw [hb S0,if_pos ⟨rfl,h6⟩]
      ·have ef:=zbZ (S:=S) fz (by omega) (by omega);rw [yaG (fun z=>h6 (by omega))] at ef;exact un (fun S0=>by rw [hb S0,if_neg (fun z=>h6 z.2)]) (zcy hk hk1 hk2 h M.l hx hy (.inr ⟨_,hj,ef⟩))
     ·rw [if_neg he] at hj;simp only [if_neg (fun z:c=c'/\rs.length+rs'.length<=6=>he z.1)] at hb;exact un hb (zcy hk hk1 hk2 h M.l hx hy (.inl hj))
end
def zdL(Iv:Nat->Env->Sto->Prop)(step:∀k d ρ S,ds[k]?=some d->Iv k ρ S->∃ρ1 ρ2 S2,tg.put ρ d=some ρ1/\body ρ1 S=.nx ρ2 S2/\Iv (k+1) ρ2 S2)(h0:Iv 0 ρ S):∃ρ' S',zeE tg body ds ρ S=.nx ρ' S'/\Iv ds.length ρ' S':=by
 have go:∀(n:Nat) (es:List D) (k:Nat) (ρ:Env) (S:Sto),es.length=n->ds.drop k=es->k+n=ds.length->Iv k ρ S->∃ρ' S',zeE tg body es ρ S=.nx ρ' S'/\Iv ds.length ρ' S':=by
  intro n
  induction n with
  | zero =>
   intro es k ρ S hl he hk hi;obtain rfl:es=[]:=ybA hl;exact ⟨ρ,S,rfl,by rw [show ds.length=k by omega];exact hi⟩
  | succ n ih =>
   intro es k ρ S hl he hk hi
   cases es with
   | nil=>cases hl
   | cons d es =>
    have hd:ds[k]?=some d:=by
     have:=congrArg (fun l=>l[0]?) he;rw [ybG] at this;simpa using this
    obtain ⟨ρ1,ρ2,S2,e1,e2,hi2⟩:=step k d ρ S hd hi;obtain ⟨ρ',S',e3,e4⟩:=ih es (k+1) ρ2 S2 (by simpa using hl) (by rw [<-List.drop_drop,he];rfl) (by omega) hi2;refine ⟨ρ',S',?_,e4⟩;unfold zeE;rw [e1];dsimp only;rw [e2];exact e3
 exact go ds.length ds 0 ρ S rfl (by simp) (by omega) h0
def zds{S:Sto}{x:Ob}:(S++[x])[S.length]?=some x:=by simp
def zcw{S:Sto}{x y:Ob}:(S++[x]).set S.length y=S++[y]:=by simp
def ziu{S:Sto}{T:D}(hs:∀S,zcz [T] S=.ok (.bl true) S):zaL [.ref S.length,T] (S++[⟨"Album",[]⟩])=.ok .non (S++[alb T [] [] []]):=by
 have e1:zki "Album" "tiles" (zan 0) (zan 1) [some (false,.ref S.length),some (false,T)] (S++[⟨"Album",[]⟩])=.nx [some (false,.ref S.length),some (false,T)] (S++[⟨"Album",[("tiles",false,T)]⟩]):=by
  show (match (S++[(⟨"Album",[]⟩:Ob)])[S.length]? with | some ob=>_ | none=>_)=_;rw [zds];show (if _ then Fo.nx _ ((S++[(⟨"Album",[]⟩:Ob)]).set S.length _) else _)=_;rw [if_pos (by rfl),zcw];rfl
 have e2:zkj "Album" "named" 0 [some (false,.ref S.length),some (false,T)] (S++[⟨"Album",[("tiles",false,T)]⟩])=.nx [some (false,.ref S.length),some (false,T)] (S++[⟨"Album",[("tiles",false,T),("named",true,.tup [.dic []])]⟩]):=by
  show (match (S++[(⟨"Album",[("tiles",false,T)]⟩:Ob)])[S.length]? with | some ob=>_ | none=>_)=_;rw [zds];show (if _ then Fo.nx _ ((S++[_]).set S.length _) else _)=_;rw [if_pos (by rfl),zcw];rfl
 have e3:ze0 "Album" "done" 0 [some (false,.ref S.length),some (false,T)] (S++[⟨"Album",[("tiles",false,T),("named",true,.tup [.dic []])]⟩])=.nx [some (false,.ref S.length),some (false,T)] (S++[⟨"Album",[("tiles",false,T),("named",true,.tup [.dic []]),("done",true,.tup [.lst []])]⟩]):=by
  show (match (S++[(⟨"Album",[("tiles",false,T),("named",true,.tup [.dic []])]⟩:Ob)])[S.length]? with | some ob=>_ | none=>_)=_;rw [zds];show (if _ then Fo.nx _ ((S++[_]).set S.length _) else _)=_;rw [if_pos (by rfl),zcw];rfl
 have e4:ze0 "Album" "undone" 0 [some (false,.ref S.length),some (false,T)] (S++[⟨"Album",[("tiles",false,T),("named",true,.tup [.dic []]),("done",true,.tup [.lst []])]⟩])=.nx [some (false,.ref S.length),some (false,T)] (S++[alb T [] [] []]):=by
  show (match (S++[(⟨"Album",[("tiles",false,T),("named",true,.tup [.dic []]),("done",true,.tup [.lst []])]⟩:Ob)])[S.length]? with | some ob=>_ | none=>_)=_;rw [zds];show (if _ then Fo.nx _ ((S++[_]).set S.length _) else _)=_;rw [if_pos (by rfl),zcw];rfl
 simp [zaL,zas,zbN,hs,zcV,e1,e2,e3,e4]
section
variable{S:Sto}{m:Nat}{T:D}{ds es:List (D×D)}{dn un:List D}{n:Nat}
def zkl(h:S[m]?=some (alb T ds dn un)):zbe [.ref m] S=.ok T S:=by
 simp [zbe,zas,zcn,zcK h]
def zgt(h:S[m]?=some (alb T ds dn un)):za7 [.ref m] S=.ok (.tup [.int dn.length,.int un.length]) S:=by
 have e1:∀ρ:Env,ρ[0]?=some (some (false,.ref m))->zc3 "Album" "done" 0 ρ S=.ok (.int dn.length) S:=fun ρ h0=>by unfold zc3;rw [zdB h0 h]
 have e2:∀ρ:Env,ρ[0]?=some (some (false,.ref m))->zc3 "Album" "undone" 0 ρ S=.ok (.int un.length) S:=fun ρ h0=>by unfold zc3;rw [zc6 h0 h]
 simp [za7,zas,zcF,e1,e2]
def zgk{ts:Z2}:(D.tup (ts.map zac)).pl=true/\(D.tup (ts.map zac)).fit 9=true:=by
 refine ⟨?_,?_⟩
 ·show D.pls (ts.map zac)=true;rw [D.pls_iff];intro d hd;obtain ⟨t,_,rfl⟩:=yax.mp hd;exact zhE
 ·show D.fits 8 (ts.map zac)=true;rw [D.fits_iff];intro d hd;obtain ⟨t,_,rfl⟩:=yax.mp hd;exact zf0
def ztp(M:Mp ds es)(V:AV n ds):neD (.dic (unS (zjf ds))) (.dic es)=some (.bl false):=by
 have m1:=Mp.srt M.l;refine zsu ⟨m1.l,M.r,fun x=>(m1.eq x).trans (M.eq x)⟩ fun x d hx=>V.plv x d (by rw [<-m1.eq];exact hx)
end
section
variable{S:Sto}{m n:Nat}{T:D}{ds es es':List (D×D)}{dn un:List D}
theorem zlp{l:List D}:eqD (.int l.length) (.int 0)=some (.bl (decide (l=[]))):=by
 rw [ztQ];congr 2
 cases l with
 | nil=>rfl
 | cons a l=>simp;omega
def zhB(h:S[m]?=some (alb T ds [] un)):zaA [.ref m] S=.exc "Nothing" S:=by
 have e1:∀ρ:Env,ρ[0]?=some (some (false,.ref m))->zc3 "Album" "done" 0 ρ S=.ok (.int (([]:List D).length:Nat)) S:=fun ρ h0=>by unfold zc3;rw [zdB h0 h]
 simp [zaA,zas,zcf,e1]
def zgN{t:D}{l:List D}:(l++[t])[(l++[t]).length-1]?=some t:=by simp
def zmf{w k:Str}{old new:D}(h:S[m]?=some (alb T ds (dn++[.tup [.str w,.str k,old,new]]) un))(ho:zai ds=true)(hl:ds.length<=1000)(hu:un.length<=1000) :
  zaA [.ref m] S=.ok (.str w) (S.set m (alb T (nmd k old ds) dn (un++[.tup [.str w,.str k,old,new]]))):=by
 have d0:ixD (.tup [.str w,.str k,old,new]) (.int 0)=some (.str w):=zaf _ 0;have d1:ixD (.tup [.str w,.str k,old,new]) (.int 1)=some (.str k):=zaf _ 1;have d2:ixD (.tup [.str w,.str k,old,new]) (.int 2)=some old:=zaf _ 2;generalize D.tup [.str w,.str k,old,new]=t at *
 have e1:∀ρ:Env,ρ[0]?=some (some (false,.ref m))->zc3 "Album" "done" 0 ρ S=.ok (.int ((dn++[t]).length:Nat)) S:=fun ρ h0=>by unfold zc3;rw [zdB h0 h]
 have e2:∀ρ:Env,ρ[0]?=some (some (false,.ref m))->zf5 "Album" "done" 0 ρ S=.ok t (S.set m (alb T ds dn un)):=fun ρ h0=>by
  unfold zf5;rw [zdB h0 h];dsimp only;rw [zgN];dsimp only;rw [if_pos zb7,List.dropLast_concat,zi8]
 have h1:(S.set m (alb T ds dn un))[m]?=some (alb T ds dn un):=zb9 h
 have e3:∀ρ:Env,ρ[0]?=some (some (false,.ref m))->ρ[1]?=some (some (false,t))->zfG "Album" "undone" 0 (zbw 1) ρ (S.set m (alb T ds dn un))=.nx ρ (S.set m (alb T ds dn (un++[t]))):=fun ρ h0 ht=>by
  unfold zfG;rw [zc6 h0 h1,qv ht];dsimp only;rw [if_pos (by rw [zb7,show zaK un.length=true from yaE (by omega)];rfl),zfz,ybl]
 have h2:(S.set m (alb T ds dn (un++[t])))[m]?=some (alb T ds dn (un++[t])):=zb9 h;have e4:=zfH (k:=k) (d:=old) h2 ho (by omega);have m1:zaz "Album" "name_floor" (.ref m) (S.set m (alb T ds dn (un++[t])))=true:=zaC h2 (by decide);have hz:=zlp (l:=dn++[t]);rw [yaG (by simp)] at hz;generalize (((dn++[t]).length:Nat):Int)=Z at *;simp [zaA,zas,zcf,e1,hz,e2,e3,d0,d1,d2,m1,e4]
def zkr{w k:Str}{old new:D}(h:S[m]?=some (alb T ds dn (un++[.tup [.str w,.str k,old,new]])))(ho:zai ds=true)(hl:ds.length<=1000)(hu:dn.length<=1000) :
  za8 [.ref m] S=.ok (.str w) (S.set m (alb T (nmd k new ds) (dn++[.tup [.str w,.str k,old,new]]) un)):=by
 have d0:ixD (.tup [.str w,.str k,old,new]) (.int 0)=some (.str w):=zaf _ 0;have d1:ixD (.tup [.str w,.str k,old,new]) (.int 1)=some (.str k):=zaf _ 1;have d2:ixD (.tup [.str w,.str k,old,new]) (.int 3)=some new:=zaf _ 3;generalize D.tup [.str w,.str k,old,new]=t at *
 have e1:∀ρ:Env,ρ[0]?=some (some (false,.ref m))->zc3 "Album" "undone" 0 ρ S=.ok (.int ((un++[t]).length:Nat)) S:=fun ρ h0=>by unfold zc3;rw [zc6 h0 h]
 have e2:∀ρ:Env,ρ[0]?=some (some (false,.ref m))->zf5 "Album" "undone" 0 ρ S=.ok t (S.set m (alb T ds dn un)):=fun ρ h0=>by
  unfold zf5;rw [zc6 h0 h];dsimp only;rw [zgN];dsimp only;rw [if_pos zb7,List.dropLast_concat,zfz]
 have h1:(S.set m (alb T ds dn un))[m]?=some (alb T ds dn un):=zb9 h
 have e3:∀ρ:Env,ρ[0]?=some (some (false,.ref m))->ρ[1]?=some (some (false,t))->zfG "Album" "done" 0 (zbw 1) ρ (S.set m (alb T ds dn un))=.nx ρ (S.set m (alb T ds (dn++[t]) un)):=fun ρ h0 ht=>by
  unfold zfG;rw [zdB h0 h1,qv ht];dsimp only;rw [if_pos (by rw [zb7,show zaK dn.length=true from yaE (by omega)];rfl),zi8,ybl]
 have h2:(S.set m (alb T ds (dn++[t]) un))[m]?=some (alb T ds (dn++[t]) un):=zb9 h;have e4:=zfH (k:=k) (d:=new) h2 ho (by omega);have m1:zaz "Album" "name_floor" (.ref m) (S.set m (alb T ds (dn++[t]) un))=true:=zaC h2 (by decide);have hz:=zlp (l:=un++[t]);rw [yaG (by simp)] at hz;generalize (((un++[t]).length:Nat):Int)=Z at *;simp [za8,zas,zcH,e1,hz,e2,e3,d0,d1,d2,m1,e4]
def zqK(d:D):Option D:=if zcu d then none else some d
def zfQ{k x:Str}{d:D}(ho:zai ds=true):zae x (nmd k d ds)=if k=x then zqK d else zae x ds:=by
 cases hn:zcu d with
 | true =>
  have e:d=.non:=zcX hn;subst e;exact zb1 ho
 | false =>
  rw [zdU hn,zdg ho];unfold zqK;rw [hn];rfl
def ziC{k:Str}{d:D}(ho:zai ds=true):zai (nmd k d ds)=true:=by
 cases hn:zcu d with
 | true =>
  have e:d=.non:=zcX hn;subst e;exact zbu ho
 | false=>rw [zdU hn];exact zdH ho
theorem AV.nmd{k:Str}{d:D}(V:AV n ds)(ho:zai ds=true)(hk:zcL k)(hd:d=.non\/zja n d):AV n (nmd k d ds):=by
 rcases hd with rfl | hd
 ·exact V.drop ho
 ·rw [zdU hd.pl.2.2.2];exact V.put ho hk hd
def zkP{k:Str}{d:D}:(S2.nmd k d ds).length<=ds.length+1:=by
 cases hn:zcu d with
 | true =>
  have e:d=.non:=zcX hn;subst e;exact yau zdl (ya4 _)
 | false=>rw [zdU hn];exact zfK
structure Lk(n:Nat)(e e':List (D×D))(w:Str)(t:D):Prop where
 ex:∃(k:Str) (old new:D),t=.tup [.str w,.str k,old,new]/\zcL k/\(old=.non\/zja n old)/\(new=.non\/zja n new)/\zqK old=zae k e/\∀x,zae x e'=if k=x then zqK new else zae x e
def zjU{o:Option D}(h:∀d,o=some d->zcu d=false):zqK (o.getD .non)=o:=by
 cases o with
 | none=>rfl
 | some d=>unfold zqK;show (if zcu d then _ else _)=_;rw [h d rfl];rfl
end
end S2
namespace S2.L91
open PySem
open L2 hiding D
noncomputable def zlS:List (Str×Str):=[("Unlike","FloorError"),("NoName","FloorError"),("Nothing","FloorError")]
def isL:Str->Str->Option Bool:=ztD ["Unlike","NoName","Nothing"] ["FloorError","NoPlace","NoTile","NoFill","Unlike","Nothing","NoText","NoName"]
noncomputable def zfn:Fs :=
  (zao (sFz [] (sIf (zaj eqD (zaj ixD (zal 1) (zah (.int 0))) (zah (.str "join"))) (zao (sFz [0,1] (zbn (zdA (zjQ zlS) isL [0,1] (zaR "Album" "join" zam (zan 0) [(zaj ixD (zal 1) (zah (.int 1))),(zaj ixD (zal 1) (zah (.int 2))),(zaj ixD (zal 1) (zah (.int 3))),(zaj ixD (zal 1) (zah (.int 4)))])))) sNx) sNx))
  (zao (sFz [0,1] (zbn (zdA (zjQ zlS) isL [0,1] (eIf (zaj eqD (zaj ixD (zal 1) (zah (.int 0))) (zah (.str "put"))) (zaR "Album" "put" zaD (zan 0) [(zaj ixD (zal 1) (zah (.int 1))),(zaj ixD (zal 1) (zah (.int 2)))]) (zaR "Album" "take" zay (zan 0) [(zaj ixD (zal 1) (zah (.int 1)))])))))
  sNx))
noncomputable def zdd:List S2.D->Sto->Out S2.D:=zbx 2 false zfn
noncomputable def zeV:Fs :=
  (zao (sFz [0,1] (zcp 5 false (eFn zbk [(zan 0),(zaj zb8 (zah (.int 1000)) (zaj ziH (zah (.int 60)) (zal 4))),(zan 1)]))) (zao (sFz [5] (zek (.tup [6,7]) (eFn zad [(zaj ixD (zal 3) (eUn zmK (zah (.int 1)))),(zan 5)]))) (zao (sFz [2,5] (zfF (eFn zdd [(zan 2),(zan 5)]))) (zao (sFz [6] (zcp 3 false (zaj zb8 (zal 3) (zaj zhJ (zgZ [(zan 6)]) (zaE zqa [(zaj ziG (zal 7) (zdk [(zah (.str "no name")),(zah (.str "unlike"))]))]))))) sNx))))
noncomputable def zeU:Fs :=
  (zao (sFz [0,1] (zcp 5 false (eFn zbk [(zan 0),(zaj zb8 (zal 11) (zaj ziH (zah (.int 60)) (zal 4))),(zan 1)]))) (zao (sFz [12,5] (zek (.tup [12,7]) (eFn zad [(zan 12),(zan 5)]))) (zao (sFz [14,5] (sIf (zaj neD (eFn zdd [(zan 14),(zan 5)]) (zal 7)) (zao (sFz [] (zbn (zah (.bl false)))) sNx) sNx)) (zao (sFz [] (zcp 13 false (zaj zb8 (zal 13) (zaE zqa [(zaj ziG (zal 7) (zdk [(zah (.str "no name")),(zah (.str "unlike"))]))])))) sNx))))
noncomputable def zgf:Fs :=
  (zao (sFz [] (zfF (zaR "Album" "back" zaA (zan 14) []))) sNx)
noncomputable def zge:Fs :=
  (zao (sFz [] (zfF (zaR "Album" "forth" za8 (zan 14) []))) sNx)
noncomputable def zgd:Fs :=
  (zao (sFz [] (zfF (zaR "Album" "forth" za8 (zan 14) []))) (zao (sFz [8] (zl8 12 13 false (zaj ixD (zal 3) (eUn zmK (zah (.int 1)))) false (zan 8))) (zao (sFz [14] (sIf (zaj neD (eFn zaN [(zan 14)]) (zal 12)) (zao (sFz [] (zbn (zah (.bl false)))) sNx) sNx)) (zao (sFz [] (zjk (.one 4) (zdO (zah (.int 3))) zeU)) (zao (sFz [13] (zjk (.one 4) (zdO (zan 13)) zgf)) (zao (sFz [14,14] (sIf (eOr (zaj neD (eFn zaN [(zan 14)]) zlq) (zaj neD (zdA (zjQ zlS) isL [14] (zaR "Album" "back" zaA (zan 0) [])) (zah (.str "nothing")))) (zao (sFz [] (zbn (zah (.bl false)))) sNx) sNx)) (zao (sFz [13] (zjk (.one 4) (zdO (zan 13)) zge)) (zao (sFz [14,13] (sIf (eOr (zaj neD (eFn zaN [(zan 14)]) (zal 12)) (zaj neD (zaR "Album" "sizes" za7 (zan 14) []) (zdk [(zan 13),(zah (.int 0))]))) (zao (sFz [] (zbn (zah (.bl false)))) sNx) sNx)) sNx))))))))
noncomputable def zfB:Fs:=zao (sFz [] (zbn (zah (.bl true)))) sNx
noncomputable def zfC:Fs:=zao (sFz [0,10] (zjk (.tup [14,11]) (zbl (eIf (zaj eqD (eFn zaq [(zan 0),(zah (.int 5)),(zah (.int 2))]) (zah (.int 0))) (zan 10) (zaj zkx (zal 10) (eUn zmK (zah (.int 1)))))) zgd)) zfB
noncomputable def zhp:Fs:=zao (sFz [2,9] (zcp 10 true (zgZ [(zdk [(zan 2),(zah (.int 3000))]),(zdk [(zan 9),(zah (.int 4000))])]))) zfC
noncomputable def zhq:Fs:=zao (sFz [9] (sIf (eOr (zaj neD (zaR "Album" "sizes" za7 (zan 9) []) (zdk [(zaj zqO (zal 8) (zah (.int 1))),(zah (.int 1))])) (eOr (zaj neD (eFn zaN [(zan 9)]) (zaj ixD (zal 3) (eUn zmK (zah (.int 2))))) (zaj neD (zaR "Album" "set_of" zbe (zan 9) []) (zal 1)))) (zao (sFz [] (zbn (zah (.bl false)))) sNx) sNx)) zhp
noncomputable def zhr:Fs:=zao (sFz [] (zcp 9 false (zaR "Album" "twin" zbF (zan 2) []))) zhq
noncomputable def zhs:Fs:=zao (sFz [] (zfF (zaR "Album" "back" zaA (zan 2) []))) zhr
noncomputable def zht:Fs:=zao (sFz [] (zcp 8 false (zaj zqO (zaE zcO [(zal 3)]) (zah (.int 1))))) zhs
noncomputable def zhu:Fs:=zao (sFz [] (zjk (.one 4) (zdO (zah (.int 8))) zeV)) zht
noncomputable def zhv:Fs:=zao (sFz [] (zfF (zaR "Album" "put" zaD (zan 2) [(zah (.str "a")),(zdk [(zdk [(zah (.int 0))])])]))) zhu
noncomputable def zhw:Fs:=zao (sFz [1] (zl8 2 3 false (eMk "Album" [] zaL [(zan 1)]) true (zgZ [zlq,(zjF "a" (zdk [(zdk [(zah (.int 0))])]))]))) zhv
noncomputable def zhx:Fs:=zao (sFz [0] (zcp 1 false (eFn zca [(zan 0),(zah (.int 200)),(zah (.int 5))]))) zhw
noncomputable def zm7:Fs :=
  zhx
noncomputable def zo6:List S2.D->Sto->Out S2.D:=zbx 15 false zm7
end S2.L91
namespace S2
open PySem
open L2 hiding D
noncomputable def ztr(w:Str):Prop:=w = "put" \/ w = "take" \/ w = "join"
theorem zpL{n:Nat}{d:D}(h:DueOk n d):ziG d (.tup [.str "no name",.str "unlike"])=some (.bl true):=by
 cases h with
 | bl b=>cases b<;>kernel_rfl
 | fl h =>
  have f:=h.pl.2.1;obtain ⟨rs,c,rfl,_⟩:=h;show (if (FlD rs).fit 8&&D.fits 8 [.str "no name",.str "unlike"] then some (D.bl (!zjr (FlD rs) [.str "no name",.str "unlike"])) else none)=_;rw [f,if_pos (by decide +kernel)];rfl
structure Hs(n:Nat)(E:List (List (D×D)))(W:List Str)(TS:List D)(ds:List (D×D))(p:Nat):Prop where
 e1:E.length=W.length+1
 t1:TS.length=W.length
 p1:p<=W.length
 lk:∀i w,W[i]?=some w->∃e e' t,E[i]?=some e/\E[i+1]?=some e'/\TS[i]?=some t/\Lk n e e' w t/\ztr w
 on:∀e∈E,zai e=true
 cur:∃e,E[p]?=some e/\Mp ds e
 av:AV n ds
section
variable{n p:Nat}{E:List (List (D×D))}{W:List Str}{TS:List D}{ds:List (D×D)}
theorem Hs.back(h:Hs n E W TS ds p)(hp:0<p):∃w k old new,W[p-1]?=some w/\ztr w/\TS.take p=TS.take (p-1)++[.tup [.str w,.str k,old,new]]/\(TS.drop (p-1)).reverse=(TS.drop p).reverse++[.tup [.str w,.str k,old,new]]/\Hs n E W TS (nmd k old ds) (p-1):=by
 have hlt:p-1<W.length:=by have:=h.p1;omega
 obtain ⟨w,hw⟩:∃w,W[p-1]?=some w:=⟨W[p-1],yac hlt⟩;obtain ⟨e,e',t,q1,q2,q3,⟨k,old,new,rfl,hk,ho,hn,hv,hx⟩,wd⟩:=h.lk _ _ hw;obtain ⟨ec,qc,M⟩:=h.cur;rw [show p-1+1=p by omega] at q2;rw [qc] at q2;cases q2;have ht:TS[p-1]?=some _:=q3
 have hlt2:p-1<TS.length:=by rw [h.t1];exact hlt
 have hd:TS.drop (p-1)=.tup [.str w,.str k,old,new]::TS.drop p:=by
  rw [ybn hlt2,show p-1+1=p by omega];congr 1;rw [yac hlt2] at q3;exact Option.some.inj q3
 refine ⟨w,k,old,new,hw,wd,?_,?_,⟨h.e1,h.t1,by omega,h.lk,h.on,⟨e,q1,ziC M.l,h.on e (ya8 q1),fun x=>?_⟩,h.av.nmd M.l hk ho⟩⟩
 ·have:=List.take_succ (l:=TS) (i:=p-1);rwa [show p-1+1=p by omega,q3] at this
 ·rw [hd,ybq]
 ·rw [zfQ M.l,M.eq,hx]
  by_cases q:k=x
  ·rw [if_pos q,hv,q]
  ·rw [if_neg q,if_neg q]
def Hs.forth(h:Hs n E W TS ds p)(hp:p<W.length):∃w k old new,W[p]?=some w/\ztr w/\TS.take (p+1)=TS.take p++[.tup [.str w,.str k,old,new]]/\(TS.drop p).reverse=(TS.drop (p+1)).reverse++[.tup [.str w,.str k,old,new]]/\Hs n E W TS (nmd k new ds) (p+1):=by
 obtain ⟨w,hw⟩:∃w,W[p]?=some w:=⟨W[p],yac hp⟩;obtain ⟨e,e',t,q1,q2,q3,⟨k,old,new,rfl,hk,ho,hn,hv,hx⟩,wd⟩:=h.lk _ _ hw;obtain ⟨ec,qc,M⟩:=h.cur;rw [qc] at q1;cases q1
 have hlt2:p<TS.length:=by rw [h.t1];exact hp
 have hd:TS.drop p=.tup [.str w,.str k,old,new]::TS.drop (p+1):=by
  rw [ybn hlt2];congr 1;rw [yac hlt2] at q3;exact Option.some.inj q3
 refine ⟨w,k,old,new,hw,wd,?_,?_,⟨h.e1,h.t1,by omega,h.lk,h.on,⟨e',q2,ziC M.l,h.on e' (ya8 q2),fun x=>?_⟩,h.av.nmd M.l hk hn⟩⟩
 ·have:=List.take_succ (l:=TS) (i:=p);rwa [q3] at this
 ·rw [hd,ybq]
 ·rw [zfQ M.l,hx]
  by_cases q:k=x
  ·rw [if_pos q,if_pos q]
  ·rw [if_neg q,if_neg q];exact M.eq x
theorem Hs.more(h:Hs n E W TS ds p){k w:Str}{new:D}{e':List (D×D)}(hw:ztr w)(hk:zcL k)(hn:new=.non\/zja n new)(M':Mp (nmd k new ds) e')(V':AV n (nmd k new ds)) :
  Hs n (E.take (p+1)++[e']) (W.take p++[w]) (TS.take p++[.tup [.str w,.str k,(zae k ds).getD .non,new]]) (nmd k new ds) (p+1):=by
 obtain ⟨ec,qc,M⟩:=h.cur;have hp:=h.p1
 have lW:(W.take p).length=p:=by rw [ybh];omega
 have lT:(TS.take p).length=p:=by rw [ybh,h.t1];omega
 have lE:(E.take (p+1)).length=p+1:=by rw [ybh,h.e1];omega
 have vo:∀d,zae k ds=some d->zcu d=false:=fun d hd=>(h.av.val k d hd).pl.2.2.2
 refine ⟨by rw [yan,yan,lW,lE];rfl,by rw [yan,yan,lW,lT];rfl,by rw [yan,lW];show p+1<=p+1;omega,fun i u hu=>?_,fun e he=>?_,⟨e',by rw [yay (by omega),lE,ybk];rfl,M'⟩,V'⟩
 ·by_cases hi:i<p
  ·rw [yat (by omega),yaZ hi] at hu;obtain ⟨e,e2,t,q1,q2,q3,L,wd⟩:=h.lk i u hu;refine ⟨e,e2,t,?_,?_,?_,L,wd⟩
   ·rw [yat (by omega),yaZ (by omega)];exact q1
   ·rw [yat (by omega),yaZ (by omega)];exact q2
   ·rw [yat (by omega),yaZ hi];exact q3
  ·rw [yay (by omega),lW] at hu
   have hi':i=p:=by
    have:=(yai.mp hu).1;simp at this;omega
   subst hi';rw [ybk] at hu;cases hu;refine ⟨ec,e',.tup [.str w,.str k,(zae k ds).getD .non,new],?_,?_,?_,⟨k,(zae k ds).getD .non,new,rfl,hk,?_,hn,?_,fun x=>?_⟩,hw⟩
   ·rw [yat (by omega),yaZ (by omega)];exact qc
   ·rw [yay (by omega),lE,ybk];rfl
   ·rw [yay (by omega),lT,ybk];rfl
   ·cases hl:zae k ds with
    | none=>exact .inl rfl
    | some d=>exact .inr (h.av.val k d hl)
   ·rw [zjU vo];exact M.eq k
   ·rw [<-M'.eq,zfQ M.l,M.eq]
 ·rcases yaV.mp he with he | he
  ·exact h.on e (List.mem_of_mem_take he)
  ·rw [yaF.mp he];exact M'.r
end
section
variable{n:Nat}{E:List (List (D×D))}{W:List Str}{TS tl:List D}{ds e:List (D×D)}
def Hs.fu(h:Hs n E W TS ds W.length){k w:Str}{new:D}{e':List (D×D)}(hw:ztr w)(hk:zcL k)(hn:new=.non\/zja n new)(M':Mp (nmd k new ds) e')(V':AV n (nmd k new ds)) :
  Hs n (E++[e']) (W++[w]) (TS++[.tup [.str w,.str k,(zae k ds).getD .non,new]]) (nmd k new ds) (W++[w]).length:=by
 have z:=h.more hw hk hn M' V';rw [ya1 (by rw [h.e1];exact yag _),ya1 (yag _),ya1 (by rw [h.t1];exact yag _)] at z;rw [yan];exact z
theorem Hs.deed{und:Str->Str->Bool}{isx:Str->Str->Option Bool}(C:ClsT und isx){S:Sto}{m:Nat}{deed:D}(hS:S[m]?=some (alb (.tup tl) ds TS []))(h:Hs tl.length E W TS ds W.length)(qe:E[W.length]?=some e)(hl:ds.length<=60)(hd:W.length<=1000)(Dd:DeedOk tl.length deed) :
  ∃(c:Bool) (e':List (D×D)) (due:D) (E':List (List (D×D))) (W':List Str) (TS':List D) (ds':List (D×D)),(∀S0,zad [.dic e,deed] S0=.ok (.tup [.dic e',due]) S0)/\zbx 2 false (zjS und isx) [.ref m,deed] S=.ok due (S.set m (alb (.tup tl) ds' TS' [])) ∧
   neD due due=some (.bl false)/\ziG due (.tup [.str "no name",.str "unlike"])=some (.bl c)/\E'=E++(if c then [e'] else [])/\E'[W'.length]?=some e'/\W'.length=W.length+(if c then 1 else 0)/\ds'.length<=ds.length+1/\Hs tl.length E' W' TS' ds' W'.length:=by
 obtain ⟨e0,q0,M⟩:=h.cur;rw [qe] at q0;cases q0;obtain ⟨e',due,S',eb,ei,hdn⟩:=zlx C hS M h.av hl (by rw [h.t1];exact hd) Dd
 rcases hdn with ⟨rfl,rfl,hdu⟩ | ⟨w,q,new,⟨zbD,hw⟩,wd,hk,hnew,du,M',V',hl',hS'⟩
 ·refine ⟨false,e',due,E,W,TS,ds,eb,by rw [zdE hS];exact ei,?_,?_,(yaQ E).symm,qe,rfl,ya4 _,h⟩
  ·rcases hdu with rfl | rfl<;>kernel_rfl
  ·rcases hdu with rfl | rfl<;>kernel_rfl
 ·have H':=h.fu (w:=w) wd hk hnew M' V';refine ⟨true,e',due,_,_,_,_,eb,by rw [<-hS'];exact ei,zs6 du,zpL du,rfl,?_,yan,hl',H'⟩;rw [yan,yay (by rw [h.e1];exact yag _),h.e1];show [e'][W.length+1-(W.length+1)]?=_;rw [ybk];rfl
def Hs.bk{S:Sto}{m p:Nat}(hS:S[m]?=some (alb (.tup tl) ds (TS.take (p+1)) (TS.drop (p+1)).reverse))(h:Hs n E W TS ds (p+1))(hd:ds.length<=900)(hW:W.length<=900) :
  ∃w ds',zaA [.ref m] S=.ok (.str w) (S.set m (alb (.tup tl) ds' (TS.take p) (TS.drop p).reverse))/\ds'.length<=ds.length+1/\Hs n E W TS ds' p:=by
 obtain ⟨e,_,M⟩:=h.cur;obtain ⟨w,k,old,new,hw,wd,ht1,ht2,H'⟩:=h.back (Nat.succ_pos p);rw [Nat.add_sub_cancel] at hw ht1 ht2 H'
 have lu:(TS.drop (p+1)).reverse.length<=1000:=by rw [ycD,List.length_drop,h.t1];omega
 rw [ht1] at hS;have eb:=zmf hS M.l (by omega) lu;rw [<-ht2] at eb;exact ⟨w,_,eb,zkP,H'⟩
def Hs.fo{S:Sto}{m p:Nat}(hS:S[m]?=some (alb (.tup tl) ds (TS.take p) (TS.drop p).reverse))(h:Hs n E W TS ds p)(hp:p<W.length)(hd:ds.length<=900)(hW:W.length<=900) :
  ∃w ds',za8 [.ref m] S=.ok (.str w) (S.set m (alb (.tup tl) ds' (TS.take (p+1)) (TS.drop (p+1)).reverse))/\ds'.length<=ds.length+1/\Hs n E W TS ds' (p+1):=by
 obtain ⟨e,_,M⟩:=h.cur;obtain ⟨w,k,old,new,hw,wd,ht1,ht2,H'⟩:=h.forth hp
 have ld:(TS.take p).length<=1000:=by rw [ybh,h.t1];omega
 rw [ht2] at hS;have eb:=zkr hS M.l (by omega) ld;rw [<-ht1] at eb;exact ⟨w,_,eb,zkP,H'⟩
end
def zmb{S:Sto}{m:Nat}{T:D}{ds:List (D×D)}{dn un:List D}(h:S[m]?=some (alb T ds dn un))(ho:zai ds=true)(hs:∀S,zcz [T] S=.ok (.bl true) S):zbF [.ref m] S=.ok (.ref S.length) (S++[alb T ds dn un]):=by
 have hm:m<S.length:=(yai.mp h).1
 have at':∀x:Ob,(S++[x])[m]?=some (alb T ds dn un):=fun x=>by rw [yat hm];exact h
 have ei:=ziu (S:=S) hs
 have e1:zqP "Album" "named" 1 "named" 0 [some (false,.ref m),some (false,.ref S.length)] (S++[alb T [] [] []])=.nx [some (false,.ref m),some (false,.ref S.length)] (S++[alb T ds [] []]):=by
  unfold zqP;rw [zch (ρ:=[some (false,.ref m),some (false,.ref S.length)]) rfl (at' _) ho];show (match (S++[alb T [] [] []])[S.length]? with | some ob=>_ | none=>_)=_;rw [zds];show (if _ then Fo.nx _ ((S++[_]).set S.length _) else _)=_;rw [if_pos (by rfl),zcw];rfl
 have e2:zma "Album" "done" 1 "done" 0 [some (false,.ref m),some (false,.ref S.length)] (S++[alb T ds [] []])=.nx [some (false,.ref m),some (false,.ref S.length)] (S++[alb T ds dn []]):=by
  unfold zma;rw [zdB (ρ:=[some (false,.ref m),some (false,.ref S.length)]) rfl (at' _)];show (match (S++[alb T ds [] []])[S.length]? with | some ob=>_ | none=>_)=_;rw [zds];show (if _ then Fo.nx _ ((S++[_]).set S.length _) else _)=_;rw [if_pos (by rfl),zcw];rfl
 have e3:zma "Album" "undone" 1 "undone" 0 [some (false,.ref m),some (false,.ref S.length)] (S++[alb T ds dn []])=.nx [some (false,.ref m),some (false,.ref S.length)] (S++[alb T ds dn un]):=by
  unfold zma;rw [zc6 (ρ:=[some (false,.ref m),some (false,.ref S.length)]) rfl (at' _)];show (match (S++[alb T ds dn []])[S.length]? with | some ob=>_ | none=>_)=_;rw [zds];show (if _ then Fo.nx _ ((S++[_]).set S.length _) else _)=_;rw [if_pos (by rfl),zcw];rfl
 simp [zbF,zas,zc2,zcK h,ei,e1,e2,e3]
end S2
namespace S2.L91
open PySem
open L2 hiding D
def cls:ClsT (zjQ zlS) isL:=⟨by decide,by decide,fun S=>by kernel_rfl,fun S=>by kernel_rfl⟩
def zod:zdd=zbx 2 false (zjS (zjQ zlS) isL):=rfl
def zxh:zjQ zlS "Nothing" "FloorError" = true:=by decide
def zxi(S:Sto):zlU isL "Nothing" S=.ok (.str "nothing") S:=by kernel_rfl
def zuC:neD (.str "nothing") (.str "nothing")=some (.bl false):=by kernel_rfl
def ztW{fb:Fe}{ρ:Env}{S:Sto}{a:D}(h:ρ[14]?=some (some (false,a))):zdA (zjQ zlS) isL [14] fb ρ S=zev (zjQ zlS) isL (fb [some (false,a)] S):=zij (ds:=[a]) (by unfold zg8;rw [h];rfl)
def zoi{xs:List D}{n:Nat}(h1:1<=n)(h:n<=xs.length):atI xs (-(n:Int))=xs[xs.length-n]?:=by
 unfold atI L2.ixN;rw [if_neg (by omega),if_pos (by omega)];show xs[(-(n:Int)+xs.length).toNat]?=_;rw [show (-(n:Int)+xs.length).toNat=xs.length-n by omega]
def znv{A B:List D}(h:A.length+B.length<=1000):zb8 (.lst A) (.lst B)=some (.lst (A++B)):=by
 show (if zaK _ then some (D.lst (_++_)) else none)=_;rw [if_pos (show zaK _=true from yaE (by omega))]
noncomputable abbrev Sl:=Option (Bool×D)
noncomputable def ev(l:List Int)(tl:List D)(b:Bool)(E:List (List (D×D)))(x4 x5 x6 x7 x8 x9 x10 x11 x12 x13 x14:Sl):Env:=[some (false,.scr l),some (false,.tup tl),some (false,.ref 0),some (b,.lst (E.map D.dic)),x4,x5,x6,x7,x8,x9,x10,x11,x12,x13,x14]
section
variable{l:List Int}{ts:Z2}{tl:List D}{E:List (List (D×D))}{W:List Str}{TS:List D}{ds e:List (D×D)}{p k m n:Nat}{b:Bool}{S:Sto}{x4 x5 x6 x7 x8 x9 x10 x11 x12 x13 x14:Sl}
def ziL(h:Hs n E W TS ds p)(qe:E[W.length]?=some e):atI (E.map D.dic) (-1)=some (.dic e):=by
 have:=zoi (xs:=E.map D.dic) (n:=1) (yag _) (by rw [yad,h.e1];omega);rw [show -((1:Nat):Int)=-1 from rfl] at this;rw [this,yao,yad,h.e1,Nat.add_sub_cancel,qe];rfl
def f60:zb3 60=true:=by decide
def zu9(ht:Tiles 5 ts)(hS:S[0]?=some (alb (.tup (ts.map zac)) ds TS []))(h:Hs (ts.map zac).length E W TS ds W.length)(hd:ds.length<=50)(hW:W.length<=50) :
  ∃E' W' TS' ds' y5 y6 y7,Hs (ts.map zac).length E' W' TS' ds' W'.length/\W.length<=W'.length/\W'.length<=W.length+1/\ds'.length<=ds.length+1/\E'[0]?=E[0]? ∧
   zeV (ev l (ts.map zac) b E (some (false,.int k)) x5 x6 x7 x8 x9 x10 x11 x12 x13 x14) S=.nx (ev l (ts.map zac) false E' (some (false,.int k)) y5 y6 y7 x8 x9 x10 x11 x12 x13 x14) (S.set 0 (alb (.tup (ts.map zac)) ds' TS' [])):=by
 have hln:(ts.map zac).length=ts.length:=yad _;obtain ⟨e,qe,M⟩:=h.cur;obtain ⟨deed,Dd,ed⟩:=ziv (l:=l) (at':=1000+60*(k:Int)) (S:=S) (by omega) ht (by decide);rw [<-hln] at Dd;obtain ⟨c,e',due,E',W',TS',ds',eb,ei,n1,n2,hE,q',hw,hl,H'⟩:=h.deed cls hS qe (by omega) (by omega) Dd;rw [<-zod] at ei;have lr:=ziL h qe;refine ⟨E',W',TS',ds',some (false,deed),some (false,.dic e'),some (false,due),H',by rw [hw];omega,by rw [hw];split<;>omega,hl,by rw [hE,yat (by rw [h.e1];omega)],?_⟩;have ebS:=eb S
 have hr:zb8 (.lst (E.map D.dic)) (.lst (if c then [.dic e'] else []))=some (.lst (E'.map D.dic)):=by
  rw [znv (by rw [yad,h.e1];cases c<;>simp<;>omega),hE,ybt]
  cases c<;>rfl
 unfold ev;generalize E'.map D.dic=EL' at *;generalize E.map D.dic=EL at *;generalize S.set 0 (alb (.tup (ts.map zac)) ds' TS' [])=S' at *;generalize ts.map zac=T at *;have i0:zqa [.bl c]=some (.int (if c then 1 else 0)):=rfl
 have m0:zhJ (.lst [.dic e']) (.int (if c then 1 else 0))=some (.lst (if c then [.dic e'] else [])):=by cases c<;>rfl
 generalize (if c then [D.dic e'] else [])=R at *;generalize (if c=true then (1:Int) else 0)=I at *;simp [zeV,f60,ed,lr,ebS,ei,n2,i0,m0,hr]
def zu8(ht:Tiles 5 ts){at':Int}(ha:0<=at')(hS:S[m]?=some (alb (.tup (ts.map zac)) ds TS []))(h:Hs (ts.map zac).length E W TS ds W.length)(qe:E[W.length]?=some e)(hd:ds.length<=50)(hW:W.length<=50){E0:List (List (D×D))} :
  ∃E' W' TS' ds' e' y5 y7,Hs (ts.map zac).length E' W' TS' ds' W'.length/\E'[W'.length]?=some e'/\W'.length<=W.length+1/\ds'.length<=ds.length+1/\E'[0]?=E[0]? ∧
   zeU (ev l (ts.map zac) b E0 (some (false,.int k)) x5 x6 x7 x8 x9 x10 (some (false,.int at')) (some (false,.dic e)) (some (false,.int W.length)) (some (false,.ref m))) S=.nx (ev l (ts.map zac) b E0 (some (false,.int k)) y5 x6 y7 x8 x9 x10 (some (false,.int at')) (some (false,.dic e')) (some (false,.int W'.length)) (some (false,.ref m))) (S.set m (alb (.tup (ts.map zac)) ds' TS' [])):=by
 have hln:(ts.map zac).length=ts.length:=yad _;obtain ⟨deed,Dd,ed⟩:=ziv (l:=l) (at':=at'+60*(k:Int)) (S:=S) (by omega) ht (by decide);rw [<-hln] at Dd;obtain ⟨c,e',due,E',W',TS',ds',eb,ei,n1,n2,hE,q',hw,hl,H'⟩:=h.deed cls hS qe (by omega) (by omega) Dd;rw [<-zod] at ei;refine ⟨E',W',TS',ds',e',some (false,deed),some (false,due),H',q',by rw [hw];split<;>omega,hl,by rw [hE,yat (by rw [h.e1];omega)],?_⟩;have ebS:=eb S
 have hwi:(W'.length:Int)=(W.length:Int)+(if c then 1 else 0):=by rw [hw];cases c<;>simp
 rw [hwi];unfold ev;generalize E0.map D.dic=EL at *;generalize S.set m (alb (.tup (ts.map zac)) ds' TS' [])=S' at *;generalize ts.map zac=T at *;have i0:zqa [.bl c]=some (.int (if c then 1 else 0)):=rfl;generalize (if c=true then (1:Int) else 0)=I at *;simp [zeU,f60,ed,ebS,ei,n1,n2,i0]
noncomputable abbrev aB(tl:List D)(ds:List (D×D))(TS:List D)(p:Nat):Ob:=alb (.tup tl) ds (TS.take p) (TS.drop p).reverse
def zh4(h:TS.length=p):aB tl ds TS p=alb (.tup tl) ds TS []:=by
 show alb _ _ _ _=_;rw [ya1 (by omega),List.drop_eq_nil_of_le (by omega)];rfl
def zlK{E0:List (List (D×D))}(hS:S[m]?=some (aB tl ds TS W.length))(h:Hs n E W TS ds W.length)(hW:W.length<=20)(hd:ds.length<=20) :
  ∃ds' y4,Hs n E W TS ds' 0/\ds'.length<=ds.length+W.length/\zeE (.one 4) zgf (zaF 0 W.length) (ev l tl b E0 x4 x5 x6 x7 x8 x9 x10 x11 x12 x13 (some (false,.ref m))) S=.nx (ev l tl b E0 y4 x5 x6 x7 x8 x9 x10 x11 x12 x13 (some (false,.ref m))) (S.set m (aB tl ds' TS 0)):=by
 obtain ⟨ρ',S',e,hI⟩:=zdL (tg:=.one 4) (body:=zgf) (ds:=zaF 0 W.length) (fun k ρ S'=>∃ds' y4,ρ=ev l tl b E0 y4 x5 x6 x7 x8 x9 x10 x11 x12 x13 (some (false,.ref m))/\S'=S.set m (aB tl ds' TS (W.length-k))/\Hs n E W TS ds' (W.length-k)/\ds'.length<=ds.length+k) (by
  intro k d ρ S1 hg h1;obtain ⟨rfl,hk⟩:=zbE hg;obtain ⟨ds1,y4,rfl,rfl,H1,hl⟩:=h1;obtain ⟨q,hq⟩:∃q,W.length-k=q+1:=⟨W.length-k-1,by omega⟩;rw [hq] at H1 ⊢;have hS1:(S.set m (aB tl ds1 TS (q+1)))[m]?=some (aB tl ds1 TS (q+1)):=zb9 hS;obtain ⟨w,ds2,eb,hl2,H2⟩:=Hs.bk hS1 H1 (by omega) (by omega);rw [ybl] at eb;have m1:zaz "Album" "back" (.ref m) (S.set m (aB tl ds1 TS (q+1)))=true:=zaC hS1 (by decide);refine ⟨_,_,_,rfl,?_,ds2,some (false,.int k),rfl,rfl,by rw [show W.length-(k+1)=q by omega];exact H2,by omega⟩;rw [show W.length-(k+1)=q by omega];unfold ev;generalize E0.map D.dic=EL at *;generalize S.set m (aB tl ds1 TS (q+1))=SA at *;generalize S.set m (alb (.tup tl) ds2 (TS.take q) (TS.drop q).reverse)=SB at *
  simp [zgf,m1,eb]) (ρ:=ev l tl b E0 x4 x5 x6 x7 x8 x9 x10 x11 x12 x13 (some (false,.ref m))) (S:=S) ⟨ds,x4,rfl,by rw [Nat.sub_zero,zdE hS],by rw [Nat.sub_zero];exact h,yag _⟩
 obtain ⟨ds',y4,rfl,rfl,H',hl⟩:=hI
 have hr:(zaF 0 (W.length:Int)).length=W.length:=by simp [zaF]
 rw [hr] at H' hl e;rw [ybk] at H' e;exact ⟨ds',y4,H',hl,e⟩
def zjA{E0:List (List (D×D))}(hS:S[m]?=some (aB tl ds TS 0))(h:Hs n E W TS ds 0)(hW:W.length<=20)(hd:ds.length<=40) :
  ∃ds' y4,Hs n E W TS ds' W.length/\ds'.length<=ds.length+W.length/\zeE (.one 4) zge (zaF 0 W.length) (ev l tl b E0 x4 x5 x6 x7 x8 x9 x10 x11 x12 x13 (some (false,.ref m))) S=.nx (ev l tl b E0 y4 x5 x6 x7 x8 x9 x10 x11 x12 x13 (some (false,.ref m))) (S.set m (aB tl ds' TS W.length)):=by
 obtain ⟨ρ',S',e,hI⟩:=zdL (tg:=.one 4) (body:=zge) (ds:=zaF 0 W.length) (fun k ρ S'=>∃ds' y4,ρ=ev l tl b E0 y4 x5 x6 x7 x8 x9 x10 x11 x12 x13 (some (false,.ref m))/\S'=S.set m (aB tl ds' TS k)/\Hs n E W TS ds' k/\ds'.length<=ds.length+k) (by
  intro k d ρ S1 hg h1;obtain ⟨rfl,hk⟩:=zbE hg;obtain ⟨ds1,y4,rfl,rfl,H1,hl⟩:=h1;have hS1:(S.set m (aB tl ds1 TS k))[m]?=some (aB tl ds1 TS k):=zb9 hS;obtain ⟨w,ds2,eb,hl2,H2⟩:=Hs.fo hS1 H1 (by omega) (by omega) (by omega);rw [ybl] at eb;have m1:zaz "Album" "forth" (.ref m) (S.set m (aB tl ds1 TS k))=true:=zaC hS1 (by decide);refine ⟨_,_,_,rfl,?_,ds2,some (false,.int k),rfl,rfl,H2,by omega⟩;unfold ev;generalize E0.map D.dic=EL at *;generalize S.set m (aB tl ds1 TS k)=SA at *;generalize S.set m (alb (.tup tl) ds2 (TS.take (k+1)) (TS.drop (k+1)).reverse)=SB at *
  simp [zge,m1,eb]) (ρ:=ev l tl b E0 x4 x5 x6 x7 x8 x9 x10 x11 x12 x13 (some (false,.ref m))) (S:=S) ⟨ds,x4,rfl,by rw [zdE hS],h,yag _⟩
 obtain ⟨ds',y4,rfl,rfl,H',hl⟩:=hI
 have hr:(zaF 0 (W.length:Int)).length=W.length:=by simp [zaF]
 rw [hr] at H' hl e;exact ⟨ds',y4,H',hl,e⟩
def zly(ht:Tiles 5 ts){at':Int}(ha:0<=at'){E0:List (List (D×D))}(hS:S[m]?=some (alb (.tup (ts.map zac)) ds TS []))(h:Hs (ts.map zac).length E W TS ds W.length)(qe:E[W.length]?=some e)(hW:W.length<=15)(hd:ds.length<=15) :
  ∃E' W' TS' ds' e' y4 y5 y7,Hs (ts.map zac).length E' W' TS' ds' W'.length/\E'[W'.length]?=some e'/\W'.length<=W.length+3/\ds'.length<=ds.length+3/\E'[0]?=E[0]? ∧
   zeE (.one 4) zeU (zaF 0 3) (ev l (ts.map zac) b E0 x4 x5 x6 x7 x8 x9 x10 (some (false,.int at')) (some (false,.dic e)) (some (false,.int W.length)) (some (false,.ref m))) S=.nx (ev l (ts.map zac) b E0 y4 y5 x6 y7 x8 x9 x10 (some (false,.int at')) (some (false,.dic e')) (some (false,.int W'.length)) (some (false,.ref m))) (S.set m (alb (.tup (ts.map zac)) ds' TS' [])):=by
 obtain ⟨ρ',S',ef,hI⟩:=zdL (tg:=.one 4) (body:=zeU) (ds:=zaF 0 3) (fun k ρ S'=>∃E' W' TS' ds' e' y4 y5 y7,ρ=ev l (ts.map zac) b E0 y4 y5 x6 y7 x8 x9 x10 (some (false,.int at')) (some (false,.dic e')) (some (false,.int (W'.length:Nat))) (some (false,.ref m))/\S'=S.set m (alb (.tup (ts.map zac)) ds' TS' [])/\Hs (ts.map zac).length E' W' TS' ds' W'.length/\E'[W'.length]?=some e'/\W'.length<=W.length+k/\ds'.length<=ds.length+k/\E'[0]?=E[0]?) (by
  intro k d ρ S1 hg h1;obtain ⟨rfl,hk⟩:=zbE hg;obtain ⟨E1,W1,TS1,ds1,e1,y4,y5,y7,rfl,rfl,H1,q1,hw,hl,h0⟩:=h1;have hS1:(S.set m (alb (.tup (ts.map zac)) ds1 TS1 []))[m]?=some (alb (.tup (ts.map zac)) ds1 TS1 []):=zb9 hS;obtain ⟨E2,W2,TS2,ds2,e2,z5,z7,H2,q2,hw2,hl2,h02,eb⟩:=zu8 (l:=l) (b:=b) (k:=k) (x5:=y5) (x6:=x6) (x7:=y7) (x8:=x8) (x9:=x9) (x10:=x10) ht ha hS1 H1 q1 (by omega) (by omega) (E0:=E0);rw [ybl] at eb
  exact ⟨_,_,_,rfl,eb,E2,W2,TS2,ds2,e2,_,_,_,rfl,rfl,H2,q2,by omega,by omega,h02.trans h0⟩) (ρ:=ev l (ts.map zac) b E0 x4 x5 x6 x7 x8 x9 x10 (some (false,.int at')) (some (false,.dic e)) (some (false,.int W.length)) (some (false,.ref m))) (S:=S) ⟨E,W,TS,ds,e,_,_,_,rfl,by rw [zdE hS],h,qe,yag _,yag _,rfl⟩
 obtain ⟨E',W',TS',ds',e',y4,y5,y7,rfl,rfl,H',q',hw,hl,h0⟩:=hI;exact ⟨E',W',TS',ds',e',y4,y5,y7,H',q',hw,hl,h0,ef⟩
def zi7(hS:S[m]?=some (aB tl ds TS p))(h:Hs n E W TS ds p)(qe:E[p]?=some e)(hd:ds.length<64):∃A,zaN [.ref m] S=.ok A S/\neD A (.dic e)=some (.bl false):=by
 obtain ⟨e1,q1,M⟩:=h.cur;rw [qe] at q1;cases q1;exact ⟨_,zo5 hS M.l hd h.av.key,ztp M h.av⟩
def zwu(ht:Tiles 5 ts){at':Int}(ha:0<=at')(hS:S[m]?=some (aB (ts.map zac) ds TS p))(h:Hs (ts.map zac).length E W TS ds p)(hp:p+1=W.length)(h0:E[0]?=some [])(hd:ds.length<=11)(hW:W.length<=10) :
  ∃y4 y5 y7 y12 y13 ob,zgd (ev l (ts.map zac) b E x4 x5 x6 x7 (some (false,.int W.length)) x9 x10 (some (false,.int at')) x12 x13 (some (false,.ref m))) S=.nx (ev l (ts.map zac) b E y4 y5 x6 y7 (some (false,.int W.length)) x9 x10 (some (false,.int at')) y12 y13 (some (false,.ref m))) (S.set m ob):=by
 obtain ⟨w,ds1,ef,l1,H1⟩:=Hs.fo hS h (by omega) (by omega) (by omega);rw [hp] at ef H1;have m1:zaz "Album" "forth" (.ref m) S=true:=zaC hS (by decide);have hS1:(S.set m (aB (ts.map zac) ds1 TS W.length))[m]?=some (aB (ts.map zac) ds1 TS W.length):=zb9 hS;obtain ⟨e,qe,_⟩:=H1.cur;have lr:=ziL H1 qe;obtain ⟨A1,ea1,na1⟩:=zi7 hS1 H1 qe (by omega);have hf:=zh4 (tl:=ts.map zac) (ds:=ds1) H1.t1;have hS1':=hS1;rw [hf] at hS1';obtain ⟨E2,W2,TS2,ds2,e2,y4,y5,y7,H2,q2,hw2,hl2,h02,eD⟩:=zly (l:=l) (b:=b) (x4:=x4) (x5:=x5) (x6:=x6) (x7:=x7) (x8:=some (false,.int W.length)) (x9:=x9) (x10:=x10) ht ha hS1' H1 qe (by omega) (by omega) (E0:=E);rw [<-hf,ybl,<-zh4 (tl:=ts.map zac) (ds:=ds2) H2.t1] at eD;have hS2:(S.set m (aB (ts.map zac) ds2 TS2 W2.length))[m]?=some (aB (ts.map zac) ds2 TS2 W2.length):=zb9 hS;obtain ⟨ds3,z4,H3,hl3,eB⟩:=zlK (l:=l) (b:=b) (x4:=y4) (x5:=y5) (x6:=x6) (x7:=y7) (x8:=some (false,.int W.length)) (x9:=x9) (x10:=x10) (x11:=some (false,.int at')) (x12:=some (false,.dic e2)) (x13:=some (false,.int W2.length)) (E0:=E) hS2 H2 (by omega) (by omega);rw [ybl] at eB;have hS3:(S.set m (aB (ts.map zac) ds3 TS2 0))[m]?=some (aB (ts.map zac) ds3 TS2 0):=zb9 hS;obtain ⟨A3,ea3,na3⟩:=zi7 hS3 H3 (h02.trans h0) (by omega);have m3:zaz "Album" "back" (.ref m) (S.set m (aB (ts.map zac) ds3 TS2 0))=true:=zaC hS3 (by decide);have eb3:=zhB (m:=m) (S:=S.set m (aB (ts.map zac) ds3 TS2 0)) hS3
 have ht3:∀ρ:Env,ρ[14]?=some (some (false,.ref m))->zdA (zjQ zlS) isL [14] (zaR "Album" "back" zaA (zan 0) []) ρ (S.set m (aB (ts.map zac) ds3 TS2 0))=.ok (.str "nothing") (S.set m (aB (ts.map zac) ds3 TS2 0)):=fun ρ h0=>by
  rw [ztW h0];simp only [zop,zjV,List.getElem?_cons_zero,zuG,zsI,m3,ycT,zoo,zpY,eb3];show (if zjQ zlS "Nothing" "FloorError" then zlU isL "Nothing" _ else .bad)=_;rw [if_pos zxh,zxi]
 obtain ⟨ds4,u4,H4,hl4,eF⟩:=zjA (l:=l) (b:=b) (x4:=z4) (x5:=y5) (x6:=x6) (x7:=y7) (x8:=some (false,.int W.length)) (x9:=x9) (x10:=x10) (x11:=some (false,.int at')) (x12:=some (false,.dic e2)) (x13:=some (false,.int W2.length)) (E0:=E) hS3 H3 (by omega) (by omega);rw [ybl] at eF;have hS4:(S.set m (aB (ts.map zac) ds4 TS2 W2.length))[m]?=some (aB (ts.map zac) ds4 TS2 W2.length):=zb9 hS;obtain ⟨A4,ea4,na4⟩:=zi7 hS4 H4 q2 (by omega);have es4:=zgt hS4;rw [ya1 (by rw [H4.t1];exact yag _),List.drop_eq_nil_of_le (by rw [H4.t1];exact yag _),H4.t1] at es4;have m4:zaz "Album" "sizes" (.ref m) (S.set m (aB (ts.map zac) ds4 TS2 W2.length))=true:=zaC hS4 (by decide);have n5:neD (.tup [.int W2.length,.int 0]) (.tup [.int W2.length,.int 0])=some (.bl false):=zfO rfl (by simp);refine ⟨u4,y5,y7,some (false,.dic e2),some (false,.int W2.length),aB (ts.map zac) ds4 TS2 W2.length,?_⟩
 have r1:(-1000000:Int)<=(W2.length:Int):=by omega
 have r2:(W2.length:Int)<=1000000:=by omega
 unfold ev at eD eB eF ⊢;generalize E.map D.dic=EL at *;generalize S.set m (aB (ts.map zac) ds1 TS W.length)=S1 at *;generalize S.set m (aB (ts.map zac) ds2 TS2 W2.length)=S2 at *;generalize S.set m (aB (ts.map zac) ds3 TS2 0)=S3 at *;generalize S.set m (aB (ts.map zac) ds4 TS2 W2.length)=S4 at *;generalize (W.length:Int)=WI at *;generalize (W2.length:Int)=WI2 at *;generalize ts.map zac=T at *;simp [zgd,ef,m1,lr,ea1,na1,eD,eB,ea3,na3,ht3,zuC,eF,ea4,na4,es4,m4,n5,r1,r2]
def two(a1:tg.put ρ d1=some ρ1)(b1:body ρ1 S=.nx ρ2 S2)(a2:tg.put ρ2 d2=some ρ3)(b2:body ρ3 S2=.nx ρ4 S4):zeE tg body [d1,d2] ρ S=.nx ρ4 S4:=by
 unfold zeE;rw [a1];dsimp only;rw [b1];dsimp only;unfold zeE;rw [a2];dsimp only;rw [b2];rfl
def zjB(ht:Tiles 5 ts)(hS:S=[alb (.tup (ts.map zac)) ds TS []])(h:Hs (ts.map zac).length E W TS ds W.length)(h0:E[0]?=some [])(hW:W.length=1)(hd:ds.length<=1) :
  ∃E' W' TS' ds' y4 y5 y6 y7,Hs (ts.map zac).length E' W' TS' ds' W'.length/\E'[0]?=some []/\1<=W'.length/\W'.length<=9/\ds'.length<=9 ∧
   zeE (.one 4) zeV (zaF 0 8) (ev l (ts.map zac) b E none none none none x8 x9 x10 x11 x12 x13 x14) S=.nx (ev l (ts.map zac) false E' y4 y5 y6 y7 x8 x9 x10 x11 x12 x13 x14) [alb (.tup (ts.map zac)) ds' TS' []]:=by
 obtain ⟨ρ',S',ef,hI⟩:=zdL (tg:=.one 4) (body:=zeV) (ds:=zaF 0 8) (fun k ρ S'=>∃E' W' TS' ds' b' y4 y5 y6 y7,ρ=ev l (ts.map zac) b' E' y4 y5 y6 y7 x8 x9 x10 x11 x12 x13 x14/\(0<k->b'=false)/\S'=[alb (.tup (ts.map zac)) ds' TS' []]/\Hs (ts.map zac).length E' W' TS' ds' W'.length/\E'[0]?=some []/\1<=W'.length/\W'.length<=1+k/\ds'.length<=1+k) (by
  intro k d ρ S1 hg h1;obtain ⟨rfl,hk⟩:=zbE hg;obtain ⟨E1,W1,TS1,ds1,b1,y4,y5,y6,y7,rfl,_,rfl,H1,z1,w1,w2,l1⟩:=h1;obtain ⟨E2,W2,TS2,ds2,z5,z6,z7,H2,w3,w4,l2,h02,eb⟩:=zu9 (l:=l) (b:=b1) (k:=k) (x5:=y5) (x6:=y6) (x7:=y7) (x8:=x8) (x9:=x9) (x10:=x10) (x11:=x11) (x12:=x12) (x13:=x13) (x14:=x14) (S:=[alb (.tup (ts.map zac)) ds1 TS1 []]) ht rfl H1 (by omega) (by omega)
  exact ⟨_,_,_,rfl,eb,E2,W2,TS2,ds2,false,_,_,_,_,rfl,fun _=>rfl,rfl,H2,h02.trans z1,by omega,by omega,by omega⟩) (ρ:=ev l (ts.map zac) b E none none none none x8 x9 x10 x11 x12 x13 x14) (S:=S) ⟨E,W,TS,ds,b,_,_,_,_,rfl,fun h=>absurd h (yaN 0),hS,h,h0,by omega,by omega,by omega⟩
 obtain ⟨E',W',TS',ds',b',y4,y5,y6,y7,rfl,hb,rfl,H',z,w1,w2,hl⟩:=hI;have hr:(zaF 0 8).length=8:=rfl;rw [hr] at hb w2 hl;rw [hb (by omega)] at ef;exact ⟨E',W',TS',ds',y4,y5,y6,y7,H',z,w1,by omega,by omega,ef⟩
end
def zqG{n:Nat}(h:1<=n):FlOk n 1 [[.int 0]]:=⟨yag _,yag _,fun r hr=>by
 rw [yaF.mp hr]
 exact ⟨rfl,fun d hd=>by rw [yaF.mp hd];exact .inr ⟨0,rfl,Int.le_refl _,by omega⟩⟩⟩
theorem zmR(l:List Int)(hl:l.length<=63):∃S,zo6 [.scr l] []=.ok (.bl true) S:=by
 obtain ⟨ts,ht,et⟩:=zkk (l:=l) (at':=200) (most:=5) (S:=[]) (by decide) (by decide) (by decide);have hs:∀S,zcz [.tup (ts.map zac)] S=.ok (.bl true) S:=fun S=>zkp ht (by decide)
 have ei:zaL [.ref 0,.tup (ts.map zac)] [⟨"Album",[]⟩]=.ok .non [alb (.tup (ts.map zac)) [] [] []]:=ziu (S:=[]) hs;have hln:(ts.map zac).length=ts.length:=yad _
 have h1:1<=(ts.map zac).length:=by rw [hln];exact ht.ne
 have hle:ts.length<=5:=by have:=ht.le;omega
 have F:=zqG h1;have FV:zja (ts.map zac).length (.tup [.tup [.int 0]]):=⟨[[.int 0]],1,rfl,F,by decide,by decide⟩;have ef:=zbZ (S:=[alb (.tup (ts.map zac)) [] [] []]) (tl:=ts.map zac) F (by decide) (by decide);have ep:=zkm (n:=0) (S:=[alb (.tup (ts.map zac)) [] [] []]) (k:="a") (d:=.tup [.tup [.int 0]]) (.inl rfl) rfl rfl rfl (yaK _) (yaK _) ef;have H0:Hs (ts.map zac).length [[]] [] [] [] 0:=⟨rfl,rfl,yag _,fun i w h=>by simp at h,fun e he=>by rw [yaF.mp he];rfl,⟨[],rfl,rfl,rfl,fun _=>rfl⟩,⟨fun x d h=>(by cases h),fun x d h=>(by cases h)⟩⟩;have H1:=Hs.fu (W:=[]) H0 (k:="a") (w:="put") (new:=.tup [.tup [.int 0]]) (e':=[(.str "a",.tup [.tup [.int 0]])]) (.inl rfl) (.inl rfl) (.inr FV) ⟨rfl,rfl,fun _=>rfl⟩ (H0.av.put rfl (.inl rfl) FV);obtain ⟨E2,W2,TS2,ds2,y4,y5,y6,y7,H2,z2,w1,w9,l9,eL⟩:=zjB (l:=l) (b:=true) (x8:=none) (x9:=none) (x10:=none) (x11:=none) (x12:=none) (x13:=none) (x14:=none) ht rfl H1 rfl rfl (by decide);obtain ⟨q,hq⟩:∃q,W2.length=q+1:=⟨W2.length-1,by omega⟩;have hf:=zh4 (tl:=ts.map zac) (ds:=ds2) (p:=q+1) (H2.t1.trans hq);have H2':=H2;rw [hq] at H2';obtain ⟨w,ds3,eb,l3,H3⟩:=Hs.bk (S:=[alb (.tup (ts.map zac)) ds2 TS2 []]) (m:=0) (tl:=ts.map zac) (by rw [<-hf];rfl) H2' (by omega) (by omega);have eb':zaA [.ref 0] [alb (.tup (ts.map zac)) ds2 TS2 []]=.ok (.str w) [aB (ts.map zac) ds3 TS2 q]:=eb;obtain ⟨e3,q3,M3⟩:=H3.cur;have hA:∀X:Ob,([aB (ts.map zac) ds3 TS2 q,aB (ts.map zac) ds3 TS2 q]:Sto)[1]?=some (aB (ts.map zac) ds3 TS2 q):=fun _=>rfl
 have etw:zbF [.ref 0] [aB (ts.map zac) ds3 TS2 q]=.ok (.ref 1) [aB (ts.map zac) ds3 TS2 q,aB (ts.map zac) ds3 TS2 q]:=zmb (S:=[aB (ts.map zac) ds3 TS2 q]) (m:=0) rfl M3.l hs;have es:za7 [.ref 1] [aB (ts.map zac) ds3 TS2 q,aB (ts.map zac) ds3 TS2 q]=_:=zgt (m:=1) rfl;rw [ybh,ycD,List.length_drop,H3.t1,hq,show min q (q+1)=q by omega,show q+1-q=1 by omega] at es;obtain ⟨A,ea,na⟩:=zi7 (S:=[aB (ts.map zac) ds3 TS2 q,aB (ts.map zac) ds3 TS2 q]) (m:=1) rfl H3 q3 (by omega)
 have lr:atI (E2.map D.dic) (-2)=some (.dic e3):=by
  have:=zoi (xs:=E2.map D.dic) (n:=2) (by decide) (by rw [yad,H3.e1];omega);rw [show -((2:Nat):Int)=-2 from rfl] at this;rw [this,yao,yad,H3.e1,hq,show q+1+1-2=q by omega,q3];rfl
 have lE:(E2.map D.dic).length=q+2:=by rw [yad,H3.e1,hq]
 have eso:zbe [.ref 1] [aB (ts.map zac) ds3 TS2 q,aB (ts.map zac) ds3 TS2 q]=_:=zkl (m:=1) rfl;have nso:neD (.tup (ts.map zac)) (.tup (ts.map zac))=some (.bl false):=zfO zgk.1 zgk.2;have n2:neD (.tup [.int q,.int 1]) (.tup [.int q,.int 1])=some (.bl false):=zfO rfl (by simp);have m2:∀x:Str,(x == ("tiles":Str))=false/\(x == ("named":Str))=false/\(x == ("done":Str))=false/\(x == ("undone":Str))=false->zaz "Album" x (.ref 1) [aB (ts.map zac) ds3 TS2 q,aB (ts.map zac) ds3 TS2 q]=true:=fun x hx=>zaC (n:=1) rfl hx
 have m3:=m2 "sizes" (by decide);have m4:=m2 "set_of" (by decide);have m5:zaz "Album" "put" (.ref 0) [alb (.tup (ts.map zac)) [] [] []]=true:=zaC (n:=0) rfl (by decide);have m6:zaz "Album" "back" (.ref 0) [alb (.tup (ts.map zac)) ds2 TS2 []]=true:=zaC (n:=0) rfl (by decide);have m7:zaz "Album" "twin" (.ref 0) [aB (ts.map zac) ds3 TS2 q]=true:=zaC (n:=0) rfl (by decide);have ek:=za1 (l:=l) (k:=5) (many:=2) (S:=[aB (ts.map zac) ds3 TS2 q,aB (ts.map zac) ds3 TS2 q]) (by decide) (by decide);generalize za3 l 5 2=P at ek
 have key:∀(m1 m2:Nat) (a1 a2:Int) (x10:Sl),(m1=0/\m2=1\/m1=1/\m2=0)->0<=a1->0<=a2->∃ρ' S',zeE (.tup [14,11]) zgd [.tup [.ref m1,.int a1],.tup [.ref m2,.int a2]] (ev l (ts.map zac) false E2 y4 y5 y6 y7 (some (false,.int W2.length)) (some (false,.ref 1)) x10 none none none none) [aB (ts.map zac) ds3 TS2 q,aB (ts.map zac) ds3 TS2 q]=.nx ρ' S':=by
  intro m1 m2 a1 a2 x10 hm h1 h2
  have g1:([aB (ts.map zac) ds3 TS2 q,aB (ts.map zac) ds3 TS2 q]:Sto)[m1]?=some (aB (ts.map zac) ds3 TS2 q):=by rcases hm with ⟨rfl,rfl⟩ | ⟨rfl,rfl⟩<;>rfl
  obtain ⟨u4,u5,u7,u12,u13,ob,e5⟩:=zwu (l:=l) (b:=false) (x4:=y4) (x5:=y5) (x6:=y6) (x7:=y7) (x9:=some (false,.ref 1)) (x10:=x10) (x12:=none) (x13:=none) ht h1 g1 H3 hq.symm z2 (by omega) (by omega)
  have g2:(([aB (ts.map zac) ds3 TS2 q,aB (ts.map zac) ds3 TS2 q]:Sto).set m1 ob)[m2]?=some (aB (ts.map zac) ds3 TS2 q):=by rcases hm with ⟨rfl,rfl⟩ | ⟨rfl,rfl⟩<;>rfl
  obtain ⟨v4,v5,v7,v12,v13,ob2,e6⟩:=zwu (l:=l) (b:=false) (x4:=u4) (x5:=u5) (x6:=y6) (x7:=u7) (x9:=some (false,.ref 1)) (x10:=x10) (x12:=u12) (x13:=u13) ht h2 g2 H3 hq.symm z2 (by omega) (by omega);exact ⟨_,_,two rfl e5 rfl e6⟩
 have hqi:((q+1:Nat):Int)=(q:Int)+1:=by omega
 have ep':zaD [.ref 0,.str "a",.tup [.tup [.int 0]]] [alb (.tup (ts.map zac)) [] [] []]=.ok (.bl false) [alb (.tup (ts.map zac)) (nmd "a" (.tup [.tup [.int 0]]) []) ([]++[.tup [.str "put",.str "a",(zae "a" []).getD .non,.tup [.tup [.int 0]]]]) []]:=ep;have hE1:([[]]++[[(D.str "a",D.tup [.tup [.int 0]])]]:List (List (D×D))).map D.dic=[.dic [],.dic [(.str "a",.tup [.tup [.int 0]])]]:=rfl;have k0:=key 0 1 3000 4000 (some (false,.lst [.tup [.ref 0,.int 3000],.tup [.ref 1,.int 4000]])) (.inl ⟨rfl,rfl⟩) (by decide) (by decide);have k1:=key 1 0 4000 3000 (some (false,.lst [.tup [.ref 0,.int 3000],.tup [.ref 1,.int 4000]])) (.inr ⟨rfl,rfl⟩) (by decide) (by decide);clear key ep eb hf H1 H2 H2' H3 hA m2;unfold ev at eL k0 k1;rw [hE1] at eL;rw [hq,hqi] at k0 k1;generalize ([alb (.tup (ts.map zac)) (nmd "a" (.tup [.tup [.int 0]]) []) ([]++[.tup [.str "put",.str "a",(zae "a" []).getD .non,.tup [.tup [.int 0]]]]) []]:Sto)=S1 at *;generalize ([alb (.tup (ts.map zac)) ds2 TS2 []]:Sto)=S2 at *;generalize ([aB (ts.map zac) ds3 TS2 q,aB (ts.map zac) ds3 TS2 q]:Sto)=S4 at *;generalize ([aB (ts.map zac) ds3 TS2 q]:Sto)=S3 at *;generalize ([alb (.tup (ts.map zac)) [] [] []]:Sto)=S0 at *;generalize E2.map D.dic=EL at *;generalize ts.map zac=T at *
 have s1:(q:Int)+2-1=(q:Int)+1:=by omega
 have s2:(q:Int)+1-1=(q:Int):=by omega
 by_cases hP:P=0
 ·obtain ⟨ρ',S',ek2⟩:=k0;refine ⟨S',?_⟩;simp [zo6,zas,zm7,zhx,zhw,zhv,zhu,zht,zhs,zhr,zhq,zhp,zfC,zfB,zjF,et,ei,ep',m5,eL,lE,m6,eb',m7,etw,m3,es,m4,eso,ea,na,lr,nso,n2,ek,hP,ek2,s1,s2]
 ·obtain ⟨ρ',S',ek2⟩:=k1;refine ⟨S',?_⟩;simp [zo6,zas,zm7,zhx,zhw,zhv,zhu,zht,zhs,zhr,zhq,zhp,zfC,zfB,zjF,et,ei,ep',m5,eL,lE,m6,eb',m7,etw,m3,es,m4,eso,ea,na,lr,nso,n2,ek,hP,ek2,s1,s2]
end S2.L91
namespace L2
open PySem PySem.Spec PyProof.Rows
def zsW{CX:CXT}{P:Program}{w:World}{K:PySem.W.Frag}{mg:Z6}{base:Heap}{k:Nat}{f a:Addr}{name qual:Str}{params:Arguments}{body:List Stmt}{scope:Scope}{dV kV doc pm cdv ct oc:Value}{an od:Option Addr}
  {osl:Array (Option Value)} {N ps:List Str} {A:Around} {outer:List Env} {s:Shared} {H:Hp} {args:Args} {us:List Value} {vs:List V} {Q:VK} {E:XK} {t:TS} (lk:K.lookup f=some ⟨oc,od,.func (PySem.W.fnOf name qual params body scope dV kV doc pm an cdv ct),osl⟩) (hcd:PySem.W.codeIn K cdv qual=true) (S:FnScope N ps scope)
  (hr:Room (k+1) A) (e0:Env0 P w K mg base A outer s H) (hb:BindsTo s (PySem.W.fnOf name qual params body scope dV kV doc pm an cdv ct) args (ps.zip us)) (r:Vals vs us) (hl:vs.length=ps.length)
  (ht:PSs ((zg5 CX P w K mg base N qual scope f cdv A outer s H E).inH a) body t) (hq:t { nx:=fun _ H'=>Q .non H',rt:=Q } (zcN N vs) H) :
  codeAny (model P w) (A.mark (some (.ref a))) (.call (.ref f) args) (fun r s'=>∃u,r=.ok (.ret u)/\CE outer P w H s Q u s') s:=by
 have KX:K.In s.heap:=e0.mod.kin.keeps fun b o e=>(e0.bs b o e).1
 have lim:s.heap.NoLimit:=e0.mod.nolimit.keeps fun b o e=>(e0.bs b o e).1
 have hkind:∀y∈ps.zip us,scope.names.lookup y.1=some .local\/(scope.names.lookup y.1=some .cell/\((cellsFrom (s.heap.objs.size+1) scope.names []).lookup y.1).isSome=true):=fun ⟨n,v⟩ hy=>by
  rcases S.par n (ya7 hy).1 with q | q
  ·exact .inl q
  ·exact .inr ⟨q,ybC _ _ _ (.inl q)⟩
 refine ycl (A:=A.mark (some (.ref a))) hr.depth (KX _ _ lk) rfl S.co S.gen rfl (ycH KX hcd) (hb _ _ _ _ ?_);refine ybR S.kind hkind fun env he s1 x=>?_
 subst he;refine ⟨lim.keeps x.toInCall.keep,codeAny_func ?_⟩;have I:Inv (zg5 CX P w K mg base N qual scope f cdv A outer s H E) [] (zcN N vs) H s1:=zey S hr.hd e0 hl r x;refine yaR (ht [] s1 (zcN N vs) H _ (I.inH a) hq) (fun fl s' hs=>?_) fun e s' hs=>hs.elim
 have fin:∀{σ':St} {H':Hp} {v:V} {u:Value},Inv ((zg5 CX P w K mg base N qual scope f cdv A outer s H E).inH a) [] σ' H' s'->zaX v u->Q v H'->CE outer P w H s Q u s' :=
  fun {σ' H' v u} J rv q=>⟨v,H',J.os,J.bare,J.base,J.hok,rv,q⟩
 cases fl with
 | ret u =>
  obtain ⟨v,σ',H',J,rv,q⟩:=hs;exact ⟨u,rfl,fin J rv q⟩
 | next =>
  obtain ⟨σ',H',J,q⟩:=hs;exact ⟨.none,rfl,fin (v:=V.non) (u:=Value.none) J rfl q⟩
 | brk =>
  obtain ⟨_,_,_,q⟩:=hs;exact False.elim q
 | cont =>
  obtain ⟨_,_,_,q⟩:=hs;exact False.elim q
end L2
namespace S2
open PySem PySem.Spec PyProof.Rows L2
noncomputable def zdz:List Str:=["NoFill","NoName","NoPlace","NoText","NoTile","Nothing","Unlike"]
section
variable{Y:Cx}{cl:Cf}{G:Genv}{k:Nat}{E:St->XK}
noncomputable def zjT(C:Str)(p q r t:Pos):Expr:=.Call (.Name "isinstance" p) [.Name "_law_kept" q,.Name C r] [] t
structure ClsCx(cl:Cf)(G:Genv)(k:Nat)(Y:Cx):Prop where
 gok:GOk cl G Y.prog Y.w Y.K Y.mg Y.base k
 kk:Y.K=cl.K
 un:Y.A.units+64<cLine
 nn:Y.N=(["_law_kept","_law_kinds"]:List Str)
 l0:Y.env.scope.names.lookup ("_law_kept":Str)=some .local
 l1:Y.env.scope.names.lookup ("_law_kinds":Str)=some .local
 gl:∀x∈(("isinstance":Str)::("ValueError":Str)::zdz),Gl Y x
 b1:G.blt "isinstance" = true
 b2:G.blt "ValueError" = true
 ex:∀x∈zdz,G.exc x=true
def ClsCx.bor0(c:ClsCx cl G k Y){p:Pos}:PE Y (.Name "_law_kept" p) (tH cl E (zal 0)):=zkf (by rw [c.nn];rfl) (.inl c.l0) (by decide) (by decide)
def ClsCx.bor1(c:ClsCx cl G k Y){p:Pos}:PE Y (.Name "_law_kinds" p) (tH cl E (zal 1)):=zkf (by rw [c.nn];rfl) (.inl c.l1) (by decide) (by decide)
def ClsCx.cls(c:ClsCx cl G k Y){C:Str}(h:C∈zdz){p q r t:Pos}:PE Y (zjT C p q r t) (tE cl E (eUn (zjy G.isx C) (zal 0))):=by
 have hv:C ≠ "ValueError":=by rintro rfl;revert h;decide
 have hd:(C == ("__debug__":Str))=false:=by
  cases e:(C == ("__debug__":Str)) with
  | false=>rfl
  | true=>rw [eq_of_beq e] at h;revert h;decide
 exact zit (vC:=.ref (cl C)) (c.gl _ (.head _)) (c.gok.blt _ c.b1) (zhF (c.gl _ (.tail _ (.tail _ h))) (c.gok.exc C (c.ex C h)).1 rfl hd) (fun u r=>by rw [show u=Value.ref (cl C) from r];unfold clsV;rw [if_neg hv]) (fun d b hc=>c.gok.isx d _ b hc) rfl c.bor0
def ClsCx.clsV(c:ClsCx cl G k Y){p q r t:Pos}:PE Y (zjT "ValueError" p q r t) (tE cl E (eUn (zjy G.isx "ValueError") (zal 0))) :=
 zit (vC:=.ty "ValueError") (c.gl _ (.head _)) (c.gok.blt _ c.b1) (zhH (c.gl _ (.tail _ (.head _))) (c.gok.blt _ c.b2) zfx rfl (by decide) (by decide)) (fun u r=>by rw [show u=Value.type "ValueError" from r];rfl) (fun d b hc=>c.gok.isx d _ b hc) rfl c.bor0
def ClsCx.cnt(c:ClsCx cl G k Y){p ap cp q:Pos}{kk:Nat}(hl:(ap.endLine == cp.line)=true):PE Y (.Call (.Attribute (.Name "_law_kinds" p) "count" ap) [.Constant (.bool true) kk q] [] cp) (tE cl E (eMt zfq 1 (zah (.bl true)))) :=
 zrz PySem.F.slot_list_count PySem.F.type_list_count (zmO c.kk c.un) zlA (by rw [c.nn];rfl) (.inl c.l1) (by decide) (by decide) (zcx (zfE zpx fun _=>.bl _)) rfl hl
def ClsCx.idx(c:ClsCx cl G k Y){p ap cp q:Pos}{kk:Nat}(hl:(ap.endLine == cp.line)=true):PE Y (.Call (.Attribute (.Name "_law_kinds" p) "index" ap) [.Constant (.bool true) kk q] [] cp) (tE cl E (eMt zfl 1 (zah (.bl true)))) :=
 zrz PySem.F.slot_list_index PySem.F.type_list_index (zmN c.kk c.un) zlc (by rw [c.nn];rfl) (.inl c.l1) (by decide) (by decide) (zcx (zfE zpx fun _=>.bl _)) rfl hl
def ClsCx.nd(c:ClsCx cl G k Y):Y.N.Nodup:=by rw [c.nn];decide
def zd4{x:Str}{kk:Nat}{p:Pos}:PE Y (.Constant (.str x) kk p) (tE cl E (zah (.str x))):=zfE zkI fun _=>.str _
def ClsCx.ok(c:ClsCx cl G k Y){a1 a2 a3 b1 b2 b3 b4 b5 c1 c2 c3 c4 c5 c6 c7 c8 d1 d2 d3 e1 e2 e3 e4 e5 e6 e7 f1 f2 f3 f4 f5 f6 f7 g1 g2 g3 g4 h1 h2 h3 h4 i1 i2 i3 i4 j1 j2 j3 j4 k1 k2 k3 k4 l1 l2 l3 l4 m1 m2 m3 m4 n1 n2 n3 n4:Pos}{x1 x2 x3 x4 y1 y2 y3 y4 y5 y6 y7:Nat}
  (hl1:(c2.endLine == c4.line)=true) (hl2:(f3.endLine == f5.line)=true) :
  PSs Y [.Assign [.Name "_law_kinds" a1] (.List [zjT "NoFill" g1 g2 g3 g4,zjT "NoName" h1 h2 h3 h4,zjT "NoPlace" i1 i2 i3 i4,zjT "NoText" j1 j2 j3 j4] a2) a3,
   .Assign [.Name "_law_kinds" b1] (.BinOp (.Name "_law_kinds" b2) .Add (.List [zjT "NoTile" k1 k2 k3 k4,zjT "Nothing" l1 l2 l3 l4,zjT "Unlike" m1 m2 m3 m4] b3) b4) b5,
   .If (.BoolOp .Or [.Compare (.Call (.Attribute (.Name "_law_kinds" c1) "count" c2) [.Constant (.bool true) x1 c3] [] c4) [.NotEq] [.Constant (.int 1) x2 c5] c6,.UnaryOp .Not (zjT "ValueError" n1 n2 n3 n4) c7] c8) [.Return (some (.Constant (.str "wrong") x3 d1)) d2] [] d3,
   .Return (some (.Subscript (.List [.Constant (.str "no fill") y1 e1,.Constant (.str "no name") y2 e2,.Constant (.str "no place") y3 e3,.Constant (.str "no text") y4 e4,.Constant (.str "no tile") y5 e5,.Constant (.str "nothing") y6 e6,.Constant (.str "unlike") y7 e7] f1) (.Call (.Attribute (.Name "_law_kinds" f2) "index" f3) [.Constant (.bool true) x4 f4] [] f5) f6)) f7]
   (tS cl E false (zeI G.isx)):=by
 have cs:∀{C:Str} {p q r t:Pos} {es:List Expr},starEach (zjT C p q r t::es) Y.env=(false,eval (zjT C p q r t) Y.env)::starEach es Y.env:=fun {C p q r t es}=>rfl
 have ks:∀{x:Str} {n:Nat} {p:Pos} {es:List Expr},starEach (.Constant (.str x) n p::es) Y.env=(false,eval (.Constant (.str x) n p) Y.env)::starEach es Y.env:=fun {x n p es}=>rfl
 refine zdR (zhy c.nd (by rw [c.nn];rfl) (.inl c.l1) (zis (zaT (c.cls (by decide)) (zaT (c.cls (by decide)) (zaT (c.cls (by decide)) (zaT (c.cls (by decide)) zej cs) cs) cs) cs)) (zdC rfl) (.inr c.l1)) ?_;refine zdR (znF c.nd (by rw [c.nn];rfl) (.inl c.l1) (zkg znZ c.bor1 (zcx (zbC (zis (zaT (c.cls (by decide)) (zaT (c.cls (by decide)) (zaT (c.cls (by decide)) zej cs) cs) cs))))) (zdC rfl) (.inr c.l1)) ?_;refine zdR (zrj ?_ (zdR (zj5 zd4) zim) zim) ?_
 ·exact PW.pt (zrd (znD (zsi c.kk c.un) (zcx (c.cnt hl1)) (zcx (zfE znU fun _=>.int _)) rfl) (znM (znC (zba c.clsV (fun _=>rfl)))))
 ·exact zdR (zj5 (zrA (zsT c.kk c.un) (zcx (zbC (zis (zaT zd4 (zaT zd4 (zaT zd4 (zaT zd4 (zaT zd4 (zaT zd4 (zaT zd4 zej ks) ks) ks) ks) ks) ks) ks)))) (zcx (c.idx hl2)) (fun _ _=>rfl))) zim
theorem zlI{fs:Fs}{own:Bool}{n:Nat}{N:List Str}{vs:List V}{H:Hp}{Q:VK}{X:XK}(hsp:zgh cl n own (zbx N.length own fs) vs H Q X):tS cl (fun _=>X) own fs { nx:=fun _ H'=>Q .non H',rt:=Q } (L2.zcN N vs) H:=by
 obtain ⟨hl,B,w,ds,S0,rfl,W,sh,q⟩:=hsp;have hdl:ds.length=vs.length:=sh.length.symm;refine ⟨B,w,ds.map (fun d=>some (false,d))++List.replicate (N.length-ds.length) none,S0,rfl,⟨W,?_,fun i o d hi=>?_⟩,?_⟩
 ·unfold L2.zcN;rw [yan,yan,yad,yad,yaI,yaI,hdl]
 ·by_cases hlt:i<ds.length
  ·rw [yat (by rw [yad];exact hlt),yao] at hi
   cases hdi:ds[i]? with
   | none=>rw [hdi] at hi;cases hi
   | some d' =>
    rw [hdi] at hi;cases hi;obtain ⟨v,e1,e2⟩:=sh.at hdi;refine ⟨v,?_,e2⟩;unfold L2.zcN;rw [yat (by rw [yad];omega),yao,e1];rfl
  ·rw [yay (by rw [yad];omega),yba] at hi
   split at hi<;>cases hi
 ·unfold zbx at q
  cases hf:fs (ds.map (fun d=>some (false,d))++List.replicate (N.length-ds.length) none) S0 with
  | bad=>rwa [hf] at q
  | bk _ _=>rw [hf] at q;exact q.elim
  | ct _ _=>rw [hf] at q;exact q.elim
  | rt d S'=>rwa [hf] at q
  | ex c ρ' S'=>rw [hf] at q;exact fun σ' w' R' F'=>q w' R'.wd F'
  | nx ρ' S' =>
   rw [hf] at q;dsimp only at q
   cases own with
   | true=>exact q.elim
   | false=>exact fun σ' w' R' F'=>q .non w' R'.wd F' .non
end
structure ClsFn(cl:Cf)(G:Genv)(K:PySem.W.Frag)(st:Stmt)(f:Addr)(fd:FuncData):Prop where
 fn:Fun K "_law_class" "_law_class" st f fd
 sc:FnScope ["_law_kept","_law_kinds"] ["_law_kept"] (zak st)
 l0:(zak st).names.lookup ("_law_kept":Str)=some .local
 l1:(zak st).names.lookup ("_law_kinds":Str)=some .local
 gl:∀x∈(("isinstance":Str)::("ValueError":Str)::zdz),(zak st).names.lookup x=some .globalImplicit
 b1:G.blt "isinstance" = true
 b2:G.blt "ValueError" = true
 ex:∀x∈zdz,G.exc x=true
 ok:∀(k:Nat) (Y:Cx) (E:St->XK),ClsCx cl G k Y->PSs Y (zaS st) (tS cl E false (zeI G.isx))
 bind:∀us:List Value,us.length=1->bindArgs fd ⟨us,[]⟩=pure ([("_law_kept":Str)].zip us)
def znK(G:Genv):List D->Sto->Out D:=zbx 2 false (zeI G.isx)
noncomputable def zoE(cl:Cf)(G:Genv)(i:Nat):TE:=fun σ H Q=>∃v,σ[i]?=some (some v)/\zgh cl 1 false (znK G) [v] H Q fun _ _ _=>False
theorem zke{X:Cx}{cl:Cf}{G:Genv}{k i:Nat}{n:Str}{a f:Addr}{fd:FuncData}{st:Stmt}{p q pos:Pos}(hr:Room (k+1) X.A)(gok:GOk cl G X.prog X.w X.K X.mg X.base k)(C:ClsFn cl G X.K st f fd)(hkk:X.K=cl.K)(hm:X.mg "_law_class" = some (.ref f))(hk:PySem.W.keepIn X.K (.ref f)=true)(hg:Gl X "_law_class")
  (hN:X.N[i]?=some n) (hv:Vis X.env.scope n) (hd:(n == ("__debug__":Str))=false) (hcd:(n == ("__classdict__":Str))=false):PE (X.inH a) (.Call (.Name "_law_class" p) [.Name n q] [] pos) (zoE cl G i):=by
 intro pins s σ H Q I h;obtain ⟨v,h1,h2⟩:=h;have ha:PA (X.inH a) [.Name n q] _:=zaU (zaP (X:=X.inH a) (pos:=q) hN hv hd hcd) zbG rfl;refine ya0 (zcW I hg hm ?_ (by decide));refine ybF (h₀:=X.base) I.ok.mod.kin hk (thn (ha pos pins s σ H (fun vs H1=>vs=[v]/\H1=H) I ⟨v,h1,rfl,rfl⟩) fun us s1 ⟨vs,H1,I1,r,e1,e2⟩=>⟨I1.kIn,?_⟩) rfl rfl;subst e1 e2;have okX:X.Ok:=⟨I1.ok.mod,I1.ok.kind,I1.ok.glob,I1.ok.blt,I1.ok.above,I1.ok.inj,I1.ok.has,I1.ok.cab,fun _=>hr.hd,I1.ok.frames,I1.ok.stk,I1.ok.exf,I1.ok.bs,I1.ok.bsz,I1.ok.noex,I1.ok.exfs,I1.ok.funs,I1.ok.frf⟩;have J:=I1.outH okX;obtain ⟨oc,od,kV,doc,pm,an,cdv,ct,osl,rfl,lk,hc⟩:=C.fn.ex;have hl:us.length=1:=r.length.symm
 have cx:ClsCx cl G k ((zg5 (CXE X.prog X.w) X.prog X.w X.K X.mg X.base ["_law_kept","_law_kinds"] "_law_class" (zak st) f cdv X.A X.stack s1 H1 (fun _ _ _=>False)).inH a) :=
  ⟨gok,hkk,(by have:=hr.un;show X.A.units+3+64<cLine;omega),rfl,C.l0,C.l1,fun x hx=>C.gl x hx,C.b1,C.b2,C.ex⟩
 refine ycO (ybu (zsW (CX:=CXE X.prog X.w) (E:=fun _ _ _=>False) (a:=a) lk hc C.sc hr J.env0 (.of_eq (C.bind us hl)) r rfl (C.ok k _ (fun _ _ _ _=>False) cx) (zlI (N:=["_law_kept","_law_kinds"]) h2)) fun r s' hq=>?_);obtain ⟨u,rfl,ce⟩:=hq;obtain ⟨w,H',J',rw',q'⟩:=J.after ce;exact ⟨w,H',J'.inH a,rw',q'⟩
end S2
namespace L2
open PySem PySem.Spec PyProof.Rows
def zuW{CX:CXT}{P:Program}{w:World}{K:PySem.W.Frag}{mg:Z6}{base:Heap}{k:Nat}{f:Addr}{name qual:Str}{params:Arguments}{body:List Stmt}{scope:Scope}{dV kV doc pm cdv ct oc:Value}{an od:Option Addr}
  {osl:Array (Option Value)} {N ps:List Str} {A:Around} {outer:List Env} {s:Shared} {H:Hp} {args:Args} {us:List Value} {vs:List V} {Q:VK} {E:XK} {t:TS} (lk:K.lookup f=some ⟨oc,od,.func (PySem.W.fnOf name qual params body scope dV kV doc pm an cdv ct),osl⟩) (hcd:PySem.W.codeIn K cdv qual=true) (S:FnScope N ps scope)
  (hr:Room (k+1) A) (e0:Env0 P w K mg base A outer s H) (hb:BindsTo s (PySem.W.fnOf name qual params body scope dV kV doc pm an cdv ct) args (ps.zip us)) (r:Vals vs us) (hl:vs.length=ps.length)
  (ht:PSs (zg5 CX P w K mg base N qual scope f cdv A outer s H E) body t) (hq:t { nx:=fun _ H'=>Q .non H',rt:=Q } (zcN N vs) H) :
  codeAny (model P w) A (.call (.ref f) args) (CR CX outer P w H s Q E) s:=by
 have KX:K.In s.heap:=e0.mod.kin.keeps fun b o e=>(e0.bs b o e).1
 have lim:s.heap.NoLimit:=e0.mod.nolimit.keeps fun b o e=>(e0.bs b o e).1
 have hkind:∀y∈ps.zip us,scope.names.lookup y.1=some .local\/(scope.names.lookup y.1=some .cell/\((cellsFrom (s.heap.objs.size+1) scope.names []).lookup y.1).isSome=true):=fun ⟨n,v⟩ hy=>by
  rcases S.par n (ya7 hy).1 with q | q
  ·exact .inl q
  ·exact .inr ⟨q,ybC _ _ _ (.inl q)⟩
 refine ycl hr.depth (KX _ _ lk) rfl S.co S.gen rfl (ycH KX hcd) (hb _ _ _ _ ?_);refine ybR S.kind hkind fun env he s1 x=>?_
 subst he;refine ⟨lim.keeps x.toInCall.keep,codeAny_func ?_⟩;have I:Inv (zg5 CX P w K mg base N qual scope f cdv A outer s H E) [] (zcN N vs) H s1:=zey S hr.hd e0 hl r x;refine yaR (ht [] s1 (zcN N vs) H _ I hq) (fun fl s' hs=>?_) fun e s' hs=>hs
 cases fl with
 | ret u =>
  obtain ⟨v,σ',H',J,rv,q⟩:=hs;exact ⟨v,H',J.os,J.bare,J.base,J.hok,rv,q⟩
 | next =>
  obtain ⟨σ',H',J,q⟩:=hs;exact ⟨.non,H',J.os,J.bare,J.base,J.hok,rfl,q⟩
 | brk =>
  obtain ⟨_,_,_,q⟩:=hs;exact False.elim q
 | cont =>
  obtain ⟨_,_,_,q⟩:=hs;exact False.elim q
section
variable{X:Cx}{CX:CXT}{k:Nat}{N:List Str}{qual x:Str}{params:Arguments}{body:Expr}{sc:Scope}{f c:Addr}{clos:List (Str×Addr)}{E:St->XK}{vs:List V}{pm ctv:Value}{of oc:Obj}{uf uc:HO}{te:St->TE}{p pos:Pos}{i:Nat}
noncomputable def zj2(i:Nat)(f:Addr)(vs:List V)(te:St->TE):TE:=fun σ H Q=>σ[i]?=some (some (.ref f))/\te σ (vs.map some) H Q
def zmz(S:LamSc N sc)(hr:Room (k+1) X.A)(hN:X.N[i]?=some x)(hv:Vis X.env.scope x)(L:LamAt X.s₀.heap X.H₀ f params qual body sc N vs clos c pm ctv)(hf:X.H₀ f=some (.frz of uf))(hc:X.H₀ c=some (.frz oc uc))(h0:HOk X.prog X.w X.H₀ X.s₀.heap)
  (hx:∀x a,clos.lookup x=some a->a ∉ X.fs/\a ∉ X.ex) (hb:bindArgs (PySem.W.kla_fn "<lambda>" qual params body sc clos pm (.ref c) ctv) ⟨[],[]⟩=pure [])
  (hp:∀(pins:Z3) (σ:St) (H:Hp) (s:Shared) (e:Value) (s':Shared),Inv X pins σ H s->CX X.stack H s (E σ) e s'->X.xe e s')
  (he:∀σ s H,Room k (X.A.deeper (PySem.W.envX qual sc s.heap.objs.size f (.ref c) clos))->PE (zg6 CX X.prog X.w X.K X.mg X.base N qual sc f (.ref c) clos X.A X.stack s H (E σ)) body (te σ))
  (hd:(x == ("__debug__":Str))=false) (hcd:(x == ("__classdict__":Str))=false):PE X (.Call (.Name x p) [] [] pos) (zj2 i f vs te):=by
 intro pins s σ H Q I h;obtain ⟨h1,h2⟩:=h;refine ya0 (thn (zaP (pos:=p) hN hv hd hcd pins s σ H (fun v H'=>v=.ref f/\H'=H) I ⟨_,h1,rfl,rfl⟩) fun u s1 ⟨v,H1,I1,r,e1,e2⟩=>?_);subst e1 e2;cases r;have L1:=I1.lamAt L hf hc h0 hx;refine PySem.W.callWith_F0 ⟨_,_,_,_,L1.fn⟩ ?_;refine ycO (ybu (zpQ (CX:=CX) (E:=E σ) S hr I1.env0 L1 hb (he σ s1 H1) h2) fun r s' hq=>?_)
 cases r with
 | error e=>exact hp pins σ H1 s1 e s' I1 hq
 | ok fl =>
  cases fl with
  | ret u=>exact I1.after hq
  | next=>exact False.elim hq
  | brk=>exact False.elim hq
  | cont=>exact False.elim hq
end
def zup{P:Program}{w:World}{K:PySem.W.Frag}{mg:Z6}{base:Heap}{N:List Str}{qual:Str}{scope:Scope}{f:Addr}{cd:Value}{clos:List (Str×Addr)}{A:Around}{outer:List Env}{s:Shared}{H:Hp}{E:XK} :
  zol (CXE P w) (zg6 (CXE P w) P w K mg base N qual scope f cd clos A outer s H E) E:=fun pins σ H1 s1 e s' I q =>
 ziK (X:=zg6 (CXE P w) P w K mg base N qual scope f cd clos A outer s H E) I rfl rfl rfl q
def zhZ{scope:Scope}{env:Env}{cl:List (Str×Addr)}(h:∀y∈scope.names,y.2=.free->∃c,env.cells.lookup y.1=some c)(hc:closureFor scope env=pure cl):∀y c,cl.lookup y=some c->(y,NameKind.free)∈scope.names:=by
 have key:∀(l:List (Str×NameKind)) (cs:List (Str×Addr)),(∀y∈l,y.2=.free->∃c,env.cells.lookup y.1=some c) →
   ∃cl,(forIn l cs fun (x:Str×NameKind) (r:List (Str×Addr))=>(if (x.2 == NameKind.free)=true then (do let c ← cellOf env x.1;pure (ForInStep.yield ((x.1,c)::r))) else pure (ForInStep.yield r):Sem (ForInStep (List (Str×Addr)))))=pure cl ∧
    ∀y c,cl.lookup y=some c->(y,NameKind.free)∈l\/∃c',cs.lookup y=some c':=by
  intro l
  induction l with
  | nil=>intro cs _;exact ⟨cs,rfl,fun y c e=>.inr ⟨c,e⟩⟩
  | cons p l ih =>
   intro cs hl;obtain ⟨n,k⟩:=p
   by_cases hk:(k == NameKind.free)=true
   ·have ek:k=.free:=eq_of_beq hk;obtain ⟨c,ec⟩:=hl (n,k) yaw ek;obtain ⟨cl,e1,e2⟩:=ih ((n,c)::cs) (fun y hy=>hl y (yar _ hy));refine ⟨cl,?_,fun y c' e=>?_⟩
    ·rw [ybL];show ((if (k == NameKind.free)=true then _ else _) >>= _)=_;rw [if_pos hk]
     have ecell:cellOf env n=pure c:=by unfold cellOf;rw [ec]
     show (cellOf env n >>= _) >>= _=_;rw [ecell];simpa using e1
    ·rcases e2 y c' e with z | ⟨c2,z⟩
     ·exact .inl (yar _ z)
     ·rw [yaB] at z
      cases hq:y == n with
      | true=>rw [eq_of_beq hq,<-ek];exact .inl yaw
      | false=>rw [hq] at z;exact .inr ⟨c2,z⟩
   ·obtain ⟨cl,e1,e2⟩:=ih cs (fun y hy=>hl y (yar _ hy));refine ⟨cl,?_,fun y c' e=>(e2 y c' e).elim (fun z=>.inl (yar _ z)) .inr⟩;rw [ybL];show ((if (k == NameKind.free)=true then _ else _) >>= _)=_;rw [if_neg hk];simpa using e1
 obtain ⟨cl',e1,e2⟩:=key scope.names [] h
 have e3:closureFor scope env=pure cl':=by
  unfold closureFor;show ((forIn scope.names [] _:Sem (List (Str×Addr))) >>= _)=_;simpa using e1
 have e4:cl=cl':=by
  have:=hc.symm.trans e3;injection this
 subst e4
 exact fun y c e=>(e2 y c e).elim (fun z=>z) fun ⟨_,z⟩=>by cases z
end L2
namespace S2
open PySem PySem.Spec PyProof.Rows L2
structure ToldFn(K:PySem.W.Frag)(st:Stmt)(f:Addr)(fd:FuncData):Prop where
 fn:Fun K "_law_told" "_law_told" st f fd
 sc:FnScope ["_law_deed_here","e"] ["_law_deed_here"] (zak st)
 l0:(zak st).names.lookup ("_law_deed_here":Str)=some .local
 l1:(zak st).names.lookup ("e":Str)=some .local
 g1:(zak st).names.lookup ("FloorError":Str)=some .globalImplicit
 g2:(zak st).names.lookup ("_law_class":Str)=some .globalImplicit
 body:∃p1 p2 p3 p4 p5 p6 p7 p8 p9 p10:Pos,zaS st=[.Try [.Return (some (.Call (.Name "_law_deed_here" p1) [] [] p2)) p3] [.ExceptHandler (some (.Name "FloorError" p4)) (some "e") [.Return (some (.Call (.Name "_law_class" p5) [.Name "e" p6] [] p7)) p8] p9] [] [] p10]
 bind:∀us:List Value,us.length=1->bindArgs fd ⟨us,[]⟩=pure ([("_law_deed_here":Str)].zip us)
def zku{G:Genv}{c:Str}{S S':Sto}{d:D}(h:zlU G.isx c S=.ok d S'):znK G [.exc c] S=.ok d S':=by
 unfold zlU at h;show zbx 2 false (zeI G.isx) [.exc c] S=_;unfold zbx;show (match zeI G.isx [some (false,.exc c),none] S with | .rt d S'=>Out.ok d S' | .nx _ S'=>_ | .ex c _ S'=>_ | _=>_)=_
 revert h
 cases zeI G.isx [some (false,.exc c),none] S with
 | rt d0 S0=>exact fun h=>h
 | _=>intro h;cases h
def zig{H:Hp}{a b:Addr}{x y:HO}(n:a≠b):upd (upd H a x) b y=upd (upd H b y) a x:=by
 funext c
 by_cases h1:c=a
 ·subst h1;rw [zag n,zap,zap]
 ·by_cases h2:c=b
  ·subst h2;rw [zap,zag h1,zap]
  ·rw [zag h2,zag h1,zag h1,zag h2]
def zjM{pos pos':Pos}{c v:Value}(l:List Value)(h:TriplesOk l)(hn:codeAmong pos' (l++[rawInt pos.line,rawInt pos.col,c])=some v):codeAmong pos' l=some v\/v=c:=by
 fun_induction TriplesOk l with
 | case1 =>
  simp only [List.nil_append,codeAmong,rawInt] at hn;split at hn
  ·exact .inr (Option.some.inj hn).symm
  ·cases hn
 | case2 a t b u x zbD ih =>
  simp only [List.cons_append,codeAmong] at hn ⊢;split at hn
  ·rename_i hc;rw [if_pos hc];exact .inl hn
  ·rename_i hc;rw [if_neg hc];exact ih h hn
 | case3 l h1 h2=>exact h.elim
section
variable{P:Program}{wo:PySem.World}{K:PySem.W.Frag}{mg:Z6}{base:Heap}{cl:Cf}{G:Genv}{j:Nat}
def zq2{st st2:Stmt}{ft fc cd Pt:Addr}{fd fd2:FuncData}{q:Str}{params:Arguments}{body:Expr}{sc:Scope}{lp:Pos}{N:List Str}{fb:Fe}
  (T:ToldFn K st ft fd) (C:ClsFn cl G K st2 fc fd2) (gok:GOk cl G P wo K mg base j) (hkk:K=cl.K)
  (m1:mg "_law_told" = some (.ref ft)) (k1:PySem.W.keepIn K (.ref ft)=true) (m2:mg "_law_class" = some (.ref fc)) (k2:PySem.W.keepIn K (.ref fc)=true) (hfe:G.exc "FloorError" = true)
  (hB:zny mg base) (hC:PySem.W.CodeHd base cd Pt) (htb:cl.tabs Pt=some (q ++ "<lambda>")) (LS:LamSc N sc) (nd:N.Nodup) (hfr:∀y∈sc.names,y.2=.free->y.1∈N) (hdf:∀env,defaultsOf params env=([],[])) (hbn:∀clos pm c ctv,bindArgs (PySem.W.kla_fn "<lambda>" (q ++ "<lambda>") params body sc clos pm (.ref c) ctv) ⟨[],[]⟩=pure [])
  (hE:∀(f c:Addr) (clos:List (Str×Addr)) (A:Around) (outer:List PySem.Env) (s:Shared) (H:Hp) (E':XK),Room j (A.deeper (PySem.W.envX (q ++ "<lambda>") sc s.heap.objs.size f (.ref c) clos))->PE (zg6 (CXE P wo) P wo K mg base N (q ++ "<lambda>") sc f (.ref c) clos A outer s H E') body (tE cl (fun _=>E') fb)) :
  zts cl G.und G.isx P wo K mg base (j+2) (some (cd,q)) (.Lambda params body sc lp) N fb:=by
 intro X E caps p pos eP eW eK eM eB hr hcalm hg hcod hcaps;subst eP eW eK eM eB;obtain ⟨hcd,hq⟩:=hcod _ rfl;dsimp only at hcd hq;intro pins s σ H Q I h;obtain ⟨B,w,ρ,S,rfl,R,h⟩:=h;unfold zdA at h
 cases hds:zg8 ρ caps with
 | none=>rw [hds] at h;exact h.elim
 | some ds =>
 rw [hds] at h;dsimp only at h;obtain ⟨vs,hvl,hvs,sh⟩:=zi3 R hds
 obtain ⟨clos,hclos,hcl1,hcl2⟩:=zft (scope:=sc) (env:=X.env) fun y hy hf=>by
  obtain ⟨i,hi⟩:=ycr.mp (hfr y hy hf)
  have hlt:i<caps.length:=by rw [hcaps.len];exact (yai.mp hi).1
  exact I.ok.has y.1 (.inl (hcaps.at' i y.1 _ hi (yac hlt)).2.1)
 have hlam:=zr1 (X:=X) (params:=params) (body:=body) (sc:=sc) (pos:=lp) hcd hC hB hclos (hdf _);rw [hq] at hlam;have ha:PA X [.Lambda params body sc lp] _:=zaU hlam zbG rfl;refine ya0 (zcW I hg m1 ?_ (by decide))
 refine ybF (h₀:=X.base) I.ok.mod.kin k1 (thn (ha pos pins s σ w.H (fun xs H1=>∃f c oc ctv w1,xs=[.ref f]/\w1.H=H1/\Rel cl B σ w1 ρ S/\Fut w w1 ∧
   w1.H f=some (.frz (PySem.W.kla_obj "<lambda>" (q ++ "<lambda>") params body sc clos ((X.mg "__name__").getD .none) c ctv) (.own f))/\w1.H c=some (.frz oc (.own c))/\zjb (q ++ "<lambda>") oc) I ?rd) fun us s1 ⟨xs,H1,I1,r1,q1⟩=>⟨I1.kIn,?go⟩) rfl rfl
 case rd =>
  obtain ⟨ps,t1,t2,t3⟩:=R.wd.tab Pt _ htb;refine ⟨ps,t1,t3.1,fun hca f c oc ctv hf hc hfc hco=>?_,fun cv hca=>?_⟩
  ·have g1:=zaH (w:=w) hc (.frz oc (.own c))
   have hf':(w.add c (.frz oc (.own c))).H f=none:=by show upd w.H c _ f=none;rw [zag hfc];exact hf
   have g2:=zaH (w:=w.add c (.frz oc (.own c))) hf' (.frz (PySem.W.kla_obj "<lambda>" (q ++ "<lambda>") params body sc clos ((X.mg "__name__").getD .none) c ctv) (.own f));have R2:=(R.grow g1).grow g2
   have pc:c≠Pt:=fun z=>by rw [z,t1] at hc;cases hc
   have pf:f≠Pt:=fun z=>by rw [z,t1] at hf;cases hf
   have a1:=g1.keep Pt _ t1;have a2:=g2.keep Pt _ a1.1;have c1:(w.add c (.frz oc (.own c))).H c=some (.frz oc (.own c)):=zjN;have c2:=g2.keep c _ c1
   obtain ⟨R3,F3⟩:=R2.tabUp (ps':=ps++#[rawInt lp.line,rawInt lp.col,.ref c]) a2.1 (a2.2.trans (a1.2.trans t2)) fun q' hq'=>by
    have eq':q'=q ++ "<lambda>":=by rw [htb] at hq';exact (Option.some.inj hq').symm
    subst eq';have t4:=(t3.up g1.fut).up g2.fut;refine ⟨by rw [Array.toList_append];exact TriplesOk_snoc _ _ _ _ t3.1,fun pos' cv e=>?_⟩;rw [Array.toList_append] at e
    rcases zjM _ t3.1 e with z | z
    ·exact t4.2 pos' cv z
    ·exact ⟨c,oc,z,⟨c2.1,c2.2.trans zhk⟩,hco⟩
   refine ⟨f,c,oc,ctv,_,rfl,?_,R3,g1.fut.trans (g2.fut.trans F3),?_,?_,hco⟩
   ·show upd (upd (upd w.H c _) f _) Pt _=_;rw [zig pf,zig pc]
   ·show upd (upd (upd w.H c _) f _) Pt _ f=_;rw [zag pf,zap]
   ·show upd (upd (upd w.H c _) f _) Pt _ c=_;rw [zag pc,zag (fun z=>hfc z.symm),zap]
  ·obtain ⟨c,oc,rfl,hcw,hco⟩:=t3.2 lp cv hca;refine ⟨c,oc,rfl,hcw.1,hco,fun f ctv hf=>?_⟩;have g1:=zaH (w:=w) hf (.frz (PySem.W.kla_obj "<lambda>" (q ++ "<lambda>") params body sc clos ((X.mg "__name__").getD .none) c ctv) (.own f));exact ⟨f,c,oc,ctv,w.add f _,rfl,rfl,R.grow g1,g1.fut,zjN,(g1.keep c _ hcw.1).1,hco⟩
 case go =>
  obtain ⟨f,c,oc,ctv,w1,rfl,rfl,R1,F1,hf1,hc1,⟨us1,tt,hd1,hv1⟩⟩:=q1
  have hmem:=zhZ (scope:=sc) (env:=X.env) (cl:=clos) (fun y hy hf=>by
   obtain ⟨i,hi⟩:=ycr.mp (hfr y hy hf)
   have hlt:i<caps.length:=by rw [hcaps.len];exact (yai.mp hi).1
   exact I.ok.has y.1 (.inl (hcaps.at' i y.1 _ hi (yac hlt)).2.1)) hclos
  have L:LamAt s1.heap w1.H f params (q ++ "<lambda>") body sc N vs clos c ((X.mg "__name__").getD .none) ctv:={
   fn:=(I1.hok f _ hf1).1
   code:=⟨c,oc,us1,tt,rfl,(I1.hok c _ hc1).1,hd1,hv1⟩
   inj:=fun x y a h1 h2=>I1.ok.inj x y a (hcl1 x a h1) (hcl1 y a h2)
   has:=fun x hx=>hcl2 x (yaA hx)
   cell:=fun x a e=>⟨I1.freeC x a (hcl1 x a e),I1.cell x a (hcl1 x a e)⟩
   val:=fun i x v h1 h2=>by
    have hlt:i<caps.length:=by rw [hcaps.len];exact (yai.mp h1).1
    obtain ⟨b1,b2,_⟩:=hcaps.at' i x _ h1 (yac hlt);obtain ⟨m,hn,hl⟩:=I1.loc;obtain ⟨u,rv,lk⟩:=hl _ x v b1 (hvs i _ v (yac hlt) h2) (.inr (.inl b2));obtain ⟨a,ea⟩:=hcl2 x (yaA (LS.free x (ya8 h1)))
    rcases lk with ⟨kl,_⟩ | ⟨_,a',ec,ic⟩
    ·have kl':X.env.scope.names.lookup x=some .local:=kl;rw [b2] at kl';cases kl'
    ·have:=(hcl1 x a ea).symm.trans ec;cases this;exact ⟨u,a,rv,ea,ic⟩
   len:=hvl.trans hcaps.len }
  have hx:∀x a,clos.lookup x=some a->a ∉ frs X.stack/\a ∉ ([]:List Addr):=fun x a e=>⟨fun hb=>by
   rcases yav.mp (I1.stkSub a hb) with z | z
   ·exact I1.cne x a (hcl1 x a e) z
   ·obtain ⟨i,hi⟩:=ycr.mp (hfr (x,.free) (hmem x a e) rfl)
    have hlt:i<caps.length:=by rw [hcaps.len];exact (yai.mp hi).1
    have hge:=I1.ok.cab x a (hcaps.at' i x _ hi (yac hlt)).2.2 (hcl1 x a e);obtain ⟨_,o,ho,_⟩:=I1.ok.funs.mem z
    exact absurd (yah (yal ho) hge) (yaN _),by simp⟩
  obtain ⟨oc',od,kV,doc,pm',an,cdv,ct,osl,rfl,lk,hc'⟩:=T.fn.ex;obtain ⟨p1,p2,p3,p4,p5,p6,p7,p8,p9,p10,hbody⟩:=T.body
  cases r1 with
  | cons r1 r2 =>
  cases r2;cases r1;have hr1:Room (j+1) (X.A.deeper (envOfC "_law_told" (zak st) s1.heap.objs.size ft cdv)):=hr.deeper _;refine ycO (ybu (zuW (CX:=CXE X.prog X.w) (E:=fun _ _ _=>False) (k:=j+1) (Q:=Q) (vs:=[.ref f]) (t:=fun De σ H=>zq5 (zj2 0 f vs fun σ'=>tE cl (fun _=>ztV X.K (cl "FloorError") 1 (zq5 (zoE cl G 1)) De σ') fb) De σ H) lk hc' T.sc hr I1.env0 (.of_eq (T.bind _ rfl)) (.cons rfl .nil) rfl ?bd ?rd2) fun r s' hq=>?_)
  case bd =>
   rw [hbody];refine zhD (zpi (tb:=fun E'=>zq5 (zj2 0 f vs fun σ'=>tE cl (fun _=>E' σ') fb)) (th:=zq5 (zoE cl G 1)) rfl rfl T.sc.nd rfl T.l1 T.g1 (gok.exc _ hfe).1 (gok.exc _ hfe).2 (by decide) (fun pins' E'=>?_) (fun a=>?_) (by decide))
   ·exact zhD (ziz (zmz (CX:=CXE X.prog X.w) (E:=E') (k:=j) (te:=fun σ'=>tE cl (fun _=>E' σ') fb) LS hr1 rfl (.inl T.l0) L hf1 hc1 I1.hok hx (hbn _ _ _ _) (fun pins'' σ' H' s'' e s3 J qq=>⟨σ',H',s'',zcY J,qq⟩) (fun σ' s'' H' hr'=>hE f c clos _ _ s'' H' (E' σ') hr') (by decide) (by decide)))
   ·exact zhD (ziz (zke (k:=j) hr1 gok C hkk m2 k2 T.g2 rfl (.inl T.l1) (by decide) (by decide)))
  case rd2 =>
   refine ⟨rfl,w1.base,w1.inn,ds.map (fun d=>some (false,d)),S,rfl,⟨R1.wd.enter,?_,fun i o d hi=>?_⟩,?_⟩
   ·rw [yad,yad];exact sh.length
   ·rw [yao] at hi
    cases hdi:ds[i]? with
    | none=>rw [hdi] at hi;cases hi
    | some d' =>
     rw [hdi] at hi;cases hi;obtain ⟨v,e1,e2⟩:=((sh.up F1).up (zbL w1)).at hdi;exact ⟨v,by rw [yao,e1];rfl,e2⟩
   ·cases hfb:fb (ds.map fun d=>some (false,d)) S with
    | bad=>rw [hfb] at h;exact h.elim
    | ok d S' =>
     rw [hfb] at h;intro v w' R' F' s';obtain ⟨Rb,Fb⟩:=R1.leave R'.wd F';exact h v (w1.back w') Rb (F1.trans Fb) (s'.up (zcd R'.wd))
    | exc c0 S' =>
     rw [hfb] at h;dsimp only at h
     cases hu:G.und c0 "FloorError" with
     | false=>rw [hu] at h;exact h.elim
     | true =>
      rw [hu,if_pos rfl] at h;intro w' R' F';refine ⟨cl c0,rfl,gok.und _ _ hu,fun a ob ha hob=>?_⟩;have g:=zaH (w:=w') ha (.frz ob (.own a));refine ⟨.ref a,rfl,rfl,w1.base,w'.add a (.frz ob (.own a)),[.exc c0],S',rfl,R'.wd.grow g,.cons (.exc zjN zhk hob) .nil,?_⟩
      cases hcr:zlU G.isx c0 S' with
      | bad=>rw [hcr] at h;exact h.elim
      | exc c2 S2 =>
       unfold zlU at hcr
       split at hcr<;>cases hcr
      | ok d S2 =>
       rw [hcr] at h;rw [zku hcr];intro v w'' W'' F'' rv;obtain ⟨Rb,Fb⟩:=R1.leave W'' ((F'.trans g.fut).trans F'');exact h v (w1.back w'') Rb (F1.trans Fb) (Shd.up (zcd W'') rv)
  ·cases r with
   | error e=>obtain ⟨_,_,_,_,_,_,_,_,_,_,_,_,_,_,z⟩:=hq;exact z.elim
   | ok fl =>
    cases fl with
    | ret u=>exact I1.after hq
    | next=>exact False.elim hq
    | brk=>exact False.elim hq
    | cont=>exact False.elim hq
end
def zgS(sc:Scope):List Str:=(sc.names.filter fun y=>y.2 == .free).map (·.1)
noncomputable def zsq:Arguments:={ posonlyargs:=[],args:=[],vararg:=none,kwonlyargs:=[],kw_defaults:=[],kwarg:=none,defaults:=[] }
noncomputable def zp6(p:Arguments):Bool:=p.1.isEmpty&&p.2.isEmpty&&p.3.isNone&&p.4.isEmpty&&p.5.isEmpty&&p.6.isNone&&p.7.isEmpty
def zmX{p:Arguments}(h:zp6 p=true):p=zsq:=by
 obtain ⟨a,b,c,d,e,f,g⟩:=p;simp only [zp6,yaa,ybz,Option.isNone_iff_eq_none] at h;obtain ⟨⟨⟨⟨⟨⟨rfl,rfl⟩,rfl⟩,rfl⟩,rfl⟩,rfl⟩,rfl⟩:=h;rfl
def zsD(sc:Scope):Bool:=decide (sc.kind=.function)&&!sc.isCoroutine&&!sc.isGenerator&&sc.names.all (fun y=>!(y.2 == .cell))&&(zgS sc).all (fun x=>decide (sc.names.lookup x=some .free))&&decide (zgS sc).Nodup
def zpR(G:Genv):Expr->Option (List Str×Fe)
 | .Lambda params body sc _=>if zp6 params&&zsD sc then (ztH G 40 sc.names (zgS sc) body).map fun p=>(zgS sc,p.2) else none
 | _=>none
noncomputable def Genv.withLam(G:Genv)(cd:Addr)(q:Str):Genv:={ G with lam:=zpR G,cod:=some (cd,q) }
theorem GOk.lamUp{P:Program}{wo:PySem.World}{K:PySem.W.Frag}{mg:Z6}{base:Heap}{cl:Cf}{G:Genv}{j:Nat}{st st2:Stmt}{ft fc cd Pt:Addr}{fd fd2:FuncData}{q:Str}
  (gok:GOk cl G P wo K mg base j) (hc0:G.cod=none) (T:ToldFn K st ft fd) (C:ClsFn cl G K st2 fc fd2) (hkk:K=cl.K) (hP:P=cl.P) (hW:wo=cl.wo)
  (m1:mg "_law_told" = some (.ref ft)) (k1:PySem.W.keepIn K (.ref ft)=true) (m2:mg "_law_class" = some (.ref fc)) (k2:PySem.W.keepIn K (.ref fc)=true) (hfe:G.exc "FloorError" = true)
  (hB:zny mg base) (hC:PySem.W.CodeHd base cd Pt) (htb:cl.tabs Pt=some (q ++ "<lambda>")):GOk cl (G.withLam cd q) P wo K mg base (j+2) where
 con:=gok.con
 fn:=fun y fj h=>by
  obtain ⟨f',fd',ps',h1,h2,h3,h4⟩:=gok.fn y fj h;exact ⟨f',fd',ps',h1,h2,h3,h4.mono (by omega)⟩
 blt:=gok.blt
 exc:=gok.exc
 und:=gok.und
 isx:=gok.isx
 fk:=gok.fk
 mt:=fun m c fi h=>by
  obtain ⟨f',fd',ps',h1,h2,h3,h4⟩:=gok.mt m c fi h;exact ⟨f',fd',ps',h1,h2,h3,h4.mono (by omega)⟩
 mks:=fun c dds fi h=>by
  obtain ⟨f',fd',ps',dvs,ds,i,hi,z⟩:=gok.mks c dds fi h;exact ⟨f',fd',ps',dvs,ds,i,by omega,z⟩
 tl:=fun e N fb h=>by
  have h':zpR G e=some (N,fb):=h;unfold zpR at h';split at h'
  ·rename_i params body sc lp;split at h'
   ·rename_i hok;rw [yaa] at hok;obtain ⟨⟨o,f⟩,h1,h2⟩:=yap.mp h';cases h2;have ep:=zmX hok.1;subst ep;have hs:=hok.2;unfold zsD at hs;simp only [yaa,ya5,ybc,yby] at hs;obtain ⟨⟨⟨⟨⟨s1,s2⟩,s3⟩,s4⟩,s5⟩,s6⟩:=hs
    have nc:∀y∈sc.names,y.2≠.cell:=fun y hy z=>by have:=s4 y hy;rw [z] at this;cases this
    have LS:LamSc (zgS sc) sc:=⟨s1,s2,s3,nc,s5⟩;refine zq2 (G:=G) T C gok hkk m1 k1 m2 k2 hfe hB hC htb LS s6 (fun y hy hf=>?_) (fun _=>rfl) (fun _ _ _ _=>rfl) (fun f' c' clos A outer s H E' hr=>?_)
    ·unfold zgS;exact yax.mpr ⟨y,ycw.mpr ⟨hy,by rw [hf];rfl⟩,rfl⟩
    ·have g:Gx cl G j (zg6 (CXE P wo) P wo K mg base (zgS sc) (q ++ "<lambda>") sc f' (.ref c') clos A outer s H E') sc.names (zgS sc) (fun _=>E') :=
      ⟨gok,hr,rfl,fun pins σ H1 s1 e s' I qq=>zup pins σ H1 s1 e s' I qq,rfl,hkk,hP,hW,s6,fun x kd h=>⟨kd,h,.inl rfl⟩,fun x h=>h,(fun c h=>by rw [hc0] at h;cases h),fun x h=>absurd rfl (nc _ (yaA h))⟩
     exact (zlw 40 _ _ _ _ g body o f h1).2.1
   ·cases h'
  ·cases h'
def zoa{P:Program}{wo:PySem.World}{K:PySem.W.Frag}{mg:Z6}{base:Heap}{cl:Cf}{G:Genv}{k:Nat}{x qual:Str}{st:Stmt}{f cd:Addr}{N ps:List Str}{own:Bool}{fs:Fs}{oc kV doc pm ct:Value}{od an:Option Addr}{osl:Array (Option Value)}
  (lk:K.lookup f=some ⟨oc,od,.func (PySem.W.fnOf x qual (za4 st) (zaS st) (zak st) .none kV doc pm an (.ref cd) ct),osl⟩) (hcd:PySem.W.codeIn K (.ref cd) qual=true) (S:FnScope N ps (zak st)) (hG:GOk cl (G.withLam cd (qual ++ ".<locals>.")) P wo K mg base k)
  (hk:K=cl.K) (hP:P=cl.P) (hW:wo=cl.wo) (hd:zg2 (G.withLam cd (qual ++ ".<locals>.")) own N st=some fs):FnOk P wo K mg base (CXE P wo) (k+1) f (PySem.W.fnOf x qual (za4 st) (zaS st) (zak st) .none kV doc pm an (.ref cd) ct) ps (zgh cl ps.length own (zbx N.length own fs)):=by
 refine zsV lk hcd S (fun vs H Q E h=>h.1) fun A outer s H vs Q E hr hsp=>?_
 refine ⟨tS cl (fun _=>E) own fs,?_,zlI hsp⟩
 have g:Gd cl (G.withLam cd (qual ++ ".<locals>.")) k (zg5 (CXE P wo) P wo K mg base N qual (zak st) f (.ref cd) A outer s H E) (zak st).names N (fun _=>E) true :=
  ⟨⟨hG,hr,rfl,fun pins σ H1 s1 e s' I q=>zr4 pins σ H1 s1 e s' I q,rfl,hk,hP,hW,S.nd,fun x kd h=>⟨kd,h,.inl rfl⟩,(fun x h=>h),(fun c h=>by cases h;exact ⟨rfl,rfl⟩),(fun x h=>rfl)⟩,fun _=>rfl,S.kind,rfl,fun _=>PassesOwn.leaving,fun _ C pins σ H1 s1 e h' vs I mk q=>zkA C pins σ H1 s1 e h' vs I mk q,rfl,rfl⟩
 exact zi5 (fun st f hst=>zf6 40 true _ _ g st f hst) hd
structure XA(K:PySem.W.Frag)(x:Str)(e:Addr):Prop where
 n:PySem.W.nsIn K mainGlobals x=some (some (.ref e))
 x:PySem.W.excIn K e bmV "ValueError.__new__" = true
def scB(n:Nat)(N:List Str)(sc:Scope):Bool:=(match sc.kind with | .function=>true | _=>false)&&!sc.isCoroutine&&!sc.isGenerator&&decide N.Nodup&&decide ((N.take n).length=n)&&decide (∀x∈N.take n,sc.names.lookup x=some .local\/sc.names.lookup x=some .cell)&&decide (∀y∈sc.names,y.2≠.free)
def zei{n:Nat}{N:List Str}{sc:Scope}(h:scB n N sc=true):FnScope N (N.take n) sc/\(N.take n).length=n:=by
 unfold scB at h;simp only [yaa,ya5,ybc] at h;obtain ⟨⟨⟨⟨⟨⟨h1,h2⟩,h3⟩,h4⟩,h5⟩,h6⟩,h7⟩:=h;exact ⟨⟨by split at h1;(· assumption);(· cases h1),h2,h3,h4,by rw [h5],h6,h7⟩,h5⟩
section
variable{cl:Cf}{T:Tab}{mg:Z6}{base h:Heap}{k:Nat}{F:Fn3}{f:Fs}{x:Str}{st:Stmt}
def ag(g:GOk cl (Gn T F) cl.P cl.wo cl.K mg base k)(X:cl.K.In h)(G:h.Ns mainGlobals mg)(p:GFn cl.K x st)(n:Nat)(N:List Str)(own:Bool)(r:Rn)(f:Fs)(b:BB x x st (N.take n))(s:scB n N (zak st)=true)(e:r=zbx N.length own f)(d:zg2 (Gn T F) own N st=some f):GOk cl (Gn T (F.fn x ⟨n,own,r⟩)) cl.P cl.wo cl.K mg base (k+1):=by
 obtain ⟨S,l⟩:=zei s;obtain ⟨f',a,p⟩:=p.ex;obtain ⟨fd,U,B,kp,_⟩:=p.un b;have z:=zqf U S g rfl rfl rfl d;rw [l,<-e] at z;exact GOk.add g (yaM X G a) kp B z
def am{c q:Str}(g:GOk cl (Gn T F) cl.P cl.wo cl.K mg base k)(cc:Cls cl.K (cl c))(p:MFn cl.K (cl c) x q st)(n:Nat)(N:List Str)(own:Bool)(r:Rn)(f:Fs)(b:BB x q st (N.take n))(s:scB n N (zak st)=true)(e:r=zbx N.length own f)(d:zg2 (Gn T (F.at c)) own N st=some f):GOk cl (Gn T (F.mt x c ⟨n,own,r⟩)) cl.P cl.wo cl.K mg base (k+1):=by
 obtain ⟨S,l⟩:=zei s;obtain ⟨f',a,p⟩:=p.ex;obtain ⟨fd,U,B,kp,i⟩:=p.un b;have z:=zqf U S (g.at c) rfl rfl rfl d;rw [l,<-e] at z;exact GOk.addM (g.up (ya4 _)) cc ⟨a,i,kp⟩ B z
def ak{c q:Str}(g:GOk cl (Gn T F) cl.P cl.wo cl.K mg base k)(X:cl.K.In h)(G:h.Ns mainGlobals mg)(ny:PySem.W.nsIn cl.K mainGlobals c=some (some (.ref (cl c))))(mk:PySem.W.makesIn cl.K (cl c)=true)(kpc:PySem.W.keepIn cl.K (.ref (cl c))=true)(p:MFn cl.K (cl c) "__init__" q st)(n:Nat)(N:List Str)(r:Rn)(f:Fs)(b:BB "__init__" q st (N.take n))(s:scB n N (zak st)=true)(e:r=zbx N.length false f)(d:zg2 (Gn T (F.at c)) false N st=some f):GOk cl (Gn T (F.cls c [] ⟨n,false,r⟩)) cl.P cl.wo cl.K mg base (k+2):=by
 obtain ⟨S,l⟩:=zei s;obtain ⟨f',a,p⟩:=p.ex;obtain ⟨fd,U,B,kp,i⟩:=p.un b;have z:=zqf U S (g.at c) rfl rfl rfl d;rw [l,<-e] at z;exact GOk.addK (k':=k+1) (dvs:=[]) (g.up (Nat.le_add_right k 2)) (yag _) (yaM X G ny) ⟨mk,a,i,kpc⟩ B B .nil (fun _=>.nil) z
end
end S2
namespace M91
open PySem L2 S2 S2.L91
noncomputable def top(i:Nat):Stmt:=PySem.Challenge.pw_floorfits_k91_whole_album_twins.main.body.getD i (.Pass ⟨0,0,0,0⟩)
noncomputable def T:Tab:=⟨[("MOST_COLOUR",.int 8),("MOST_TILES",.int 16),("MOST_SIDE",.int 6),("MOST_LETTERS",.int 6)],["isinstance","int","bool","tuple","list","str","len","range","all","zip","sorted","set","dict","ValueError"],["FloorError","NoPlace","NoTile","NoFill","Unlike","Nothing","NoText","NoName"],[("Unlike","FloorError"),("NoName","FloorError"),("Nothing","FloorError")],["Unlike","NoName","Nothing"],[("Album","tiles"),("Album","named"),("Album","done"),("Album","undone")],["named"],[]⟩
noncomputable def F0:Fn3:=⟨"",[],[],[]⟩
theorem sT:FnScope ["_law_deed_here","e"] ["_law_deed_here"] (zak (top 37)):=(zei (n:=1) (by kernel_rfl)).1
theorem sC:FnScope ["_law_kept","_law_kinds"] ["_law_kept"] (zak (top 36)):=(zei (n:=1) (by kernel_rfl)).1
theorem gC:∀x∈((("isinstance":Str)::("ValueError":Str)::zdz)),(zak (top 36)).names.lookup x=some .globalImplicit:=by decide +kernel
theorem xC:∀x∈zdz,(Gn T F0).exc x=true:=by decide +kernel
def tF{K:PySem.W.Frag}{f:Addr}{oc kV dc pm cd ct:Value}{od an:Option Addr}{sl:Array (Option Value)}(l:K.lookup f=some ⟨oc,od,.func (PySem.W.fnOf "_law_told" "_law_told" (za4 (top 37)) (zaS (top 37)) (zak (top 37)) .none kV dc pm an cd ct),sl⟩)(c:PySem.W.codeIn K cd "_law_told" = true)(k:PySem.W.keepIn K (.ref f)=true):ToldFn K (top 37) f (PySem.W.fnOf "_law_told" "_law_told" (za4 (top 37)) (zaS (top 37)) (zak (top 37)) .none kV dc pm an cd ct) :=
 ⟨ziU (st:=top 37) l c k,sT,by rfl,by rfl,by rfl,by rfl,⟨_,_,_,_,_,_,_,_,_,_,rfl⟩,fun us hl=>match us,hl with | [_],_=>rfl⟩
def cF{F:Fn3}{cl:Cf}{K:PySem.W.Frag}{f:Addr}{oc kV dc pm cd ct:Value}{od an:Option Addr}{sl:Array (Option Value)}(l:K.lookup f=some ⟨oc,od,.func (PySem.W.fnOf "_law_class" "_law_class" (za4 (top 36)) (zaS (top 36)) (zak (top 36)) .none kV dc pm an cd ct),sl⟩)(c:PySem.W.codeIn K cd "_law_class" = true)(k:PySem.W.keepIn K (.ref f)=true):ClsFn cl (Gn T F) K (top 36) f (PySem.W.fnOf "_law_class" "_law_class" (za4 (top 36)) (zaS (top 36)) (zak (top 36)) .none kV dc pm an cd ct) :=
 ⟨ziU (st:=top 36) l c k,sC,by rfl,by rfl,gC,by rfl,by rfl,xC,fun k Y E c=>c.ok (by rfl) (by rfl),fun us hl=>match us,hl with | [_],_=>rfl⟩
def zok{L M:List (Str×Addr)}:∀{C:Str},C∈L.map (·.1)->(L++M).lookup C=L.lookup C:=by
 induction L with
 | nil=>intro C h;simp at h
 | cons p L ih =>
  intro C h;rw [List.cons_append,yaB,yaB]
  cases e:C == p.1 with
  | true=>rfl
  | false =>
   have:C∈L.map (·.1):=by
    rw [yaz,yav] at h
    rcases h with h | h
    ·rw [h] at e;simp at e
    ·exact h
   exact ih this
def zqF{L M:List (Str×Addr)}(nd:(L.map (·.2)).Nodup){C c:Str}(hC:C∈L.map (·.1))(hc:c∈L.map (·.1)):((L++M).lookup C).getD 0=((L++M).lookup c).getD 0↔C=c:=by
 rw [zok hC,zok hc];exact ztq nd hC hc
def gm{K:PySem.W.Frag}{x:Str}{st:Stmt}{f:Addr}{oc kV dc pm cd ct:Value}{od an:Option Addr}{sl:Array (Option Value)}(a:PySem.W.nsIn K mainGlobals x=some (some (.ref f)))(l:K.lookup f=some ⟨oc,od,.func (PySem.W.fnOf x x (za4 st) (zaS st) (zak st) .none kV dc pm an cd ct),sl⟩)(c:PySem.W.codeIn K cd x=true)(k:PySem.W.keepIn K (.ref f)=true)(i:PySem.W.isFn K (.ref f)=true):GFn K x st:=⟨f,a,oc,od,kV,dc,pm,an,cd,ct,sl,l,c,k,i⟩
def mm{K:PySem.W.Frag}{x q:Str}{st:Stmt}{f:Addr}{oc kV dc pm cd ct:Value}{od an:Option Addr}{sl:Array (Option Value)}{C:Addr}(a:PySem.W.findIn K (.ref C) x=some (some (.ref f)))(l:K.lookup f=some ⟨oc,od,.func (PySem.W.fnOf x q (za4 st) (zaS st) (zak st) .none kV dc pm an cd ct),sl⟩)(c:PySem.W.codeIn K cd q=true)(k:PySem.W.keepIn K (.ref f)=true)(i:PySem.W.isFn K (.ref f)=true):MFn K C x q st:=⟨f,a,oc,od,kV,dc,pm,an,cd,ct,sl,l,c,k,i⟩
def all_mk{l:PySem.W.OpenLaw}{w:PySem.World}{K:PySem.W.Frag}{h:Heap}{mg:Z6}{fa f34 f36 cdA0 Pt0 cdA1 Pt1:Addr}(X:K.In h)(G:h.Ns mainGlobals mg)(hfa:mg "law" = some (.ref fa))
  {od34 an34:Option Addr} {sl34:Array (Option Value)} {oc34 kV34 dc34 pm34 ct34:Value}
  {od36 an36:Option Addr} {sl36:Array (Option Value)} {oc36 kV36 dc36 pm36 ct36:Value}
  {yAlbum:Addr}
  (nyAlbum:PySem.W.nsIn K mainGlobals "Album" = some (some (.ref yAlbum))) (pgAlbum:PySem.W.plainGet K yAlbum Str.empty=true) (hdAlbum:PySem.W.hasDictIn K yAlbum=true) (poAlbum:PySem.W.plainOver K yAlbum=true) (saAlbum:PySem.W.findIn K (.ref yAlbum) "__setattr__" = some (some (.builtin "object.__setattr__"))) (mkAlbum:PySem.W.makesIn K yAlbum=true) (kpAlbum:PySem.W.keepIn K (.ref yAlbum)=true)
  (naAlbumtiles:PySem.W.findIn K (.ref yAlbum) "tiles" = some none)
  (naAlbumnamed:PySem.W.findIn K (.ref yAlbum) "named" = some none)
  (naAlbumdone:PySem.W.findIn K (.ref yAlbum) "done" = some none)
  (naAlbumundone:PySem.W.findIn K (.ref yAlbum) "undone" = some none)
  (a34:PySem.W.nsIn K mainGlobals "_law_did" = some (some (.ref f34)))
  (l34:K.lookup f34=some ⟨oc34,od34,.func (PySem.W.fnOf "_law_did" "_law_did" (za4 (top 40)) (zaS (top 40)) (zak (top 40)) .none kV34 dc34 pm34 an34 (.ref cdA0) ct34),sl34⟩) (c34:PySem.W.codeIn K (.ref cdA0) "_law_did" = true) (k34:PySem.W.keepIn K (.ref f34)=true)
  (a36:PySem.W.nsIn K mainGlobals "law" = some (some (.ref f36)))
  (l36:K.lookup f36=some ⟨oc36,od36,.func (PySem.W.fnOf "law" "law" (za4 (top 42)) (zaS (top 42)) (zak (top 42)) .none kV36 dc36 pm36 an36 (.ref cdA1) ct36),sl36⟩) (c36:PySem.W.codeIn K (.ref cdA1) "law" = true) (k36:PySem.W.keepIn K (.ref f36)=true)
  (zz:∀x∈T.blt,PySem.W.nsIn K mainGlobals x=some none)
  {gt1:Tok} (gl1:PySem.W.nsIn K mainGlobals "MOST_COLOUR" = some (some (.int 8 gt1)))
  {gt2:Tok} (gl2:PySem.W.nsIn K mainGlobals "MOST_TILES" = some (some (.int 16 gt2)))
  {gt3:Tok} (gl3:PySem.W.nsIn K mainGlobals "MOST_SIDE" = some (some (.int 6 gt3)))
  {gt4:Tok} (gl4:PySem.W.nsIn K mainGlobals "MOST_LETTERS" = some (some (.int 6 gt4)))
  {e0 e1 e2 e3 e4 e5 e6 e7:Addr}
  (n0:XA K "FloorError" e0)
  (n1:XA K "NoPlace" e1)
  (n2:XA K "NoTile" e2)
  (n3:XA K "NoFill" e3)
  (n4:XA K "Unlike" e4)
  (n5:XA K "Nothing" e5)
  (n6:XA K "NoText" e6)
  (n7:XA K "NoName" e7)
  {el4:Value} {ed4:Option Addr} {ec4:ClassData} {es4:Array (Option Value)} (lk4:K.lookup e4=some ⟨el4,ed4,.cls ec4,es4⟩) (mr4:ec4.mro=.ref e4::.ref e0::bmV)
  (ga4:PySem.W.findIn K (.ref e4) "__getattribute__" = some (some (.builtin "BaseException.__getattribute__"))) (gt4:PySem.W.findIn K (.ref e4) "__getattr__" = some none) (cc4:PySem.W.findIn K (.ref e4) "__class__" = some (some (.builtin "object.__class__")))
  {el5:Value} {ed5:Option Addr} {ec5:ClassData} {es5:Array (Option Value)} (lk5:K.lookup e5=some ⟨el5,ed5,.cls ec5,es5⟩) (mr5:ec5.mro=.ref e5::.ref e0::bmV)
  (ga5:PySem.W.findIn K (.ref e5) "__getattribute__" = some (some (.builtin "BaseException.__getattribute__"))) (gt5:PySem.W.findIn K (.ref e5) "__getattr__" = some none) (cc5:PySem.W.findIn K (.ref e5) "__class__" = some (some (.builtin "object.__class__")))
  {el7:Value} {ed7:Option Addr} {ec7:ClassData} {es7:Array (Option Value)} (lk7:K.lookup e7=some ⟨el7,ed7,.cls ec7,es7⟩) (mr7:ec7.mro=.ref e7::.ref e0::bmV)
  (ga7:PySem.W.findIn K (.ref e7) "__getattribute__" = some (some (.builtin "BaseException.__getattribute__"))) (gt7:PySem.W.findIn K (.ref e7) "__getattr__" = some none) (cc7:PySem.W.findIn K (.ref e7) "__class__" = some (some (.builtin "object.__class__")))
  (nd:[e0,e1,e2,e3,e4,e5,e6,e7].Nodup)
  (hPP:Pt1≠Pt0)
  (p1:GFn K "is_whole" (top 13)) (p2:GFn K "is_tuple_of" (top 14)) (p3:GFn K "is_colour" (top 15)) (p4:GFn K "is_tile" (top 16)) (p5:GFn K "is_set" (top 17)) (p6:GFn K "has_number" (top 18)) (p7:GFn K "may_lie" (top 19)) (p8:GFn K "is_row" (top 20)) (p9:GFn K "is_floor" (top 21)) (p10:GFn K "size_of" (top 22)) (p11:GFn K "beside" (top 24)) (p12:GFn K "below" (top 25)) (p13:GFn K "is_name" (top 28)) (p14:GFn K "refuse_no_name" (top 29)) (p15:MFn K yAlbum "__init__" "Album.__init__" (inC 0 (top 30))) (p16:MFn K yAlbum "name_floor" "Album.name_floor" (inC 1 (top 30))) (p17:MFn K yAlbum "do" "Album.do" (inC 2 (top 30))) (p18:MFn K yAlbum "put" "Album.put" (inC 3 (top 30))) (p19:MFn K yAlbum "floor_of" "Album.floor_of" (inC 4 (top 30))) (p20:MFn K yAlbum "take" "Album.take" (inC 5 (top 30))) (p21:MFn K yAlbum "join" "Album.join" (inC 6 (top 30))) (p22:MFn K yAlbum "names" "Album.names" (inC 7 (top 30))) (p23:MFn K yAlbum "set_of" "Album.set_of" (inC 8 (top 30))) (p24:MFn K yAlbum "back" "Album.back" (inC 9 (top 30))) (p25:MFn K yAlbum "forth" "Album.forth" (inC 10 (top 30))) (p26:MFn K yAlbum "sizes" "Album.sizes" (inC 11 (top 30))) (p27:MFn K yAlbum "twin" "Album.twin" (inC 12 (top 30))) (p28:GFn K "_law_cell" (top 32)) (p29:GFn K "_law_pick" (top 33)) (p30:GFn K "_law_tiles" (top 34)) (p31:GFn K "_law_floor" (top 35)) (p32:GFn K "_law_deed" (top 38)) (p33:GFn K "_law_behind" (top 39)) (p35:GFn K "_law_all_of" (top 41)) (pT:GFn K "_law_told" (top 37)) (pC:GFn K "_law_class" (top 36))
  : ∃fd:FuncData,(∀(s:Shared) (v:Value),BindsTo s fd ⟨[v],[]⟩ [("_law_script",v)])/\∀base:Heap,K.In base->base.Ns mainGlobals mg->zny mg base->(∀q∈[(cdA0,Pt0),(cdA1,Pt1)],PySem.W.CodeHd base q.1 q.2)->FnOk l.prog w K mg base (CXE l.prog w) 41 fa fd ["_law_script"] (S2.zin K [(cdA0,Pt0),(cdA1,Pt1)]):=by
 have e:=hfa.symm.trans (yaM X G a36);cases e;have CLAlbum:Cls K yAlbum:=⟨pgAlbum,hdAlbum,poAlbum,saAlbum⟩;refine ⟨PySem.W.fnOf "law" "law" (za4 (top 42)) (zaS (top 42)) (zak (top 42)) .none kV36 dc36 pm36 an36 (.ref cdA1) ct36,fun s v=>.of_eq rfl,fun base _ _ hB hCd=>?_⟩
 let cl:Cf:=⟨fun x=>(([("FloorError",e0),("NoPlace",e1),("NoTile",e2),("NoFill",e3),("Unlike",e4),("Nothing",e5),("NoText",e6),("NoName",e7),("Album",yAlbum)]:List (Str×Addr)).lookup x).getD 0,K,l.prog,w,fun a=>if a=Pt0 then some ((("_law_did":Str) ++ ".<locals>.") ++ "<lambda>") else if a=Pt1 then some ((("law":Str) ++ ".<locals>.") ++ "<lambda>") else none⟩
 obtain ⟨fT,aT,_,_,_,_,_,_,_,_,_,lT,cT,kT,_⟩:=pT;obtain ⟨fC,aC,_,_,_,_,_,_,_,_,_,lC,cC,kC,_⟩:=pC;have HX:∀c∈T.exc,PySem.W.excIn K (cl c) bmV "ValueError.__new__" = true:=(zav n0.x (zav n1.x (zav n2.x (zav n3.x (zav n4.x (zav n5.x (zav n6.x (zav n7.x zeF))))))));have AI:∀C∈T.exc,∀c∈T.exc,(cl C=cl c↔C=c):=fun C hC c hc=>zqF (L:=[("FloorError",e0),("NoPlace",e1),("NoTile",e2),("NoFill",e3),("Unlike",e4),("Nothing",e5),("NoText",e6),("NoName",e7)]) (M:=[("Album",yAlbum)]) nd hC hc
 have g0:GOk cl (Gn T F0) cl.P cl.wo cl.K mg base 0:=zxO (cl:=cl) (zav ⟨.int 8,_,yaM X G gl1,⟨_,rfl⟩,fun _=>.int _⟩ (zav ⟨.int 16,_,yaM X G gl2,⟨_,rfl⟩,fun _=>.int _⟩ (zav ⟨.int 6,_,yaM X G gl3,⟨_,rfl⟩,fun _=>.int _⟩ (zav ⟨.int 6,_,yaM X G gl4,⟨_,rfl⟩,fun _=>.int _⟩ zeF)))) (fun x h=>PySem.W.mg_none_of X G (zz x h)) (zav ⟨yaM X G n0.n,n0.x⟩ (zav ⟨yaM X G n1.n,n1.x⟩ (zav ⟨yaM X G n2.n,n2.x⟩ (zav ⟨yaM X G n3.n,n3.x⟩ (zav ⟨yaM X G n4.n,n4.x⟩ (zav ⟨yaM X G n5.n,n5.x⟩ (zav ⟨yaM X G n6.n,n6.x⟩ (zav ⟨yaM X G n7.n,n7.x⟩ zeF)))))))) (zav ⟨⟨_,_,n4.x⟩,_,_,_,_,lk4,zhK mr4⟩ (zav ⟨⟨_,_,n7.x⟩,_,_,_,_,lk7,zhK mr7⟩ (zav ⟨⟨_,_,n5.x⟩,_,_,_,_,lk5,zhK mr5⟩ zeF))) (zav (zk7 (K:=K) (c:="Unlike") (cl:=cl) lk4 mr4 rfl ga4 gt4 cc4 HX (fun C hC=>⟨AI C hC "Unlike" (by decide),AI C hC "FloorError" (by decide)⟩)) (zav (zk7 (K:=K) (c:="NoName") (cl:=cl) lk7 mr7 rfl ga7 gt7 cc7 HX (fun C hC=>⟨AI C hC "NoName" (by decide),AI C hC "FloorError" (by decide)⟩)) (zav (zk7 (K:=K) (c:="Nothing") (cl:=cl) lk5 mr5 rfl ga5 gt5 cc5 HX (fun C hC=>⟨AI C hC "Nothing" (by decide),AI C hC "FloorError" (by decide)⟩)) zeF))) (zav ⟨CLAlbum,naAlbumtiles⟩ (zav ⟨CLAlbum,naAlbumnamed⟩ (zav ⟨CLAlbum,naAlbumdone⟩ (zav ⟨CLAlbum,naAlbumundone⟩ zeF))));have g1:=ag g0 X G p1 1 ["thing"] false zcr zdY (fun _ _ _ _ _ _=>bb1 fun _=>rfl) (by kernel_rfl) rfl (by rfl);have g2:=ag g1 X G p2 3 ["thing","least","most"] false zaM zbV (fun _ _ _ _ _ _=>bb3 fun _ _ _=>rfl) (by kernel_rfl) rfl (by rfl);have g3:=ag g2 X G p3 1 ["thing"] false zcA zdw (fun _ _ _ _ _ _=>bb1 fun _=>rfl) (by kernel_rfl) rfl (by rfl);have g4:=ag g3 X G p4 1 ["thing"] false zcR zeH (fun _ _ _ _ _ _=>bb1 fun _=>rfl) (by kernel_rfl) rfl (by rfl);have g5:=ag g4 X G p5 1 ["thing"] false zcz zf2 (fun _ _ _ _ _ _=>bb1 fun _=>rfl) (by kernel_rfl) rfl (by rfl);have g6:=ag g5 X G p6 2 ["tiles","thing"] false zcS zcZ (fun _ _ _ _ _ _=>bb2 fun _ _=>rfl) (by kernel_rfl) rfl (by rfl);have g7:=ag g6 X G p7 2 ["tiles","thing"] false zcq zdM (fun _ _ _ _ _ _=>bb2 fun _ _=>rfl) (by kernel_rfl) rfl (by rfl);have g8:=ag g7 X G p8 2 ["tiles","thing"] false zdc zee (fun _ _ _ _ _ _=>bb2 fun _ _=>rfl) (by kernel_rfl) rfl (by rfl);have g9:=ag g8 X G p9 2 ["tiles","thing"] false zaZ zcv (fun _ _ _ _ _ _=>bb2 fun _ _=>rfl) (by kernel_rfl) rfl (by rfl);have g10:=ag g9 X G p10 1 ["floor","columns"] false zb0 zeG (fun _ _ _ _ _ _=>bb1 fun _=>rfl) (by kernel_rfl) rfl (by rfl);have g11:=ag g10 X G p11 2 ["one","other"] false zbS zef (fun _ _ _ _ _ _=>bb2 fun _ _=>rfl) (by kernel_rfl) rfl (by rfl);have g12:=ag g11 X G p12 2 ["one","other"] false zcB zf3 (fun _ _ _ _ _ _=>bb2 fun _ _=>rfl) (by kernel_rfl) rfl (by rfl);have g13:=ag g12 X G p13 1 ["thing"] false zdG zgU (fun _ _ _ _ _ _=>bb1 fun _=>rfl) (by kernel_rfl) rfl (by rfl);have g14:=ag g13 X G p14 1 ["thing"] false zaW zbM (fun _ _ _ _ _ _=>bb1 fun _=>rfl) (by kernel_rfl) rfl (by rfl);have g15:=ak (c:="Album") g14 X G nyAlbum mkAlbum kpAlbum p15 2 ["self","tiles"] zaL zbN (fun _ _ _ _ _ _=>bb2 fun _ _=>rfl) (by kernel_rfl) rfl (by rfl);have g16:=am (c:="Album") g15 CLAlbum p16 3 ["self","name","floor"] false zax za2 (fun _ _ _ _ _ _=>bb3 fun _ _ _=>rfl) (by kernel_rfl) rfl (by rfl);have g17:=am (c:="Album") g16 CLAlbum p17 4 ["self","word","name","floor"] false zbX zdZ (fun _ _ _ _ _ _=>bb4 fun _ _ _ _=>rfl) (by kernel_rfl) rfl (by rfl);have g18:=am (c:="Album") g17 CLAlbum p18 3 ["self","name","floor","had"] false zaD zdy (fun _ _ _ _ _ _=>bb3 fun _ _ _=>rfl) (by kernel_rfl) rfl (by rfl);have g19:=am (c:="Album") g18 CLAlbum p19 2 ["self","name"] false zar zbh (fun _ _ _ _ _ _=>bb2 fun _ _=>rfl) (by kernel_rfl) rfl (by rfl);have g20:=am (c:="Album") g19 CLAlbum p20 2 ["self","name","floor"] false zay zce (fun _ _ _ _ _ _=>bb2 fun _ _=>rfl) (by kernel_rfl) rfl (by rfl);have g21:=am (c:="Album") g20 CLAlbum p21 5 ["self","name","one","other","is_east","first","second","whole"] false zam zaI (fun _ _ _ _ _ _=>bb5 fun _ _ _ _ _=>rfl) (by kernel_rfl) rfl (by rfl);have g22:=am (c:="Album") g21 CLAlbum p22 1 ["self"] true zbT zcG (fun _ _ _ _ _ _=>bb1 fun _=>rfl) (by kernel_rfl) rfl (by rfl);have g23:=am (c:="Album") g22 CLAlbum p23 1 ["self"] false zbe zcn (fun _ _ _ _ _ _=>bb1 fun _=>rfl) (by kernel_rfl) rfl (by rfl);have g24:=am (c:="Album") g23 CLAlbum p24 1 ["self","deed"] false zaA zcf (fun _ _ _ _ _ _=>bb1 fun _=>rfl) (by kernel_rfl) rfl (by rfl);have g25:=am (c:="Album") g24 CLAlbum p25 1 ["self","deed"] false za8 zcH (fun _ _ _ _ _ _=>bb1 fun _=>rfl) (by kernel_rfl) rfl (by rfl);have g26:=am (c:="Album") g25 CLAlbum p26 1 ["self"] false za7 zcF (fun _ _ _ _ _ _=>bb1 fun _=>rfl) (by kernel_rfl) rfl (by rfl);have g27:=am (c:="Album") g26 CLAlbum p27 1 ["self","other"] false zbF zc2 (fun _ _ _ _ _ _=>bb1 fun _=>rfl) (by kernel_rfl) rfl (by rfl);have g28:=ag g27 X G p28 2 ["_law_script","_law_k"] false zbB zb5 (fun _ _ _ _ _ _=>bb2 fun _ _=>rfl) (by kernel_rfl) rfl (by rfl);have g29:=ag g28 X G p29 3 ["_law_script","_law_k","_law_many","_law_drawn"] false zaq zdx (fun _ _ _ _ _ _=>bb3 fun _ _ _=>rfl) (by kernel_rfl) rfl (by rfl);have g30:=ag g29 X G p30 3 ["_law_script","_law_at","_law_most","_law_colours","_law_made","_law_k","_law_tile"] false zca zc0 (fun _ _ _ _ _ _=>bb3 fun _ _ _=>rfl) (by kernel_rfl) rfl (by rfl);have g31:=ag g30 X G p31 6 ["_law_script","_law_at","_law_tiles_here","_law_rows","_law_columns","_law_many","_law_made","_law_row","_law_line","_law_column","_law_here"] false zcb zc1 (fun _ _ _ _ _ _=>bb6 fun _ _ _ _ _ _=>rfl) (by kernel_rfl) rfl (by rfl);have g32:=ag g31 X G p32 3 ["_law_script","_law_at","_law_tiles_here","_law_names","_law_name","_law_way","_law_rows","_law_columns","_law_one","_law_other"] false zbk zb4 (fun _ _ _ _ _ _=>bb3 fun _ _ _=>rfl) (by kernel_rfl) rfl (by rfl);have g33:=ag g32 X G p33 2 ["_law_known","_law_deed_here","_law_rest","_law_one","_law_other","_law_is_east","_law_made"] false zad zat (fun _ _ _ _ _ _=>bb2 fun _ _=>rfl) (by kernel_rfl) rfl (by rfl);have gL34:=g33.lamUp (cd:=cdA0) (Pt:=Pt0) (q:=(("_law_did":Str) ++ ".<locals>.")) rfl (tF lT cT kT) (cF (cl:=cl) lC cC kC) rfl rfl rfl (yaM X G aT) kT (yaM X G aC) kC rfl hB (hCd (cdA0,Pt0) (.head _)) (if_pos rfl);have G34:=zoa (cl:=cl) (wo:=w) (P:=l.prog) (N:=["_law_album","_law_deed_here"]) (own:=false) (fs:=zfn) l34 c34 (zei (n:=2) (by kernel_rfl)).1 gL34 rfl rfl rfl (by rfl);have g34:=GOk.add (fi:=⟨2,false,zdd⟩) (g33.up (k':=36) (by decide)) (yaM X G a34) k34 ((ziU (st:=(top 40)) l34 c34 k34).binds (ps:=["_law_album","_law_deed_here"]) (fun _ _ _ _ _ _=>bb2 fun _ _=>rfl)) G34;have g35:=ag g34 X G p35 1 ["_law_album"] true zaN zcE (fun _ _ _ _ _ _=>bb1 fun _=>rfl) (by kernel_rfl) rfl (by rfl);have gL36:=g35.lamUp (cd:=cdA1) (Pt:=Pt1) (q:=(("law":Str) ++ ".<locals>.")) rfl (tF lT cT kT) (cF (cl:=cl) lC cC kC) rfl rfl rfl (yaM X G aT) kT (yaM X G aC) kC rfl hB (hCd (cdA1,Pt1) (.tail _ (.head _))) ((if_neg hPP).trans (if_pos rfl));have G36:=zoa (cl:=cl) (wo:=w) (P:=l.prog) (N:=["_law_script","_law_tiles_here","_law_album","_law_rows","_law_k","_law_deed_here","_law_known","_law_due","_law_many","_law_other","_law_pairs","_law_at","_law_here","_law_count","_law_one"]) (own:=false) (fs:=zm7) l36 c36 (zei (n:=1) (by kernel_rfl)).1 gL36 rfl rfl rfl (by rfl);exact G36.imp (zpP (cl:=cl) (tabs:=[(cdA0,Pt0),(cdA1,Pt1)]) (fun P q h=>by have hh:(if P=Pt0 then some ((("_law_did":Str) ++ ".<locals>.") ++ "<lambda>") else if P=Pt1 then some ((("law":Str) ++ ".<locals>.") ++ "<lambda>") else none)=some q:=h;split at hh;(· rename_i e;rw [e];exact .head _);(· split at hh;(· rename_i e;rw [e];exact .tail _ (.head _));(· cases hh))) zmR)
def walk{l:PySem.W.OpenLaw}{q:Program}{loose:List Str}{XP:(Str->Option Value)->Heap->Prop}{YP:PySem.World->Heap->Prop}{d:DefRec}{K:Params->PySem.W.Frag}{cdA0 Pt0 cdA1 Pt1:Addr}(hn:l.most=some 63)(hdf:d.params.defaults=[])
  (hY:∀(w:PySem.World) (h:Heap),YP w h->(K w.params).In h) (hnt:∀w:PySem.World,PySem.W.noTabs (K w.params)=true)
  (hT:∀(w:PySem.World) (mg mb:Z6) (mean:ExcName->Option Value) (h:Heap),(K w.params).In h->PyProof.Rows.Top q (PySem.W.looseW q loose) mean mg mb h->PySem.W.TabsAt [(cdA0,Pt0),(cdA1,Pt1)] h)
  (F:∀(w:PySem.World) (mg:Z6) (fa:Addr) (h:Heap),(K w.params).In h->h.Ns mainGlobals mg->mg d.name=some (.ref fa) →
   ∃fd:FuncData,(∀(s:Shared) (u:Value),BindsTo s fd ⟨[u],[]⟩ [("_law_script",u)])/\∀base:Heap,(K w.params).In base->base.Ns mainGlobals mg->zny mg base->(∀q∈[(cdA0,Pt0),(cdA1,Pt1)],PySem.W.CodeHd base q.1 q.2)->FnOk l.prog w (K w.params) mg base (CXE l.prog w) 41 fa fd ["_law_script"] (S2.zin (K w.params) [(cdA0,Pt0),(cdA1,Pt1)])) :
  PySem.W.WalkO q loose XP YP l.row.toRowW d [] (fun f vs=>PySem.call f vs) :=
 L2.zlW (n:=63) (k:=41) (x:="_law_script") (tabs:=[(cdA0,Pt0),(cdA1,Pt1)]) (CX:=fun w=>CXE l.prog w) (sp:=fun w=>S2.zin (K w.params) [(cdA0,Pt0),(cdA1,Pt1)]) hn (by decide) hdf ⟨rfl,by decide,by decide⟩ hY hnt hT F (fun _ _ a ns hl hO hTb hne hS=>⟨a,ns,rfl,hl,hO,hTb,hne,hS,fun _=>rfl⟩) (by rintro _ _ _ _ _ ⟨_,_,_,_,_,_,_,_,_,_,_,_,_,_,z⟩;exact z)
end M91
namespace PySem.W.Fast
noncomputable def tw13074952629070954453:=0
noncomputable def tw10539137683323152794:=0
noncomputable def tw7215113544329956803:=0
noncomputable def tw8171998966113385023:=0
noncomputable def tw14682136125069989797:=0
noncomputable def tw4639341259684118654:=0
noncomputable def tw13406451659893910147:=0
noncomputable def tw4031181517899110882:=0
noncomputable def tw10776389155476404976:=0
noncomputable def tw8534107146470530148:=0
noncomputable def tw14023173523762888106:=0
noncomputable def tw12851823235148316392:=0
noncomputable def tw7762835585399390132:=0
noncomputable def tw1373494650122513771:=0
noncomputable def tw7177651053714257252:=0
noncomputable def tw16915560338779496888:=0
noncomputable def tw10893193332393896212:=0
noncomputable def tw14553293488427123028:=0
noncomputable def tw15521651133836259382:=0
noncomputable def tw17558742401467931942:=0
noncomputable def tw6803179658721129955:=0
noncomputable def tw15121440910731841187:=0
noncomputable def tw2786467418914837385:=0
noncomputable def tw992188332717479818:=0
noncomputable def tw9833279660713875926:=0
noncomputable def tw17901159672398679951:=0
noncomputable def tw12963793753480704042:=0
noncomputable def tw14049670780910013554:=0
noncomputable def tw397720127345606570:=0
noncomputable def tw18043593735029331383:=0
noncomputable def tw8550687676464523978:=0
noncomputable def tw10852559023819067653:=0
noncomputable def tw29840275389078274:=0
noncomputable def tw2271693338959599567:=0
noncomputable def tw16035024632327474008:=0
noncomputable def tw7547158248291416305:=0
noncomputable def tw3849238915382330426:=0
noncomputable def tw2875999499329416169:=0
noncomputable def tw9306335207154783568:=0
noncomputable def tw4793157682111499827:=0
noncomputable def tw1922676198710881056:=0
noncomputable def tw3349780628567666878:=0
noncomputable def tw10547680255572517526:=0
noncomputable def tw13879038294552955919:=0
noncomputable def tw8476708093209832917:=0
noncomputable def tw2154190293619012928:=0
noncomputable def tw1557214539488068578:=0
noncomputable def tw1982188718687482813:=0
noncomputable def tw1889757673927156675:=0
noncomputable def tw8976350702387709053:=0
noncomputable def tw1518637329731382171:=0
noncomputable def tw1070196940298370569:=0
noncomputable def tw11180664840245665295:=0
noncomputable def tw18124595298698315188:=0
noncomputable def tw13016307755413116344:=0
noncomputable def tw5736786492642479533:=0
noncomputable def tw18229554776254320395:=0
noncomputable def tw11672536690050017768:=0
noncomputable def tw15550216717389289330:=0
noncomputable def tw7084781650963532558:=0
noncomputable def tw12088889342996865199:=0
noncomputable def tw17768648042218937567:=0
noncomputable def tw13969855305587796158:=0
noncomputable def tw7148011208750367133:=0
noncomputable def tw12167151192594092423:=0
noncomputable def tw14411384154215884863:=0
noncomputable def tw549894190674312414:=0
noncomputable def tw13632662093162044361:=0
noncomputable def tw4315839407554041870:=0
noncomputable def tw17193854632024090205:=0
noncomputable def tw17350186697010258687:=0
noncomputable def tw14584237653118063811:=0
noncomputable def tw9807567087422620416:=0
noncomputable def tw1897699894254217392:=0
noncomputable def tw7145113870418175575:=0
noncomputable def tw6283040346399980973:=0
noncomputable def tw6260112832489541279:=0
noncomputable def tw3001473551308530124:=0
noncomputable def tw15213401298265818841:=0
noncomputable def tw1099505637625824329:=0
noncomputable def tw9765022049606291008:=0
noncomputable def tw2339634771431092259:=0
noncomputable def tw1955121047147185358:=0
noncomputable def tw11298094702308905443:=0
noncomputable def tw10066055356315442682:=0
noncomputable def tw16558831625442718921:=0
noncomputable def tw7950887838539963086:=0
noncomputable def tw11962420036163955976:=0
noncomputable def tw5414200051803262340:=0
noncomputable def tw15005305884324323854:=0
noncomputable def tw10866225360370395042:=0
noncomputable def tw8420833185137794367:=0
noncomputable def tw4813543791789406889:=0
noncomputable def tw5908498890199290288:=0
noncomputable def tw2705458535903505415:=0
noncomputable def tw398939383247521014:=0
noncomputable def tw14978821532282463518:=0
noncomputable def tw10460257027959898340:=0
noncomputable def tw3507961676195891238:=0
noncomputable def tw13859563639086334904:=0
noncomputable def tw7498545781340598813:=0
noncomputable def tw17220141837522823144:=0
noncomputable def tw9487468994921006991:=0
noncomputable def tw13567645831300749826:=0
noncomputable def tw9775954959624533694:=0
noncomputable def tw12800999224202910241:=0
noncomputable def tw3496662602095988292:=0
noncomputable def tw1764741678168062772:=0
noncomputable def tw16189858245564216094:=0
noncomputable def tw16085706754538060841:=0
noncomputable def tw12228705651134376286:=0
noncomputable def tw4619465564251136568:=0
noncomputable def tw8666061738288262463:=0
noncomputable def tw17383225370885790505:=0
noncomputable def tw9684272297018926664:=0
noncomputable def tw8245572899863841960:=0
noncomputable def tw14504737810325722425:=0
noncomputable def tw9008564148021385004:=0
noncomputable def tw999500564896340677:=0
noncomputable def tw15095023285822817091:=0
noncomputable def tw16626776028115462701:=0
noncomputable def tw9544647983377634737:=0
noncomputable def tw2338063859171339050:=0
noncomputable def tw9047042020474155759:=0
noncomputable def tw13840344206365326702:=0
noncomputable def tw15563397923553500578:=0
noncomputable def tw12225167160548074765:=0
noncomputable def tw3553262052656940483:=0
noncomputable def tw11656115811056817559:=0
noncomputable def tw16312304065735110766:=0
noncomputable def tw9041981370192727940:=0
noncomputable def tw5114887949132620263:=0
noncomputable def tw1207290438840158205:=0
noncomputable def tw10271488664670212696:=0
noncomputable def tw9877945945893810598:=0
noncomputable def tw9436249380144655964:=0
noncomputable def tw4176389837124442415:=0
noncomputable def tw15687728730981585647:=0
noncomputable def tw1100723300580826536:=0
noncomputable def tw9812523860667867114:=0
noncomputable def tw9057659834254653950:=0
noncomputable def tw11110927189860773378:=0
noncomputable def tw13521148378724380583:=0
noncomputable def tw3999004436080951424:=0
noncomputable def tw17022691774256966486:=0
noncomputable def tw1641120313434377609:=0
noncomputable def tw14760572985747677866:=0
noncomputable def tw14098761149625379657:=0
noncomputable def tw13028738456263208982:=0
noncomputable def tw5346751612596089807:=0
noncomputable def tw2506720550602136551:=0
noncomputable def tw7363952216054598069:=0
noncomputable def tw9146095422105026121:=0
noncomputable def tw8544917995522261412:=0
noncomputable def tw8398119608189179819:=0
noncomputable def tw6315588576552882459:=0
noncomputable def tw16597642491232632015:=0
noncomputable def tw10184725641867125555:=0
noncomputable def tw5451793547752060479:=0
noncomputable def tw2583905858370390358:=0
noncomputable def tw17656195097224907407:=0
noncomputable def tw15236792459741891039:=0
noncomputable def tw16223888597124943562:=0
noncomputable def tw10490453499243215359:=0
noncomputable def tw3883058533219344025:=0
noncomputable def tw9504148142197634110:=0
noncomputable def tw4778538897334071352:=0
noncomputable def tw5014865623250520707:=0
noncomputable def tw3471338320496846757:=0
noncomputable def tw11965874947620420498:=0
noncomputable def tw850968501334428825:=0
noncomputable def tw4255556483706356606:=0
noncomputable def tw1797671443936002392:=0
noncomputable def tw13838071532312890920:=0
noncomputable def tw147701617809384358:=0
noncomputable def tw12733334880873334942:=0
noncomputable def tw9050877571024565370:=0
noncomputable def tw14519919024580995197:=0
noncomputable def tw8572402851259796125:=0
noncomputable def tw8172989565183051214:=0
noncomputable def tw12207376685690579516:=0
noncomputable def tw5790919927834788145:=0
noncomputable def tw14773606526408791670:=0
noncomputable def tw2619644966676020439:=0
noncomputable def tw5480050813025842709:=0
noncomputable def tw1520858396648899186:=0
noncomputable def tw7656350180473044178:=0
noncomputable def tw4849463266221504937:=0
noncomputable def tw3826566498878640324:=0
noncomputable def tw3561848715611405259:=0
noncomputable def tw3112788810935550066:=0
noncomputable def tw9508776705124106033:=0
noncomputable def tw16571609806989073707:=0
noncomputable def tw8523429675346717327:=0
noncomputable def tw1921665188878488740:=0
noncomputable def tw16472004073822752687:=0
noncomputable def tw13942087477032608421:=0
noncomputable def tw4758103692467835509:=0
noncomputable def tw1265144358751315044:=0
noncomputable def tw9377567570596567738:=0
noncomputable def tw9266883788634861558:=0
noncomputable def tw10624466897294490540:=0
noncomputable def tw13304872406802556608:=0
noncomputable def tw6108853719196373407:=0
noncomputable def tw1188656959407335004:=0
noncomputable def tw8289840683673472296:=0
noncomputable def tw17461576404333027905:=0
noncomputable def tw1532497997265024813:=0
noncomputable def tw11678330690088622606:=0
noncomputable def tw9416929255617963641:=0
noncomputable def tw6152388194851366649:=0
noncomputable def tw10093133595086037721:=0
noncomputable def tw11542976233866744879:=0
noncomputable def tw12604731881532495434:=0
noncomputable def tw12863529754074476228:=0
noncomputable def tw13153766783372162625:=0
noncomputable def tw11536637576038827441:=0
noncomputable def tw1367733977452512080:=0
noncomputable def tw529809580804443971:=0
noncomputable def tw11083334948094718809:=0
noncomputable def tw5768627409903361466:=0
noncomputable def tw17947394961369154262:=0
noncomputable def tw13127857222291821379:=0
noncomputable def tw18054174504745595453:=0
noncomputable def tw10263967890144228925:=0
noncomputable def tw12178295861269301066:=0
noncomputable def tw8902662153276946898:=0
noncomputable def tw4952973854833615565:=0
noncomputable def tw17466547671358107276:=0
noncomputable def tw16796646682879545447:=0
noncomputable def tw5400609486186393273:=0
noncomputable def tw2271991554970623862:=0
noncomputable def tw778582486808539281:=0
noncomputable def tw2395098243769204832:=0
noncomputable def tw18017131065888777308:=0
noncomputable def tw2120118497964057233:=0
noncomputable def tw17238809705828024003:=0
noncomputable def tw14451779362458052726:=0
noncomputable def tw13633944123608893167:=0
noncomputable def tw10178196932741407045:=0
noncomputable def tw11484900768297449328:=0
noncomputable def tw9820374157398534194:=0
noncomputable def tw18316844629640192681:=0
noncomputable def tw11819216329646052295:=0
noncomputable def tw4324856380013996394:=0
noncomputable def tw8700378626318844222:=0
noncomputable def tw15345646680999521287:=0
noncomputable def tw5262972175445450177:=0
noncomputable def tw4832301994227858145:=0
noncomputable def tw18023778566877829787:=0
noncomputable def tw15791669473644985927:=0
noncomputable def tw14045704021964653507:=0
noncomputable def tw16005582703439354270:=0
noncomputable def tw9284141185855189405:=0
noncomputable def tw2139924242427732143:=0
noncomputable def tw17158989353261751302:=0
noncomputable def tw14887347068855534182:=0
noncomputable def tw7263076459097498797:=0
noncomputable def tw15693684560391543546:=0
noncomputable def tw10379569972738546764:=0
noncomputable def tw8141660706895172529:=0
noncomputable def tw6944475794008171864:=0
noncomputable def tw3345972813117967686:=0
noncomputable def tw2726567210897066626:=0
noncomputable def tw17440273623178139975:=0
noncomputable def tw14635846354264085612:=0
noncomputable def tw12872065698973583215:=0
noncomputable def tw5587548254073234740:=0
noncomputable def tw7127475763208420698:=0
noncomputable def tw1983340242722832819:=0
noncomputable def tw8957205618224632209:=0
noncomputable def tw12727262716762051576:=0
noncomputable def tw3672791785916652704:=0
noncomputable def tw2274660461200886126:=0
noncomputable def tw17724608826311844904:=0
noncomputable def tw6820122712023024067:=0
noncomputable def tw4058728144938726874:=0
noncomputable def tw2725575403333094396:=0
noncomputable def tw15532519580107681843:=0
noncomputable def tw12123832311460933530:=0
noncomputable def tw810575138077737616:=0
noncomputable def tw7799146161342725015:=0
noncomputable def tw1780350564343879641:=0
noncomputable def tw15961897712366863014:=0
noncomputable def tw11528318823337199644:=0
noncomputable def tw8061344124946021270:=0
noncomputable def tw6521836707188835418:=0
noncomputable def tw2182462898695720474:=0
noncomputable def tw11576948906657074313:=0
noncomputable def tw10255930645983738167:=0
noncomputable def tw4567772382071846348:=0
noncomputable def tw9038229025766869740:=0
noncomputable def tw778114389638241976:=0
noncomputable def tw6443199269777552878:=0
noncomputable def tw551836794452436366:=0
noncomputable def tw17139377490418093919:=0
noncomputable def tw1687821119024487060:=0
noncomputable def tw15702272537482869764:=0
noncomputable def tw14082302970490820309:=0
noncomputable def tw12680224105675180633:=0
noncomputable def tw1022716260409890804:=0
noncomputable def tw7267980463949863131:=0
noncomputable def tw7224670114454103033:=0
noncomputable def tw5289078903130590478:=0
noncomputable def tw3746311691765982688:=0
noncomputable def tw3231222437715679514:=0
noncomputable def tw2466588968453887118:=0
noncomputable def tw13362293319203726248:=0
noncomputable def tw13148951534905787799:=0
noncomputable def tw10905823038781612047:=0
noncomputable def tw10000170678567402914:=0
noncomputable def tw8373572676339692866:=0
noncomputable def tw6496284847524842169:=0
noncomputable def tw17017690147927758017:=0
noncomputable def tw1623087344898216747:=0
noncomputable def tw13447521523316145422:=0
noncomputable def tw13253983047541671367:=0
noncomputable def tw10537281869393462807:=0
noncomputable def tw8606667141025492903:=0
noncomputable def tw6889709623771644900:=0
noncomputable def tw6882223946451670456:=0
noncomputable def tw5439386643915442866:=0
noncomputable def tw4856651740540568980:=0
noncomputable def tw4320601090055657281:=0
noncomputable def tw13838177742773387302:=0
noncomputable def tw12042438164700042993:=0
noncomputable def tw11026589390669860356:=0
noncomputable def tw9915785868383293734:=0
noncomputable def tw9847316538475683136:=0
noncomputable def tw959862896486167443:=0
noncomputable def tw9544104040798160682:=0
noncomputable def tw9537500830827108138:=0
noncomputable def tw953614411090815052:=0
noncomputable def tw9528449891404445013:=0
noncomputable def tw9341394842483933012:=0
noncomputable def tw9240587933660362718:=0
noncomputable def tw9222921856974552073:=0
noncomputable def tw9168453136913754731:=0
noncomputable def tw9082189572002938938:=0
noncomputable def tw9020042991299259302:=0
noncomputable def tw8711228562382137313:=0
noncomputable def tw8518268451819791902:=0
noncomputable def tw8056128150780597282:=0
noncomputable def tw7851243880705575341:=0
noncomputable def tw7846550660434707642:=0
noncomputable def tw7795570840799077936:=0
noncomputable def tw7737486617958491883:=0
noncomputable def tw7451524092681154965:=0
noncomputable def tw7377355089318220544:=0
noncomputable def tw7290095253732542752:=0
noncomputable def tw680606151769658919:=0
noncomputable def tw6595226368125441840:=0
noncomputable def tw6594689042272586162:=0
noncomputable def tw6364772960001665274:=0
noncomputable def tw6280155514368456480:=0
noncomputable def tw5673246851852627892:=0
noncomputable def tw5652713349565961973:=0
noncomputable def tw503904571778182227:=0
noncomputable def tw4957432688722430898:=0
noncomputable def tw4809808614022122611:=0
noncomputable def tw4775842179055000094:=0
noncomputable def tw4708656529835572215:=0
noncomputable def tw4510964254981817907:=0
noncomputable def tw4382311114984334561:=0
noncomputable def tw4362013104379148739:=0
noncomputable def tw405230695994079258:=0
noncomputable def tw3953036863224826074:=0
noncomputable def tw3882864468645642724:=0
noncomputable def tw3816305671192443500:=0
noncomputable def tw366381396516135912:=0
noncomputable def tw3582209674997591229:=0
noncomputable def tw3514792307536031164:=0
noncomputable def tw3195545911338297503:=0
noncomputable def tw294305592054293109:=0
noncomputable def tw2416013964938390444:=0
noncomputable def tw2339546566786188451:=0
noncomputable def tw2166591250759721992:=0
noncomputable def tw2109189124507354845:=0
noncomputable def tw2062271116770509065:=0
noncomputable def tw1888459281923474076:=0
noncomputable def tw18425319407479201670:=0
noncomputable def tw18250288712349489722:=0
noncomputable def tw18106829705407314826:=0
noncomputable def tw17892082810085733280:=0
noncomputable def tw17844621649828453943:=0
noncomputable def tw17770471519963605967:=0
noncomputable def tw17720210617447390869:=0
noncomputable def tw17631206699531834097:=0
noncomputable def tw17422970046887143292:=0
noncomputable def tw17267057647478975831:=0
noncomputable def tw16852970349261450044:=0
noncomputable def tw16516807836146210821:=0
noncomputable def tw16461347435146811659:=0
noncomputable def tw16378557781807990755:=0
noncomputable def tw16225561079124900132:=0
noncomputable def tw16219230228117367073:=0
noncomputable def tw15597618856720522725:=0
noncomputable def tw15335649974832775508:=0
noncomputable def tw15227457494446585542:=0
noncomputable def tw15155220088553859624:=0
noncomputable def tw15071163432055785250:=0
noncomputable def tw14632572800002725711:=0
noncomputable def tw14291408571500060251:=0
noncomputable def tw14153388572375315631:=0
noncomputable def tw13747019170409178761:=0
noncomputable def tw13618883492773163782:=0
noncomputable def tw13604724723103213645:=0
noncomputable def tw13496030985707193732:=0
noncomputable def tw13425961505767945933:=0
noncomputable def tw13407285715980700195:=0
noncomputable def tw13367293202857298139:=0
noncomputable def tw13273179248610912943:=0
noncomputable def tw13171002132858680090:=0
noncomputable def tw1314551064002187171:=0
noncomputable def tw123409189211277703:=0
noncomputable def tw12255549126020791899:=0
noncomputable def tw12099089274788213348:=0
noncomputable def tw12011337099217712703:=0
noncomputable def tw1198897271555572355:=0
noncomputable def tw11978966761541158:=0
noncomputable def tw11907905150330924486:=0
noncomputable def tw11905702254921114112:=0
noncomputable def tw11792396917163516740:=0
noncomputable def tw11766532279525733127:=0
noncomputable def tw11675523147212200983:=0
noncomputable def tw11094464517069871740:=0
noncomputable def tw10981554493808130761:=0
noncomputable def tw10677538186930103478:=0
noncomputable def tw10655986961225393208:=0
noncomputable def tw10603923692684485910:=0
noncomputable def tw105425020991814673:=0
noncomputable def tw10438798485409674313:=0
noncomputable def tw1024183128477588658:=0
noncomputable def tw1018839980820068951:=0
noncomputable def tw10138868619262826655:=0
end PySem.W.Fast
open PySem PySem.W PyProof.Rows
set_option maxRecDepth 100000 in
set_option maxHeartbeats 0 in
theorem PySem.Challenge.cw_floorfits_k91_whole_album_twins_holds : PySem.Challenge.rw_floorfits_k91_whole_album_twins.Holds := by
 w_on;o_law;k_head;(case hw=>w_witness2)
 k_fill
 refine M91.walk (l:=PySem.Challenge.rw_floorfits_k91_whole_album_twins) (cdA0:=360) (Pt0:=356) (cdA1:=372) (Pt1:=368) rfl rfl (fun w h Y=>PySem.W.km_in_of Y) (fun w=>by kernel_rfl) (fun w mg mb mean h X T=>List.forall_mem_cons.mpr ⟨PySem.W.tab_of (x:=PySem.Str.ofString "_law_did") (c:=360) (P:=356) T X rfl (by kernel_rfl),List.forall_mem_cons.mpr ⟨PySem.W.tab_of (x:=PySem.Str.ofString "law") (c:=372) (P:=368) T X rfl (by kernel_rfl),fun _ h=>nomatch h⟩⟩) ?F
 case F =>
  intro w mg fa h KX G hmg;refine' M91.all_mk KX G hmg ?nyAlbum ?pgAlbum ?hdAlbum ?poAlbum ?saAlbum ?mkAlbum ?kpAlbum ?naAlbumtiles ?naAlbumnamed ?naAlbumdone ?naAlbumundone ?a34 ?l34 ?c34 ?k34 ?a36 ?l36 ?c36 ?k36 ?zz ?gl1 ?gl2 ?gl3 ?gl4 ?n0 ?n1 ?n2 ?n3 ?n4 ?n5 ?n6 ?n7 ?lk4 ?mr4 ?ga4 ?gt4 ?cc4 ?lk5 ?mr5 ?ga5 ?gt5 ?cc5 ?lk7 ?mr7 ?ga7 ?gt7 ?cc7 ?nd ?hPP ?_ ?_ ?_ ?_ ?_ ?_ ?_ ?_ ?_ ?_ ?_ ?_ ?_ ?_ ?_ ?_ ?_ ?_ ?_ ?_ ?_ ?_ ?_ ?_ ?_ ?_ ?_ ?_ ?_ ?_ ?_ ?_ ?_ ?_ ?_ ?_
  case nyAlbum | pgAlbum | hdAlbum | poAlbum | saAlbum | mkAlbum | kpAlbum | naAlbumtiles | naAlbumnamed | naAlbumdone | naAlbumundone | a34 | l34 | c34 | k34 | a36 | l36 | c36 | k36 =>
   k_is
  case zz =>
   repeat refine S2.zav (by k_is) ?_
   exact S2.zeF
  case gl1 | gl2 | gl3 | gl4 =>
   k_is
  case n0 | n1 | n2 | n3 | n4 | n5 | n6 | n7 =>
   constructor;(k_is);(k_exc)
  case lk4 =>
   k_is
  case mr4 =>
   with_unfolding_all rfl
  case ga4 | gt4 | cc4 | lk5 =>
   k_is
  case mr5 =>
   with_unfolding_all rfl
  case ga5 | gt5 | cc5 | lk7 =>
   k_is
  case mr7 =>
   with_unfolding_all rfl
  case ga7 | gt7 | cc7 =>
   k_is
  case nd | hPP =>
   decide
  all_goals ((first | refine' M91.gm ?a ?l ?c ?k ?i | refine' M91.mm ?a ?l ?c ?k ?i);(case a=>k_is);(case l=>k_is);(case c=>k_is);(case k=>k_is);(case i=>k_is))
#print axioms PySem.Challenge.cw_floorfits_k91_whole_album_twins_holds
end
