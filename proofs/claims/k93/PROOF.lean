import PyProof.Rows.All
import Wide.All
import OpenK.AllK
import Wide.FinOn
import Lean
import PyProof.EqAt
import PyProof.EqKinds
import PyProof.TupleCall
import PyProof.StrWalks
import PyProof.FString5
import PyProof.Draws
import PyProof.EnumMake
import PyProof.TupleKey
import PySem.SetTable
import OpenK.KRaise
import OpenK.KOwn
import PyProof.Rows.TopTwo
import PyProof.RulesAs
import PyProof.RulesDel
import PyProof.ExcArgsOwn
import PyProof.ExcAttrAll.ValueError
import PyProof.Rows.CountFlat
import PyProof.SumWalk
import PyProof.Rows.SeqCalls
import KE.KEqDict
import PyProof.DictWalks
import PyProof.ZipIter
import KE.KRevIter
import PyProof.CollectIter
import PyProof.TupleOfGen
import PyProof.ListRange
import PyProof.WalkInts
import PyProof.AttrMissHeap
import KE.KDictOf
import KE.KDictSum
import PyProof.Rows.SortStr
import PyProof.Rows.StrNews
import PyProof.MeetsStr
import PyProof.StrBlockL
import PyProof.Rows.StrNews2
import PyProof.StrLawsTight
import PyProof.StrLawsChain
import PyProof.StrLawsNeg
import PyProof.TableCode
import PySem.Challenge.RW_floorfits_k93_whole_album_texts
set_option compiler.extract_closed false
set_option bootstrap.genMatcherCode false
set_option genSizeOf false
theorem yAQ(h:True:=by rfl):True:=h
namespace yAQ
end yAQ
open yAQ renaming _auto_1→yAW
theorem yAE(h:True:=by decide):True:=h
namespace yAE
end yAE
open yAE renaming _auto_1→yAR
theorem yAT(h:True:=by intro _;rfl):True:=h
namespace yAT
end yAT
open yAT renaming _auto_1→yAU
theorem yAI(h:True:=by with_unfolding_all rfl):True:=h
namespace yAI
end yAI
open yAI renaming _auto_1→yAO
def yaj:=@of_decide_eq_true
def yaz:=@decide_eq_true
def yaJ:=@decide_eq_false
def yaT:=@decide_eq_true_eq
def ya4:=@beq_eq_false_iff_ne
def ybi:=@beq_self_eq_true
def yby:=@beq_iff_eq
def ycl:=@decide_eq_false_iff_not
def ycO:=@ne_true_of_eq_false
def ycT:=@if_true
def yc3:=@if_false
open Bool renaming and_eq_true→yaa,not_eq_true'→yaG,false_ne_true→yba,false_eq_true→ybD,or_eq_true→ych
open List renaming length_map→yab,getElem?_eq_getElem→yad,length_cons→yae,mem_map→yag,length_append→yah,mem_cons_of_mem→yak,mem_cons_self→yam,getElem?_eq_some_iff→yan,size_toArray→yaq,mem_cons→yat,getElem?_map→yau,map_map→yav,map_cons→yaw,getElem?_append_right→yax,lookup_cons→yaB,getElem?_set_self→yaC,getElem?_append_left→yaE,mem_append→yaH,mem_singleton→yaK,mem_append_right→yaL,length_set→yaN,getD_eq_getElem?_getD→yaO,append_nil→yaP,getElem?_set_ne→yaQ,length_replicate→yaS,mem_of_getElem?→yaY,eq_nil_of_length_eq_zero→ya0,map_congr_left→ya1,all_cons→ya3,nodup_cons→ya7,of_mem_zip→ya8,map_eq_nil_iff→ybe,mem_filterMap→ybj,getElem?_drop→ybn,append_assoc→ybt,getElem?_replicate→ybv,all_eq_true→ybx,pairwise_cons→ybE,forIn_cons→ybG,find?_cons→ybH,map_append→ybK,length_range→ybO,mem_range→ybT,filter_cons→ybV,take_length→ybX,not_mem_nil→ybY,filterMap_cons→ybZ,mem_map_of_mem→yb1,length_nil→ycb,foldl_cons→yce,contains_cons→ycg,getElem?_cons_succ→ycj,take_sublist→ycr,nodup_append→ycs,flatten_cons→yct,length_singleton→ycw,getElem?_toArray→ycB,getElem?_eq_none→ycC,mem_iff_getElem?→ycD,getElem_mem→ycE,mem_append_left→ycF,mem_filter→ycI,map_id→ycP,ext_getElem?→ycZ,any_cons→yc2
open PySem renaming wpAny_bind→yac,wpAny_pure→yap,mem_of_lookup→yaA,wpAny_mono→yaV,wpAny_truthy_bool→yaX,wpAny_Call_Name_kw→ya2,wpAny_holding→ybb,wpAny_loadPart_at→ybd,tupleKind_room_in1→ybm,wpAny_seqItems→ybo,codeAny_mono→ybu,wpAny_callSpecial?_slot→ybw,codeAny_builtin→ybI,typeIs_str→ybM,call_meets→ybN,wpAny_setState_of→ybP,wpAny_newFunctionEnv_cells→ybQ,wpAny_call_entry→ybW,wpAny_field→yb0,wpAny_pyIter_tuple→yb8,wpAny_passesOwn→yb9,wpAny_setField_rec→yci,wpAny_newObj_type→ycp,codeAny_call_function→ycv,call_meetsIn→ycx,codeAny_call_builtin→ycG,wpAny_execs_nil→ycJ,sizeLine_eq→ycK,wpAny_pyIter_list→ycU,wpAny_Call_method→ycX,wpAny_call→ycY,wpAny_standAt→yc1
open PySem.Heap renaming get?_push_of_some→yaf,lt_size→yao,get?_push_size→yar,size_push→yaZ,get?_update_self→ycz
open Nat renaming lt_of_lt_of_le→yai,le_refl→yal,le_trans→yas,ne_of_lt→yay,zero_le→yaM,lt_irrefl→yaR,ne_of_gt→yaU,le_succ→ya6,lt_succ_of_lt→ybs,lt_succ_self→ybU,sub_self→yb5,lt_of_succ_lt_succ→yco,le_of_lt→ycu,mul_le_mul_right→ycH,le_of_succ_le→ycV,lt_trichotomy→yc0
open Option renaming map_eq_some_iff→yaD,some_ne_none→yaF,isSome_some→ycS,isSome_map→ycW
open PySem.W renaming mg_of→yaI,kia_one→yaW,cellsFrom_some→ybz,callWith_K→ybC,plainGet_of→ycL,codeRec_of→ycR
open Array renaming length_toList→ya5,getElem?_eq_some_iff→ybh,getElem?_toList→ybl,getElem?_eq_getElem→ybp,mem_toList_iff→ybq
open PySem.F renaming slot_dict_get→ya9,plainAttrs_list→ybc,slot_tuple_iterator_next→ybg,entry_dict_get→ybA,slot_str_split→ybB,called_set→ybJ,excBase_ValueError→ybR,args_tuple_add_2→yb2,slot_list_append→yb3,type_list_append→yb4,slot_list_getattribute→yb6,args_str_split_2→yb7,entry_tuple_add→yca,plainAttrs_dict→ycc,entry_str_split→yck,slot_tuple_add→ycn,slot_dict_pop→ycy,typeOf_object_class→ycA,slot_zip_next→ycN
open PySem.Calls renaming callWith_builtin→ybf,spliced_cons→ybk,evalArgs_plain→ybr,spliced_nil→ycq
open PyProof.Rows renaming callWith_type1→ybF,assignInOrder_cons→ycQ
open Int renaming toNat_natCast→ybL,emod_lt_of_pos→ycd,eq_ofNat_of_zero_le→ycm,emod_nonneg→ycM
open PySem.Around renaming under_plainId→ybS
open PyProof.Rows.F renaming plain_set_update_loop→ycf
noncomputable section
set_option Elab.async false
set_option linter.all false
set_option maxRecDepth 100000
set_option maxHeartbeats 4000000
abbrev Z1:=Nat->Nat->Option Int
abbrev Z2:=List (List Int)
abbrev Z3:=List (PySem.Addr×PySem.Obj)
abbrev Z4:=List (Option Int)
abbrev Z5:=PySem.Value->PySem.Shared->Prop
abbrev Z6:=PySem.Str->Option PySem.Value
def S2.bdI{c k:Nat}(h:c<=k)(hk:k<=1000000):-1000000<=(c:Int)/\(c:Int)<=1000000:=⟨Int.le_trans (by decide) (Int.natCast_nonneg c),Int.ofNat_le.mpr (yas h hk)⟩
def S2.bdN{c k:Nat}(h:c<=k)(hk:k<=1000000):0<=(c:Int)/\(c:Int)<=1000000:=⟨Int.natCast_nonneg c,Int.ofNat_le.mpr (yas h hk)⟩
local macro_rules | `(tactic|omega)=> `(tactic|first|assumption|exact yas (by assumption) (by decide)|exact yai (by assumption) (by assumption)|exact yai (by assumption) (by decide)|exact ycu (by assumption)|exact S2.bdI (by assumption) (by decide)|exact yas (by assumption) (by assumption)|omega +splitDisjunctions)
namespace L2
open PySem PySem.Spec PyProof.Rows
noncomputable abbrev Key:=Sum Int Str
noncomputable def zj0:Key->Value->Bool
 |.inl k,v=>Value.isInt k v|.inr x,v=>Value.isStrOf x v
noncomputable def zyt(w:World):Key->Int
 |.inl k=>hashInt k|.inr x=>hashStr w x
theorem zaY:∀{k:Key}{v:Value},zj0 k v=true->(∃i t,k=Sum.inl i/\v=Value.int i t)\/(∃x t,k=Sum.inr x/\v=Value.str x t)
 |.inl i,v,h=>by
  obtain⟨t,e⟩:=Value.isInt_shape (k:=i) (v:=v) h;exact .inl ⟨i,t,rfl,e⟩
 |.inr x,v,h=>by
  obtain⟨t,e⟩:=Value.isStrOf_shape (x:=x) (v:=v) h;exact .inr ⟨x,t,rfl,e⟩
def zlO(i:Int)(t:Tok):zj0 (.inl i) (.int i t)=true:=by simp[zj0,Value.isInt]
def zlN(x:Str)(t:Tok):zj0 (.inr x) (.str x t)=true:=by simp[zj0,Value.isStrOf]
def zte(a b:Int):decide ((Sum.inl a:Key)=Sum.inl b)=(a==b):=by
 by_cases e:a=b
 ·subst e;simp
 ·have h:¬ (Sum.inl a:Key)=Sum.inl b:=fun q=>e (Sum.inl.inj q)
  rw[yaJ h];exact(ya4.mpr e).symm
def ztb(a b:Str):decide ((Sum.inr a:Key)=Sum.inr b)=decide (a=b):=by
 by_cases e:a=b
 ·subst e;simp
 ·have h:¬ (Sum.inr a:Key)=Sum.inr b:=fun q=>e (Sum.inr.inj q)
  rw[yaJ h,yaJ e]
def ztd(a:Int)(b:Str):decide ((Sum.inl a:Key)=Sum.inr b)=false:=yaJ (fun q=>nomatch q)
def ztc(a:Str)(b:Int):decide ((Sum.inr a:Key)=Sum.inl b)=false:=yaJ (fun q=>nomatch q)
def zax(prog:Program)(w:World):PySem.KeyKind prog w Key where
 is:=zj0
 hash:=zyt w
 inj:=fun v a b ha hb=>by
  rcases zaY ha with⟨i,t,rfl,rfl⟩|⟨x,t,rfl,rfl⟩
  ·rcases zaY hb with⟨j,u,rfl,e⟩|⟨y,u,rfl,e⟩
   ·injection e with e1 _;rw[e1]
   ·exact nomatch e
  ·rcases zaY hb with⟨j,u,rfl,e⟩|⟨y,u,rfl,e⟩
   ·exact nomatch e
   ·injection e with e1 _;rw[e1]
 byValue:=fun k v h=>by
  rcases zaY h with⟨i,t,rfl,rfl⟩|⟨x,t,rfl,rfl⟩<;>rfl
 pyHash:=fun hv h=>by
  rcases zaY hv with⟨i,t,rfl,rfl⟩|⟨x,t,rfl,rfl⟩
  ·exact wpAny_pyHash_int h
  ·exact wpAny_pyHash_str h
 eqBool:=fun hu hv h=>by
  rcases zaY hu with⟨i,t,rfl,rfl⟩|⟨x,t,rfl,rfl⟩
  ·rcases zaY hv with⟨j,u,rfl,rfl⟩|⟨y,u,rfl,rfl⟩
   ·rw[zte]at h;exact wpAny_eqBool_int h
   ·rw[ztd]at h;exact SeqAt.EqAt.int_str i t y u _ _ _ _ h
  ·rcases zaY hv with⟨j,u,rfl,rfl⟩|⟨y,u,rfl,rfl⟩
   ·rw[ztc]at h;exact SeqAt.EqAt.str_int x t j u _ _ _ _ h
   ·rw[ztb]at h;exact wpAny_eqBool_str h
 «strs»:=fun k x t v h=>by
  rcases zaY h with⟨i,u,rfl,e⟩|⟨y,u,rfl,e⟩
  ·exact nomatch e
  ·injection e with e1 _
   subst e1
   cases v<;>rfl
def zii(prog:Program)(w:World)(i:Int)(t:Tok):(zax prog w).is (.inl i) (.int i t)=true:=zlO i t
def zih(prog:Program)(w:World)(x:Str)(t:Tok):(zax prog w).is (.inr x) (.str x t)=true:=zlN x t
inductive V where
 |non|bl (b:Bool)|int (i:Int)|str (x:Str)|byt (b:Array UInt8)|flt (b:UInt64)|ref (a:Addr)|ty (n:String)
 deriving DecidableEq
noncomputable def zaV:V->Value->Prop
 |.non,u=>u=Value.none|.bl b,u=>u=Value.bool b|.int i,u=>∃t,u=Value.int i t|.str x,u=>∃t,u=Value.str x t|.byt b,u=>∃t,u=Value.bytes b t|.flt b,u=>∃t,u=Value.float b t|.ref a,u=>u=Value.ref a|.ty n,u=>u=Value.type n
noncomputable abbrev Vals:List V->List Value->Prop:=Paired zaV
theorem Vals.length(r:Vals xs us):xs.length=us.length:=Paired.length r
theorem Vals.get:∀{xs:List V}{us:List Value}{i:Nat}{x:V},Vals xs us->xs[i]?=some x->∃u,us[i]?=some u/\zaV x u
 |_,_,_,_,.nil,e=>by simp at e
 |_,_,0,_,.cons r _,e=>by simp at e;subst e;exact⟨_,rfl,r⟩
 |_,_,i+1,x,.cons _ t,e=>by
  obtain⟨u,h1,h2⟩:=Vals.get (i:=i) (x:=x) t (by simpa using e);exact⟨u,by simpa using h1,h2⟩
theorem Vals.append:∀{xs ys:List V}{us ws:List Value},Vals xs us->Vals ys ws->Vals (xs++ys) (us++ws)
 |_,_,_,_,.nil,s=>s|_,_,_,_,.cons r t,s=>.cons r (Vals.append t s)
theorem Vals.take:∀{xs:List V}{us:List Value} (n:Nat),Vals xs us->Vals (xs.take n) (us.take n)
 |_,_,0,_=>.nil|_,_,_+1,.nil=>.nil|_,_,n+1,.cons r t=>.cons r (Vals.take n t)
theorem Vals.drop:∀{xs:List V}{us:List Value} (n:Nat),Vals xs us->Vals (xs.drop n) (us.drop n)
 |_,_,0,r=>r|_,_,_+1,.nil=>.nil|_,_,n+1,.cons _ t=>Vals.drop n t
noncomputable def zf9:Option V->Option Value->Prop
 |some v,some u=>zaV v u|none,none=>True|_,_=>False
noncomputable def KV{κ:Type}:List (κ×V)->List (κ×Value)->Prop:=Paired fun(p:κ×V) (q:κ×Value)=>p.1=q.1/\zaV p.2 q.2
noncomputable def kV:Key->V
 |.inl i=>.int i|.inr x=>.str x
inductive HO where
 |lst (xs:List V)
 |tup (xs:List V)
 |dK (kvs:List (Key×V))|dT (kvs:List (List Key×V))
 |set (S:Int->Bool) (n:Nat)
 |ins (C dx:Addr) (fs:List (Str×V))
 |own (x:Addr)
 |xd (fs:List (Str×V))
 |met (f x:Addr)
 |rng (lo hi:Int)
 |frz (o:Obj) (u:HO)
 |tbl (ps:Array Value)
 |ext (φ:Heap->Prop)
noncomputable abbrev Hp:=Addr->Option HO
noncomputable def upd(H:Hp)(a:Addr)(o:HO):Hp:=fun b=>if b=a then some o else H b
def zaq:upd H a o a=some o:=by unfold upd;rw[if_pos rfl]
def zaf(h:b≠a):upd H a o b=H b:=by unfold upd;rw[if_neg h]
def zpl{H:Hp}{a:Addr}{o u:HO}:upd (upd H a o) a u=upd H a u:=by
 funext b;unfold upd;split<;>rfl
def zvs{H:Hp}{a b:Addr}{o u:HO}(h:H a=some o)(h':H b=some u)(d:o≠u):a≠b:=by
 intro e;subst e;rw[h]at h';exact d (Option.some.inj h')
def zav{H:Hp}{a b:Addr}{o:HO}(h:H a=some o)(h':H b=none):a≠b:=by
 intro e;subst e;rw[h]at h';cases h'
noncomputable def zpe(h:Heap)(a:Addr)(items:Array Value):Prop:=∃o,h.get? a=some o/\o.cls=.type "tuple" /\ ∃n,o.data=.seq items n/\o.dict=none
theorem zpe.t{h:Heap}{a:Addr}{items:Array Value}:zpe h a items->IsTup h a items|⟨o,e,c,n,d,_⟩=>⟨o,e,c,n,d⟩
def zpe.new(h:Heap)(items:Array Value):zpe (h.push {cls:=.type "tuple",data:=.seq items}) h.objs.size items:=⟨_,yar _ rfl,rfl,_,rfl,rfl⟩
section
variable(P:Program)(w:World)
def za3(H:Hp)(h:Heap)(a:Addr):HO->Prop
 |.lst xs=>xs.length<=sizeLine/\∃(its:List Value) (n:Nat),Vals xs its/\h.get? a=some {cls:=.type "list",data:=.seq its.toArray n}|.tup xs=>xs.length<=sizeLine/\∃its:List Value,Vals xs its/\zpe h a its.toArray|.dK kvs=>kvs.length<=sizeLine/\(a==sysModules)=false/\∃vs,KV kvs vs/\h.DictOf (zax P w) a vs|.dT kvs=>kvs.length<=sizeLine/\(a==sysModules)=false/\∃xs:List (List Key×Addr×Value),
   Paired (fun(p:List Key×V) (q:List Key×Addr×Value)=>p.1=q.1/\H q.2.1=some (.tup (p.1.map kV))/\zaV p.2 q.2.2) kvs xs ∧
   ∃o es ep,h.get? a=some o/\o.ExactDict/\o.data=.dict es ep/\es.toList=xs.map (entryOfKey (tupleKind (zax P w)))/\(xs.map (·.1)).Nodup
 |.set S n=>h.SetOf (intKind P w) a S n|.ins C dx fs=>H dx=some (.own a)/\fs.length<=1000/\dx≠a/\h.get? a=some (PySem.W.instObj C dx) ∧
   ∃mA,h.Ns1 dx mA/\(∀f,zf9 (fs.lookup f) (mA f))/\PySem.Within mA (fs.map (·.1))
 |.own _=>∃o,h.get? a=some o|.xd fs=>∃mA,h.Ns1 a mA/\∀f,zf9 (fs.lookup f) (mA f)|.rng lo hi=>∃t u v,h.get? a=some {cls:=.type "range",data:=.fields #[.int lo t,.int hi u,.int 1 v]}|.frz o u=>h.get? a=some o/\za3 H h a u|.tbl ps=>h.get? a=some {cls:=.none,data:=.fields ps}|.met f x=>h.get? a=some (PySem.W.methodObj (.ref f) (.ref x))|.ext φ=>φ h/\(∃o,h.get? a=some o)/\∀h1 h2:Heap,φ h1->(∀o,h1.get? a=some o->h2.get? a=some o)->φ h2
noncomputable def HOk(H:Hp)(h:Heap):Prop:=∀a o,H a=some o->za3 P w H h a o
end
section
variable{P:Program}{w:World}{H H':Hp}{h h':Heap}{a:Addr}{o:HO}
theorem za3.lt(x:za3 P w H h a o):a<h.objs.size:=by
 cases o with
 |lst xs=>obtain⟨_,_,_,_,e⟩:=x;exact yao e|tup xs=>obtain⟨_,_,_,p⟩:=x;exact p.t.lt|dK kvs=>obtain⟨_,_,_,_,o,_,_,e,_⟩:=x;exact yao e|dT kvs=>obtain⟨_,_,_,_,o,_,_,e,_⟩:=x;exact yao e|set S n=>obtain⟨o,_,_,_,e,_⟩:=x;exact yao e|ins C dx fs=>obtain⟨_,_,_,e,_⟩:=x;exact yao e|own y=>obtain⟨_,e⟩:=x;exact yao e|xd fs=>obtain⟨_,⟨_,_,_,e,_⟩,_⟩:=x;exact yao e|rng lo hi=>obtain⟨_,_,_,e⟩:=x;exact yao e|frz ob u=>obtain⟨e,_⟩:=x;exact yao e|tbl ps=>exact yao (show h.get? a=some _ from x)|met f y=>exact yao (show h.get? a=some _ from x)|ext φ=>obtain⟨_,⟨_,e⟩,_⟩:=x;exact yao e
theorem Paired.mapP{α β:Type}{F G:α->β->Prop}:∀{l₁:List α}{l₂:List β},Paired F l₁ l₂->(∀a b,F a b->G a b)->Paired G l₁ l₂
 |_,_,.nil,_=>.nil|_,_,.cons r t,f=>.cons (f _ _ r) (Paired.mapP t f)
def za3.stay(x:za3 P w H h a o)(k:∀b u,(b=a\/H b=some (.own a))->h.get? b=some u->h'.get? b=some u)
  (ho:∀b,H b=some (.own a)->H' b=some (.own a)) (ht:∀b xs,H b=some (.tup xs)->H' b=some (.tup xs)):za3 P w H' h' a o:=by
 induction o with
 |lst xs=>obtain⟨z,its,n,r,e⟩:=x;exact⟨z,its,n,r,k _ _ (.inl rfl) e⟩|tup xs=>obtain⟨z,its,r,ob,e,c⟩:=x;exact⟨z,its,r,ob,k _ _ (.inl rfl) e,c⟩|dK kvs=>obtain⟨z,y,vs,r,ob,es,ep,e,c⟩:=x;exact⟨z,y,vs,r,ob,es,ep,k _ _ (.inl rfl) e,c⟩|dT kvs=>
  obtain⟨z,y,xs,r,ob,es,ep,e,c⟩:=x;exact⟨z,y,xs,Paired.mapP r fun p q z=>⟨z.1,ht _ _ z.2.1,z.2.2⟩,ob,es,ep,k _ _ (.inl rfl) e,c⟩
 |set S n=>obtain⟨ob,es,ep,t,e,c⟩:=x;exact⟨ob,es,ep,t,k _ _ (.inl rfl) e,c⟩|ins C dx fs=>
  obtain⟨d,z,ne,e,mA,⟨od,es,ep,e2,c⟩,r⟩:=x;exact⟨ho _ d,z,ne,k _ _ (.inl rfl) e,mA,⟨od,es,ep,k _ _ (.inr d) e2,c⟩,r⟩
 |own y=>obtain⟨ob,e⟩:=x;exact⟨ob,k _ _ (.inl rfl) e⟩|xd fs=>obtain⟨mA,⟨od,es,ep,e,c⟩,r⟩:=x;exact⟨mA,⟨od,es,ep,k _ _ (.inl rfl) e,c⟩,r⟩|rng lo hi=>obtain⟨t,u,v,e⟩:=x;exact⟨t,u,v,k _ _ (.inl rfl) e⟩|frz ob u ih=>obtain⟨e,q⟩:=x;exact⟨k _ _ (.inl rfl) e,ih q⟩|tbl ps=>
  have e:h.get? a=some {cls:=.none,data:=.fields ps}:=x;show h'.get? a=some {cls:=.none,data:=.fields ps};exact k a _ (.inl rfl) e
 |met f y=>
  have e:h.get? a=some (PySem.W.methodObj (.ref f) (.ref y)):=x;show h'.get? a=some (PySem.W.methodObj (.ref f) (.ref y));exact k a _ (.inl rfl) e
 |ext φ=>obtain⟨p,⟨o,e⟩,st⟩:=x;exact⟨st _ _ p fun o q=>k _ _ (.inl rfl) q,⟨o,k _ _ (.inl rfl) e⟩,st⟩
theorem HOk.lt(x:HOk P w H h)(e:H a=some o):a<h.objs.size:=(x a o e).lt
def HOk.fresh(x:HOk P w H h)(e:h.objs.size<=a):H a=none:=by
 cases q:H a with
 |none=>rfl|some u=>exact absurd (yai (x.lt q) e) (yaR _)
def HOk.kept(x:HOk P w H h)(k:∀b u,h.get? b=some u->h'.get? b=some u):HOk P w H h':=fun a o e=>
 (x a o e).stay (fun b u _ q=>k b u q) (fun _ q=>q) fun _ _ q=>q
def HOk.laid(x:HOk P w H h)(k:∀b u,h.get? b=some u->h'.get? b=some u)(hp:h.objs.size<=a)(new:za3 P w (upd H a o) h' a o):HOk P w (upd H a o) h':=fun b u e=>by
 have hn:=x.fresh hp
 by_cases hb:b=a
 ·subst hb;rw[zaq]at e;cases e;exact new
 ·rw[zaf hb]at e
  exact(x b u e).stay (fun c v _ q=>k c v q) (fun c q=>by rw[zaf (zav q hn)];exact q) fun c xs q=>by rw[zaf (zav q hn)];exact q
end
noncomputable def Rd(H:Hp)(a:Addr)(u:HO):Prop:=H a=some u\/∃o,H a=some (.frz o u)
def Rd.ok(r:Rd H a u)(x:HOk P w H h):za3 P w H h a u:=by
 rcases r with r|⟨o,r⟩
 ·exact x a u r
 ·obtain⟨_,q⟩:=x a _ r;exact q
noncomputable def Mut:Option HO->Prop
 |some (.lst _)=>True|some (.dK _)=>True|some (.dT _)=>True|some (.set _ _)=>True|some (.ins _ _ _)=>True|some (.ext _)=>True|_=>False
section
variable{P:Program}{w:World}{H:Hp}{h h':Heap}{x e:Addr}{o':HO}
def HOk.write(ok:HOk P w H h)(mu:Mut (H x))(he:e=x\/H e=some (.own x))(k:∀b u,b≠e->h.get? b=some u->h'.get? b=some u)(heo:∃u,h'.get? e=some u)
  (new:za3 P w (upd H x o') h' x o'):HOk P w (upd H x o') h':=fun b u q=>by
 have nown:∀c y,H c=some (.own y)->c≠x:=fun c y r z=>by subst z;rwa[r]at mu
 have ntup:∀c xs,H c=some (.tup xs)->c≠x:=fun c xs r z=>by subst z;rwa[r]at mu
 by_cases hb:b=x
 ·subst hb;rw[zaq]at q;cases q;exact new
 ·rw[zaf hb]at q
  by_cases hbe:b=e
  ·have q':H b=some (.own x):=by
    rcases he with z|z
    ·exact absurd (hbe.trans z) hb
    ·rw[hbe];exact z
   rw[q]at q';cases q';obtain⟨v,hv⟩:=heo;exact⟨v,by rw[hbe];exact hv⟩
  ·refine(ok b u q).stay (fun c v hc r=>k c v ?_ r) (fun c r=>by rw[zaf (nown c b r)];exact r) fun c xs r=>by rw[zaf (ntup c xs r)];exact r
   rcases hc with rfl|hc
   ·exact hbe
   ·rintro rfl
    rcases he with z|z
    ·exact nown c b hc z
    ·rw[hc]at z;cases z;exact hb rfl
end
structure Un(fs ex:List Addr)(H H':Hp)(h h':Heap):Prop where
 keep:∀b o,h.get? b=some o->H b=none->b ∉ fs->b ∉ ex->h'.get? b=some o
 slot:∀b o,h.get? b=some o->H b=none->b∈fs->b ∉ ex->∃sl,h'.get? b=some {o with slots:=sl}
 free:∀b o,h.get? b=some o->H b=none->b ∉ ex->H' b=none
 there:∀b o,h.get? b=some o->b ∉ ex->∃o',h'.get? b=some o'
 tups:∀b xs,H b=some (.tup xs)->H' b=some (.tup xs)
 frzs:∀b o u,H b=some (.frz o u)->H' b=some (.frz o u)
 tbls:∀b ps,H b=some (.tbl ps)->∃more,H' b=some (.tbl (ps++more))
section
variable{fs fs' ex ex':List Addr}{H H1 H2:Hp}{h h1 h2 h':Heap}{a x e:Addr}{o:HO}
def Un.any(u:Un fs ex H H1 h h1)(q:h.get? b=some ob)(n:H b=none)(hx:b ∉ ex):∃sl,h1.get? b=some {ob with slots:=sl}:=by
 by_cases hb:b∈fs
 ·exact u.slot b ob q n hb hx
 ·exact⟨ob.slots,u.keep b ob q n hb hx⟩
def Un.kept(k:∀b u,h.get? b=some u->h'.get? b=some u):Un fs ex H H h h':=
 ⟨fun b ob q _ _ _=>k b ob q,fun b ob q _ _ _=>⟨ob.slots,k b ob q⟩,fun _ _ _ n _=>n,fun b ob q _=>⟨ob,k b ob q⟩,fun _ _ q=>q,fun _ _ _ q=>q,fun _ ps q=>⟨#[],by rw[q];simp⟩⟩
def Un.refl:Un fs ex H H h h:=Un.kept fun _ _ q=>q
def Un.laid(k:∀b u,h.get? b=some u->h'.get? b=some u)(hp:h.objs.size<=a)(hn:H a=none):Un fs ex H (upd H a o) h h' where
 keep:=fun b u q _ _ _=>k b u q
 slot:=fun b u q _ _ _=>⟨u.slots,k b u q⟩
 free:=fun b u q n _=>by rw[zaf (yay (yai (yao q) hp))];exact n
 there:=fun b u q _=>⟨u,k b u q⟩
 tups:=fun b xs q=>by rw[zaf (zav q hn)];exact q
 frzs:=fun b u xs q=>by rw[zaf (zav q hn)];exact q
 tbls:=fun b ps q=>⟨#[],by rw[zaf (zav q hn),q];simp⟩
def Un.write(mu:Mut (H x))(he:e=x\/H e=some (.own x))(k:∀b u,b≠e->h.get? b=some u->h'.get? b=some u)(heo:∃u,h'.get? e=some u):Un fs ex H (upd H x o) h h':=by
 have hx:∀b,H b=none->b≠x:=fun b n z=>by subst z;rwa[n]at mu
 have hb:∀b,H b=none->b≠e:=fun b n z=>by
  subst z
  rcases he with r|r
  ·exact hx b n r
  ·rw[n]at r;cases r
 have hm:∀b u,H b=some u->¬ Mut (some u)->b≠x:=fun b u q nm z=>by subst z;rw[q]at mu;exact nm mu
 refine⟨fun b u q n _ _=>k b u (hb b n) q,fun b u q n _ _=>⟨u.slots,k b u (hb b n) q⟩,fun b u q n _=>by rw[zaf (hx b n)];exact n,fun b u q _=>?_,
  fun b xs q=>by rw[zaf (hm b _ q fun z=>z)];exact q,fun b u xs q=>by rw[zaf (hm b _ q fun z=>z)];exact q,fun b ps q=>⟨#[],by rw[zaf (hm b _ q fun z=>z),q];simp⟩⟩
 by_cases hbe:b=e
 ·subst hbe;exact heo
 ·exact⟨u,k b u hbe q⟩
end
noncomputable def trk(h:Heap)(H:Hp):List Addr:=(List.range h.objs.size).filter fun a=>(H a).isSome
def zl4(h:Heap)(H:Hp):Heap:=PySem.W.hideAll h (trk h H)
def zl3(h:Heap)(H:Hp):(zl4 h H).objs.size=h.objs.size:=PySem.W.hideAll_size _ _
def znW(e:h.get? b=some o)(n:H b=none):(zl4 h H).get? b=some o:=
 PySem.W.hideAll_get _ e fun hm=>by
  have q:(H b).isSome=true:=(ycI.mp hm).2;rw[n]at q;simp at q
def zqu(e:(zl4 h H).get? b=some o):h.get? b=some o/\H b=none:=by
 have e':h.get? b=some o:=PySem.W.of_hideAll (trk h H) e;refine⟨e',?_⟩
 cases q:H b with
 |none=>rfl|some x=>
  have hm:b∈trk h H:=ycI.mpr ⟨ybT.mpr (yao e'),by simp[q]⟩;have z:(zl4 h H).get? b=none:=PySem.W.hideAll_none (trk h H) hm;rw[z]at e;cases e
noncomputable def zrh(g h:Heap)(L:Addr):List (Addr×Obj):=(List.range h.objs.size).filterMap fun a=>if a=L\/(g.get? a).isSome=true then none else(h.get? a).map fun o=>(a,o)
def zbR(g h:Heap)(L d:Addr):List (Addr×Obj):=(zrh g h L).filter fun p=>decide (p.1≠d)
structure Mod(K:PySem.W.Frag)(mg:Z6)(base:Heap):Prop where
 kin:K.In base
 glob:base.Ns mainGlobals mg
 blt:∃mb,base.Ns builtinsNs mb/\∀x:Str,x ≠ "__name__" -> mb x=bootBuiltins x
 nolimit:base.NoLimit
structure Cx where
 prog:Program
 w:World
 K:PySem.W.Frag
 mg:Str->Option Value
 base:Heap
 A:Around
 N:List Str
 s₀:Shared
 H₀:Hp
 env:Env
 outer:List Env
 stack:List Env
 ex:List Addr
 fn:Str->Bool
 calm:Bool
 pn:List (Addr×Obj)
 xe:Value->Shared->Prop
noncomputable def frs(l:List Env):List Addr:=l.filterMap (·.frame)
noncomputable abbrev Cx.fs(X:Cx):List Addr:=frs X.outer
noncomputable def Vis(sc:Scope)(x:Str):Prop:=sc.names.lookup x=some .local\/sc.names.lookup x=some .cell\/sc.names.lookup x=some .free
noncomputable def Loc(sc:Scope)(x:Str):Prop:=sc.names.lookup x=some .local\/sc.names.lookup x=some .cell
noncomputable def zzo(env:Env)(h:Heap)(m:Z6)(x:Str)(u:Value):Prop:=
 (env.kindOf x=some .local/\m x=some u)\/((env.kindOf x=some .cell\/env.kindOf x=some .free)/\∃c,env.cells.lookup x=some c/\h.IsCell c (some u))
structure Cx.Ok(X:Cx):Prop where
 mod:Mod X.K X.mg X.base
 kind:X.env.scope.kind=.function
 glob:X.env.globals=mainGlobals
 blt:X.env.builtins=builtinsNs
 above:X.s₀.heap.objs.size<=X.env.locals
 inj:∀x y c,X.env.cells.lookup x=some c->X.env.cells.lookup y=some c->x=y
 has:∀x,(X.env.kindOf x=some .cell\/X.env.kindOf x=some .free)->∃c,X.env.cells.lookup x=some c
 cab:∀x c,X.fn x=true->X.env.cells.lookup x=some c->X.s₀.heap.objs.size<=c
 hd:X.calm=true->X.A.handled=none
 frames:X.A.frames=some X.stack
 stk:X.stack=X.outer\/(X.stack=X.env::X.outer/\X.env.frame=some X.env.locals)
 exf:∀b∈X.ex,b≠X.env.locals/\∀x c,X.env.cells.lookup x=some c->c≠b
 bs:∀b o,X.base.get? b=some o->X.s₀.heap.get? b=some o/\X.H₀ b=none
 bsz:X.base.objs.size<=X.s₀.heap.objs.size
 noex:∀b o,X.base.get? b=some o->b ∉ X.ex
 exfs:∀b∈X.ex,b ∉ X.fs
 funs:X.s₀.heap.FunFrames X.base X.outer
 frf:∀b∈X.fs,X.H₀ b=none
structure Inv(X:Cx)(pins:Z3)(σ:List (Option V))(H:Hp)(s:Shared):Prop where
 ok:X.Ok
 os:s.os=X.s₀.os
 bare:AllBare s.gens
 base:Un X.fs X.ex X.H₀ H X.s₀.heap s.heap
 loc:∃m,s.heap.Ns X.env.locals m/\∀(i:Nat) (x:Str) (v:V),X.N[i]?=some x->σ[i]?=some (some v)->Vis X.env.scope x->∃u,zaV v u/\zzo X.env s.heap m x u
 cell:∀x c,X.env.cells.lookup x=some c->∃v,s.heap.IsCell c v
 free:H X.env.locals=none
 freeC:∀x c,X.env.cells.lookup x=some c->H c=none
 pin:∀p∈X.pn++pins,s.heap.get? p.1=some p.2/\H p.1=none/\p.1≠X.env.locals/\p.1 ∉ X.fs/\∀v,p.2.data≠.cell v
 hok:HOk X.prog X.w H s.heap
 len:σ.length=X.N.length
section
variable{X:Cx}{pins:Z3}{σ:List (Option V)}{H H':Hp}{s:Shared}{h':Heap}
def Cx.Ok.nofr(ok:X.Ok)(e:X.base.get? b=some o):b ∉ X.fs:=fun hb=>by
 have:=(ok.funs.mem hb).1;rw[e]at this;cases this
theorem Inv.bs(I:Inv X pins σ H s):∀b o,X.base.get? b=some o->s.heap.get? b=some o/\H b=none:=fun b o e=>
 ⟨I.base.keep b o (I.ok.bs b o e).1 (I.ok.bs b o e).2 (I.ok.nofr e) (I.ok.noex b o e),I.base.free b o (I.ok.bs b o e).1 (I.ok.bs b o e).2 (I.ok.noex b o e)⟩
def Inv.bk(I:Inv X pins σ H s):∀b o,X.base.get? b=some o->s.heap.get? b=some o:=fun b o e=>(I.bs b o e).1
theorem Inv.mod(I:Inv X pins σ H s):Mod X.K X.mg X.base:=I.ok.mod
def Inv.kIn(I:Inv X pins σ H s):X.K.In s.heap:=I.ok.mod.kin.keeps I.bk
theorem Inv.lt(I:Inv X pins σ H s):X.env.locals<s.heap.objs.size:=let ⟨_,hn,_⟩:=I.loc;hn.lt
def Inv.sz(I:Inv X pins σ H s):X.s₀.heap.objs.size<=s.heap.objs.size:=yas I.ok.above (ycu I.lt)
def Inv.nofs(I:Inv X pins σ H s)(h:s.heap.objs.size<=a):a ∉ X.fs:=fun hb=>by
 obtain⟨_,o,ho,_⟩:=I.ok.funs.mem hb;exact absurd (yai (yao ho) (yas I.sz h)) (yaR _)
def Inv.cne(I:Inv X pins σ H s):∀x c,X.env.cells.lookup x=some c->c≠X.env.locals:=fun x c e z=>by
 obtain⟨v,o,ho,hd⟩:=I.cell x c e;obtain⟨m,⟨o',es,ep,ho',hd',_⟩,_⟩:=I.loc;rw[z,ho']at ho;cases ho;rw[hd']at hd;cases hd
theorem Inv.funs(I:Inv X pins σ H s):s.heap.FunFrames X.base X.outer:=by
 have all:∀(l:List Env),(∀b∈frs l,b∈X.fs)->X.s₀.heap.FunFrames X.base l->s.heap.FunFrames X.base l:=by
  intro l
  induction l with
  |nil=>intro _ _;trivial|cons env r ih=>
   intro hs hl;obtain⟨hk,⟨L,o,hf,hn,ho,hd⟩,hr⟩:=hl;have hL:L∈X.fs:=hs L (by unfold frs;rw[ybZ,hf];exact yam);obtain⟨sl,e⟩:=I.base.slot L o ho (I.ok.frf L hL) hL fun z=>I.ok.exfs L z hL
   exact⟨hk,⟨L,_,hf,hn,e,hd⟩,ih (fun b hb=>hs b (by unfold frs;rw[ybZ,hf];exact yak _ hb)) hr⟩
 exact all X.outer (fun _ hb=>hb) I.ok.funs
theorem Inv.stack(I:Inv X pins σ H s):s.heap.FunFrames X.base X.stack:=by
 rcases I.ok.stk with e|⟨e,hf⟩
 ·rw[e];exact I.funs
 ·rw[e];obtain⟨m,hn,_⟩:=I.loc;refine .cons (by rw[I.ok.kind];decide) hf hn ?_ I.funs;exact Heap.get?_none_of_le (yas I.ok.bsz I.ok.above)
def Inv.stkSub(I:Inv X pins σ H s):∀b∈frs X.stack,b∈X.env.locals::X.fs:=fun b hb=>by
 rcases I.ok.stk with e|⟨e,hf⟩
 ·rw[e]at hb;exact yak _ hb
 ·rw[e]at hb;unfold frs at hb;rwa[ybZ,hf]at hb
def Inv.stkFree(I:Inv X pins σ H s):∀b∈frs X.stack,H b=none:=fun b hb=>by
 rcases yat.mp (I.stkSub b hb)with e|hb
 ·rw[e];exact I.free
 ·obtain⟨_,o,ho,_⟩:=I.ok.funs.mem hb;exact I.base.free b o ho (I.ok.frf b hb) fun z=>I.ok.exfs b z hb
def Inv.step{g':Array GenState}{t':Nat}{d':Drawn}{ch:List Addr}(I:Inv X pins σ H s)
  (hch:∀b∈ch,(b∈X.ex\/X.s₀.heap.objs.size<=b)/\b≠X.env.locals/\(∀x c,X.env.cells.lookup x=some c->c≠b)/\∀p∈X.pn++pins,p.1≠b)
  (keep:∀b o,b≠X.env.locals->b ∉ X.fs->b ∉ ch->s.heap.get? b=some o->H b=none->h'.get? b=some o)
  (slot:∀b o,b≠X.env.locals->b∈X.fs->b ∉ ch->s.heap.get? b=some o->H b=none->∃sl,h'.get? b=some {o with slots:=sl}) (free:∀b o,b ∉ ch->s.heap.get? b=some o->H b=none->H' b=none)
  (there:∀b o,b ∉ ch->s.heap.get? b=some o->∃o',h'.get? b=some o')
  (tups:∀b xs,H b=some (.tup xs)->H' b=some (.tup xs)) (frzs:∀b o u,H b=some (.frz o u)->H' b=some (.frz o u)) (tbls:∀b ps,H b=some (.tbl ps)->∃more,H' b=some (.tbl (ps++more)))
  (ns:∀m,s.heap.Ns X.env.locals m->h'.Ns X.env.locals m) (hok:HOk X.prog X.w H' h') (hg:AllBare g'):
  Inv X pins σ H' {s with heap:=h',gens:=g',drawn:=d',toks:=t'}:=by
 have neL:∀b o,X.s₀.heap.get? b=some o->b≠X.env.locals:=fun b o e=>yay (yai (yao e) I.ok.above)
 have neC:∀b o,X.s₀.heap.get? b=some o->b ∉ X.ex->b ∉ ch:=fun b o e hx hb=>by
  rcases(hch b hb).1 with z|z
  ·exact hx z
  ·exact absurd (yai (yao e) z) (yaR _)
 have cellK:∀x c,X.env.cells.lookup x=some c->∀v,s.heap.IsCell c v->h'.IsCell c v:=fun x c e v ⟨o,ho,hd⟩=>by
  have nch:c ∉ ch:=fun z=>(hch c z).2.2.1 x c e rfl
  by_cases hc:c∈X.fs
  ·obtain⟨sl,q⟩:=slot c o (I.cne x c e) hc nch ho (I.freeC x c e);exact⟨_,q,hd⟩
  ·exact⟨o,keep c o (I.cne x c e) hc nch ho (I.freeC x c e),hd⟩
 refine⟨I.ok,I.os,hg,⟨fun b o e n hb hx=>?_,fun b o e n hb hx=>?_,fun b o e n hx=>?_,fun b o e hx=>?_,fun b xs e=>tups b xs (I.base.tups b xs e),fun b o xs e=>frzs b o xs (I.base.frzs b o xs e),fun b ps e=>?_⟩,?_,fun x c e=>?_,?_,fun x c e=>?_,fun p hp=>?_,hok,I.len⟩
 ·exact keep b o (neL b o e) hb (neC b o e hx) (I.base.keep b o e n hb hx) (I.base.free b o e n hx)
 ·obtain⟨sl,e1⟩:=I.base.slot b o e n hb hx;obtain⟨sl',e2⟩:=slot b _ (neL b o e) hb (neC b o e hx) e1 (I.base.free b o e n hx);exact⟨sl',e2⟩
 ·obtain⟨o',e1⟩:=I.base.there b o e hx;exact free b o' (neC b o e hx) e1 (I.base.free b o e n hx)
 ·obtain⟨o',e1⟩:=I.base.there b o e hx;exact there b o' (neC b o e hx) e1
 ·obtain⟨m1,e1⟩:=I.base.tbls b ps e;obtain⟨m2,e2⟩:=tbls b _ e1;exact⟨m1++m2,by rw[e2,Array.append_assoc]⟩
 ·obtain⟨m,hn,hl⟩:=I.loc;refine⟨m,ns m hn,fun i x v e1 e2 e3=>?_⟩;obtain⟨u,r,l⟩:=hl i x v e1 e2 e3;refine⟨u,r,?_⟩
  rcases l with l|⟨k,c,e,z⟩
  ·exact .inl l
  ·exact .inr ⟨k,c,e,cellK x c e _ z⟩
 ·obtain⟨v,z⟩:=I.cell x c e;exact⟨v,cellK x c e v z⟩
 ·obtain⟨m,⟨o,_,_,ho,_⟩,_⟩:=I.loc;exact free _ o (fun z=>(hch _ z).2.1 rfl) ho I.free
 ·obtain⟨v,o,ho,hd⟩:=I.cell x c e;exact free c o (fun z=>(hch c z).2.2.1 x c e rfl) ho (I.freeC x c e)
 ·obtain⟨e,n,ne,nf,d⟩:=I.pin p hp;have nch:p.1 ∉ ch:=fun z=>(hch p.1 z).2.2.2 p hp rfl
  exact⟨keep p.1 p.2 ne nf nch e n,free p.1 p.2 nch e n,ne,nf,d⟩
def Inv.un(I:Inv X pins σ H s)(u:Un X.fs [] H H' s.heap h')(hok:HOk X.prog X.w H' h'):Inv X pins σ H' {s with heap:=h',toks:=t'}:=by
 obtain⟨m,⟨o,es,ep,ho,r⟩,_⟩:=id I.loc;obtain⟨sl,hL⟩:=u.any ho I.free (by simp)
 exact I.step (g':=s.gens) (d':=s.drawn) (ch:=[]) (fun _ z=>nomatch z) (fun b o _ hb _ e n=>u.keep b o e n hb (by simp)) (fun b o _ hb _ e n=>u.slot b o e n hb (by simp)) (fun b o _ e n=>u.free b o e n (by simp)) (fun b o _ e=>u.there b o e (by simp)) u.tups u.frzs u.tbls (fun m' hm=>by
  obtain⟨o',es',ep',ho',r'⟩:=hm;rw[ho]at ho';cases ho'
  exact⟨_,es',ep',hL,r'⟩) hok I.bare
def Inv.call(I:Inv X pins σ H s)(u:Un (frs X.stack) ch H H' s.heap h')(hok:HOk X.prog X.w H' h')(hg:AllBare g')
  (hch:∀b∈ch,(b∈X.ex\/X.s₀.heap.objs.size<=b)/\b≠X.env.locals/\(∀x c,X.env.cells.lookup x=some c->c≠b)/\∀p∈X.pn++pins,p.1≠b):
  Inv X pins σ H' {s with heap:=h',gens:=g',drawn:=d',toks:=t'}:=by
 obtain⟨m,⟨o,es,ep,ho,r⟩,_⟩:=id I.loc;obtain⟨sl,hL⟩:=u.any ho I.free fun z=>(hch _ z).2.1 rfl
 exact I.step (ch:=ch) hch (fun b o hL hb hc e n=>u.keep b o e n (fun z=>(yat.mp (I.stkSub b z)).elim hL hb) hc) (fun b o _ _ hc e n=>u.any e n hc) (fun b o hc e n=>u.free b o e n hc) (fun b o hc e=>u.there b o e hc) u.tups u.frzs u.tbls (fun m' hm=>by
  obtain⟨o',es',ep',ho',r'⟩:=hm;rw[ho]at ho';cases ho'
  exact⟨_,es',ep',hL,r'⟩) hok hg
def Inv.turned(I:Inv X pins σ H s)(k:∀b o,b≠it->s.heap.get? b=some o->h'.get? b=some o)(hn:H it=none)(hL:it≠X.env.locals)
  (h1:it∈X.ex\/X.s₀.heap.objs.size<=it) (h2:∀x c,X.env.cells.lookup x=some c->c≠it) (h3:∀p∈X.pn++pins,p.1≠it):Inv X pins σ H {s with heap:=h',toks:=t'}:=by
 have nit:∀b u,H b=some u->b≠it:=fun b u e z=>by rw[z,hn]at e;cases e
 refine I.step (g':=s.gens) (d':=s.drawn) (ch:=[it]) (fun b hb=>?_) (fun b o _ _ hc e _=>k b o (fun z=>hc (by simp[z])) e) (fun b o _ _ hc e _=>⟨o.slots,k b o (fun z=>hc (by simp[z])) e⟩) (fun _ _ _ _ n=>n)
  (fun b o hc e=>⟨o,k b o (fun z=>hc (by simp[z])) e⟩) (fun _ _ e=>e) (fun _ _ _ e=>e) (fun b ps e=>⟨#[],by rw[e];simp⟩) (fun m hm=>?_) (fun b u e=>?_) I.bare
 ·have e:b=it:=by simpa using hb
  subst e;exact⟨h1,hL,h2,h3⟩
 ·obtain⟨o,es,ep,ho,r⟩:=hm;exact⟨o,es,ep,k _ o (Ne.symm hL) ho,r⟩
 ·refine(I.hok b u e).stay (fun c v hc q=>k c v ?_ q) (fun _ q=>q) fun _ _ q=>q
  rcases hc with z|z
  ·rw[z];exact nit b u e
  ·exact nit c _ z
def Inv.tok(I:Inv X pins σ H s)(t:Nat):Inv X pins σ H {s with toks:=t}:=I.un (h':=s.heap) (t':=t) Un.refl I.hok
theorem Inv.kept(I:Inv X pins σ H s)(k:∀b u,s.heap.get? b=some u->h'.get? b=some u):Inv X pins σ H {s with heap:=h',toks:=t'}:=I.un (Un.kept k) (I.hok.kept k)
theorem Inv.laid(I:Inv X pins σ H s)(k:∀b u,s.heap.get? b=some u->h'.get? b=some u)(hp:s.heap.objs.size<=a)(new:za3 X.prog X.w (upd H a o) h' a o):
  Inv X pins σ (upd H a o) {s with heap:=h',toks:=t'}:=I.un (Un.laid k hp (I.hok.fresh hp)) (I.hok.laid k hp new)
theorem Inv.write(I:Inv X pins σ H s)(mu:Mut (H x))(he:e=x\/H e=some (.own x))(k:∀b u,b≠e->s.heap.get? b=some u->h'.get? b=some u)(heo:∃u,h'.get? e=some u)
  (new:za3 X.prog X.w (upd H x o) h' x o):Inv X pins σ (upd H x o) {s with heap:=h',toks:=t'}:=I.un (Un.write mu he k heo) (I.hok.write mu he k heo new)
def Inv.pins_of(I:Inv X pins σ H s)(h:∀p∈pins',s.heap.get? p.1=some p.2/\H p.1=none/\p.1≠X.env.locals/\p.1 ∉ X.fs/\∀v,p.2.data≠.cell v):Inv X pins' σ H s:=
 ⟨I.ok,I.os,I.bare,I.base,I.loc,I.cell,I.free,I.freeC,fun p hp=>(yaH.mp hp).elim (fun z=>I.pin p (ycF _ z)) (h p),I.hok,I.len⟩
def zgo{N:List Str}(hN:N.Nodup){i j:Nat}{x:Str}(a:N[i]?=some x)(b:N[j]?=some x):i=j:=by
 obtain⟨h1,e1⟩:=yan.mp a;obtain⟨h2,e2⟩:=yan.mp b;exact(List.getElem_inj hN).mp (e1.trans e2.symm)
def zgZ{M:Model}{A:Around}{E:Z5}{i:Nat}{x:Str}{v:V}{u:Value}{Q:Unit->Shared->Prop}(I:Inv X pins σ H s)(hN:X.N.Nodup)(hi:X.N[i]?=some x)(hx:Loc X.env.scope x)(r:zaV v u)
  (h:∀s',Inv X pins (σ.set i (some v)) H s'->(∃a,Heap.SameBut a s.heap s'.heap/\(a=X.env.locals\/X.env.cells.lookup x=some a))->Q () s') (hf:X.fn x=true\/X.env.scope.names.lookup x=some .local):wpAny M A (storeName X.env x u) Q E s:=by
 obtain⟨m,hn,hl⟩:=id I.loc
 have hcls:(X.env.scope.kind==.class||(X.env.scope.kind==.module&&X.env.locals != X.env.globals))=false:=by rw[I.ok.kind];rfl
 have hiσ:i<σ.length:=by rw[I.len];exact(yan.mp hi).1
 have cne:=I.cne
 have tracked:∀{a:Addr}{h':Heap},(∃o,s.heap.get? a=some o/\H a=none)->Heap.SameBut a s.heap h'->HOk X.prog X.w H h':=fun {a h'} ha hs b ob e=>by
  obtain⟨_,_,hfree⟩:=ha;refine(I.hok b ob e).stay (fun c w' hc q=>(hs.2 c ?_).trans q) (fun _ q=>q) fun _ _ q=>q
  rintro rfl
  rcases hc with rfl|hc
  ·rw[hfree]at e;cases e
  ·rw[hfree]at hc;cases hc
 rcases hx with hk|hk
 ·refine wpAny_storeName_local hk hn (fun h' hn' hs=>?_) hcls;obtain⟨oL,_,_,hoL,_⟩:=id hn;refine h _ ⟨I.ok,I.os,I.bare,⟨fun b o e n hb hx=>?_,fun b o e n hb hx=>?_,I.base.free,fun b o e hx=>?_,I.base.tups,I.base.frzs,I.base.tbls⟩,⟨_,hn',fun j y v' e1 e2 e3=>?_⟩,fun y c e=>?_,I.free,I.freeC,fun p hp=>?_,tracked ⟨oL,hoL,I.free⟩ hs,by simpa using I.len⟩ ⟨_,hs,.inl rfl⟩
  ·exact(hs.2 b (yay (yai (yao e) I.ok.above))).trans (I.base.keep b o e n hb hx)
  ·obtain⟨sl,e1⟩:=I.base.slot b o e n hb hx;exact⟨sl,(hs.2 b (yay (yai (yao e) I.ok.above))).trans e1⟩
  ·obtain⟨o',e1⟩:=I.base.there b o e hx;exact⟨o',(hs.2 b (yay (yai (yao e) I.ok.above))).trans e1⟩
  ·by_cases hj:j=i
   ·subst hj;rw[hi]at e1;cases e1;rw[yaC hiσ]at e2;cases e2;exact⟨u,r,.inl ⟨hk,by simp⟩⟩
   ·rw[yaQ (Ne.symm hj)]at e2;obtain⟨u',r',q⟩:=hl j y v' e1 e2 e3;refine⟨u',r',?_⟩
    rcases q with⟨k,e⟩|⟨k,c,e,z⟩
    ·refine .inl ⟨k,?_⟩;have:y≠x:=fun e=>hj (zgo hN e1 (e ▸ hi))
     simp[this,e]
    ·exact .inr ⟨k,c,e,z.sameBut hs (cne y c e)⟩
  ·obtain⟨w',z⟩:=I.cell y c e;exact⟨w',z.sameBut hs (cne y c e)⟩
  ·obtain⟨e,n,ne,nf,d⟩:=I.pin p hp;exact⟨(hs.2 p.1 ne).trans e,n,ne,nf,d⟩
 ·have hfn:X.fn x=true:=by
   rcases hf with z|z
   ·exact z
   ·rw[z]at hk;cases hk
  obtain⟨c,hc⟩:=I.ok.has x (.inl hk);obtain⟨w',z⟩:=I.cell x c hc;refine wpAny_storeName_cell I.ok.kind hk hc z (fun h' hc' hs=>?_);obtain⟨oc,hoc,hocd⟩:=id z;refine h {s with heap:=h'} ⟨I.ok,I.os,I.bare,⟨fun b o e n hb hx=>?_,fun b o e n hb hx=>?_,I.base.free,fun b o e hx=>?_,I.base.tups,I.base.frzs,I.base.tbls⟩,⟨m,hn.sameBut hs (Ne.symm (cne x c hc)),fun j y v' e1 e2 e3=>?_⟩,fun y c' e=>?_,I.free,I.freeC,fun p hp=>?_,tracked ⟨oc,hoc,I.freeC x c hc⟩ hs,by simpa using I.len⟩ ⟨c,hs,.inr hc⟩
  ·exact(hs.2 b (yay (yai (yao e) (I.ok.cab x c hfn hc)))).trans (I.base.keep b o e n hb hx)
  ·obtain⟨sl,e1⟩:=I.base.slot b o e n hb hx;exact⟨sl,(hs.2 b (yay (yai (yao e) (I.ok.cab x c hfn hc)))).trans e1⟩
  ·obtain⟨o',e1⟩:=I.base.there b o e hx;exact⟨o',(hs.2 b (yay (yai (yao e) (I.ok.cab x c hfn hc)))).trans e1⟩
  ·by_cases hj:j=i
   ·subst hj;rw[hi]at e1;cases e1;rw[yaC hiσ]at e2;cases e2;exact⟨u,r,.inr ⟨.inl hk,c,hc,hc'⟩⟩
   ·rw[yaQ (Ne.symm hj)]at e2;obtain⟨u',r',q⟩:=hl j y v' e1 e2 e3;refine⟨u',r',?_⟩
    rcases q with q|⟨k,c',e,z'⟩
    ·exact .inl q
    ·refine .inr ⟨k,c',e,z'.sameBut hs ?_⟩;rintro rfl;exact hj (zgo hN e1 (I.ok.inj _ _ _ e hc ▸ hi))
  ·by_cases hcc:c'=c
   ·subst hcc;exact⟨_,hc'⟩
   ·obtain⟨w2,z2⟩:=I.cell y c' e;exact⟨w2,z2.sameBut hs hcc⟩
  ·obtain⟨e,n,ne,nf,d⟩:=I.pin p hp;refine⟨(hs.2 p.1 ?_).trans e,n,ne,nf,d⟩;intro q;rw[q,hoc]at e;have q':oc=p.2:=Option.some.inj e;exact d w' (by rw[<-q'];exact hocd)
def zdq{M:Model}{A:Around}{E:Z5}{i:Nat}{x:Str}{v:V}{u:Value}{Q:Unit->Shared->Prop}(I:Inv X pins σ H s)(hN:X.N.Nodup)(hi:X.N[i]?=some x)(hx:Loc X.env.scope x)(r:zaV v u)
  (h:∀s',Inv X pins (σ.set i (some v)) H s'->Q () s') (hf:X.fn x=true\/X.env.scope.names.lookup x=some .local):wpAny M A (storeName X.env x u) Q E s:=
 zgZ I hN hi hx r (fun s' I' _=>h s' I') hf
def Inv.call'(I:Inv X pins σ H s)(ho:s'.os=s.os)(u:Un (frs X.stack) ch H H' s.heap s'.heap)(hok:HOk X.prog X.w H' s'.heap)(hg:AllBare s'.gens)
  (hch:∀b∈ch,(b∈X.ex\/X.s₀.heap.objs.size<=b)/\b≠X.env.locals/\(∀x c,X.env.cells.lookup x=some c->c≠b)/\∀p∈X.pn++pins,p.1≠b):Inv X pins σ H' s':=by
 obtain⟨h',g',d',t',o'⟩:=s';have e:o'=s.os:=ho;subst e;exact I.call (g':=g') (t':=t') (d':=d') u hok hg hch
end
noncomputable abbrev XK:=Value->Option Addr->Hp->Prop
noncomputable abbrev St:=List (Option V)
noncomputable abbrev VK:=V->Hp->Prop
noncomputable abbrev TE:=St->Hp->VK->Prop
noncomputable abbrev TT:=St->Hp->(Bool->Hp->Prop)->Prop
noncomputable abbrev TA:=St->Hp->(List V->Hp->Prop)->Prop
structure Ends where
 nx:St->Hp->Prop
 rt:VK
 bk:St->Hp->Prop:=fun _ _=>False
 ct:St->Hp->Prop:=fun _ _=>False
noncomputable abbrev TS:=Ends->St->Hp->Prop
noncomputable def EP(X:Cx)(pins:Z3)(σ:St)(Q:VK)(u:Value)(s':Shared):Prop:=∃v H',Inv X pins σ H' s'/\zaV v u/\Q v H'
noncomputable def TP(X:Cx)(pins:Z3)(σ:St)(Q:Bool->Hp->Prop)(b:Bool)(s':Shared):Prop:=∃H',Inv X pins σ H' s'/\Q b H'
noncomputable def AP(X:Cx)(pins:Z3)(σ:St)(Q:List V->Hp->Prop)(us:List Value)(s':Shared):Prop:=∃vs H',Inv X pins σ H' s'/\Vals vs us/\Q vs H'
noncomputable def SP(X:Cx)(pins:Z3)(D:Ends)(f:Flow)(s':Shared):Prop:=
 match f with
 |.next=>∃σ' H',Inv X pins σ' H' s'/\D.nx σ' H'|.brk=>∃σ' H',Inv X pins σ' H' s'/\D.bk σ' H'|.cont=>∃σ' H',Inv X pins σ' H' s'/\D.ct σ' H'|.ret u=>∃v σ' H',Inv X pins σ' H' s'/\zaV v u/\D.rt v H'
noncomputable def PE(X:Cx)(e:Expr)(t:TE):Prop:=
 ∀(pins:Z3) (s:Shared) (σ:St) (H:Hp) (Q:VK),Inv X pins σ H s->t σ H Q->wpAny (model X.prog X.w) X.A (eval e X.env) (EP X pins σ Q) X.xe s
noncomputable def PT(X:Cx)(e:Expr)(t:TT):Prop:=
 ∀(pins:Z3) (s:Shared) (σ:St) (H:Hp) (Q:Bool->Hp->Prop),Inv X pins σ H s->t σ H Q->wpAny (model X.prog X.w) X.A (isTrue e X.env (eval e X.env)) (TP X pins σ Q) X.xe s
noncomputable def PW(X:Cx)(e:Expr)(t:TT):Prop:=
 ∀(whole:Sem Value) (pins:Z3) (s:Shared) (σ:St) (H:Hp) (Q:Bool->Hp->Prop),Inv X pins σ H s->t σ H Q->wpAny (model X.prog X.w) X.A (isTrue e X.env whole) (TP X pins σ Q) X.xe s
def PW.pt(h:PW X e t):PT X e t:=h _
noncomputable def PA(X:Cx)(es:List Expr)(t:TA):Prop:=
 ∀(pos:Pos) (pins:Z3) (s:Shared) (σ:St) (H:Hp) (Q:List V->Hp->Prop),Inv X pins σ H s->t σ H Q->wpAny (model X.prog X.w) X.A (spliced (backTo pos (starEach es X.env))) (AP X pins σ Q) X.xe s
noncomputable def PS(X:Cx)(st:Stmt)(t:TS):Prop:=
 ∀(pins:Z3) (s:Shared) (σ:St) (H:Hp) (D:Ends),Inv X pins σ H s->t D σ H->wpAny (model X.prog X.w) X.A (exec st X.env) (SP X pins D) X.xe s
noncomputable def PSs(X:Cx)(st:List Stmt)(t:TS):Prop:=
 ∀(pins:Z3) (s:Shared) (σ:St) (H:Hp) (D:Ends),Inv X pins σ H s->t D σ H->wpAny (model X.prog X.w) X.A (execs st X.env) (SP X pins D) X.xe s
def thn{α:Type}{t:Sem α}{Q Q':α->Shared->Prop}(h:wpAny M A t Q E s)(hQ:∀a s,Q a s->Q' a s):wpAny M A t Q' E s:=yaV h hQ fun _ _ x=>x
section
variable{X:Cx}
noncomputable def zuO(i:Nat):TE:=fun σ H Q=>∃v,σ[i]?=some (some v)/\Q v H
noncomputable def tC(v:V):TE:=fun _ H Q=>Q v H
def za0{i:Nat}{x:Str}{pos:Pos}(hN:X.N[i]?=some x)(hv:Vis X.env.scope x)(hd:autoParam ((x==("__debug__":Str))=false) yAR)(hcd:autoParam ((x==("__classdict__":Str))=false) yAR):PE X (.Name x pos) (zuO i):=by
 intro pins s σ H Q I h;obtain⟨v,e,h⟩:=h;obtain⟨m,hn,hl⟩:=I.loc;obtain⟨u,r,l⟩:=hl i x v hN e hv;have fin:EP X pins σ Q u s:=⟨v,H,I,r,h⟩
 rcases l with⟨hk,hm⟩|⟨hk,c,hc,hcell⟩
 ·exact wpAny_Name (wpAny_loadName_local I.ok.kind hk hn hm fin) hd
 ·rcases hk with hk|hk
  ·exact wpAny_Name (wpAny_loadName_cell I.ok.kind hk hc hcell fin) hd
  ·exact wpAny_Name (wpAny_loadName_free I.ok.kind hk hc hcell fin hcd) hd
def zoM{i j pos}:PE X (.Constant (.int i) j pos) (tC (.int i)):=fun _ _ _ H _ I h=>wpAny_Constant_int ⟨.int i,H,I.tok _,⟨_,rfl⟩,h⟩
def zqq{b j pos}:PE X (.Constant (.bool b) j pos) (tC (.bl b)):=fun _ _ _ H _ I h=>Constant_bool ⟨.bl b,H,I,rfl,h⟩
def zoK{j pos}:PE X (.Constant .none j pos) (tC .non):=fun _ _ _ H _ I h=>Constant_none ⟨.non,H,I,rfl,h⟩
def zoJ{x j pos}:PE X (.Constant (.str x) j pos) (tC (.str x)):=fun _ _ _ H _ I h=>Calls.Constant_str ⟨.str x,H,I.tok _,⟨_,rfl⟩,h⟩
noncomputable def Gl(X:Cx)(x:Str):Prop:=X.env.kindOf x=some .globalImplicit
def zda{E:Z5}{pins:Z3}{s:Shared}{σ:St}{H:Hp}{x:Str}{u:Value}{pos:Pos}{Q:Z5}(I:Inv X pins σ H s)(hg:Gl X x)(hm:X.mg x=some u)(h:Q u s)
  (hd:autoParam ((x==("__debug__":Str))=false) yAR):wpAny (model X.prog X.w) X.A (eval (.Name x pos) X.env) Q E s:=
 Calls.Name_function_global I.ok.kind hg (Calls.loadGlobal_global (by rw[I.ok.glob];exact I.mod.glob.keeps I.bk) hm h) hd
def zht{E:Z5}{pins:Z3}{s:Shared}{σ:St}{H:Hp}{x:Str}{u:Value}{pos:Pos}{Q:Z5}(I:Inv X pins σ H s)(hg:Gl X x)(hm:X.mg x=none)(hv:bootBuiltins x=some u)(h:Q u s)
  (hn:autoParam (x ≠ "__name__") yAR) (hd:autoParam ((x==("__debug__":Str))=false) yAR):wpAny (model X.prog X.w) X.A (eval (.Name x pos) X.env) Q E s:=by
 obtain⟨mb,h1,h2⟩:=I.mod.blt;exact Calls.Name_function_global I.ok.kind hg (Calls.loadGlobal_builtin (by rw[I.ok.glob];exact I.mod.glob.keeps I.bk) hm (by rw[I.ok.blt];exact h1.keeps I.bk) ((h2 x hn).trans hv) h) hd
def zie{x:Str}{v:V}{u:Value}{pos:Pos}(hg:Gl X x)(hm:X.mg x=some u)(r:zaV v u)(hd:autoParam ((x==("__debug__":Str))=false) yAR):PE X (.Name x pos) (tC v):=
 fun _ _ _ H _ I h=>zda I hg hm ⟨v,H,I,r,h⟩ hd
def zlp{x:Str}{v:V}{u:Value}{pos:Pos}(hg:Gl X x)(hm:X.mg x=none)(hv:bootBuiltins x=some u)(r:zaV v u)(hn:autoParam (x ≠ "__name__") yAR)(hd:autoParam ((x==("__debug__":Str))=false) yAR):PE X (.Name x pos) (tC v):=
 fun _ _ _ H _ I h=>zht I hg hm hv ⟨v,H,I,r,h⟩ hn hd
variable{a b:Expr}{ta tb:TE}{pos:Pos}
noncomputable def PC(X:Cx)(op:CmpOp)(a b:Expr)(t:TE):Prop:=
 ∀(pins:Z3) (s:Shared) (σ:St) (H:Hp) (Q:VK),Inv X pins σ H s->t σ H Q →
  wpAny (model X.prog X.w) X.A (eval a X.env) (fun v s₁=>wpAny (model X.prog X.w) X.A (eval b X.env) (fun u s₂=>wpAny (model X.prog X.w) X.A (compareOp op v u) (EP X pins σ Q) X.xe s₂) X.xe s₁) X.xe s
def zuk(b:Expr){op:CmpOp}(h:op≠.In)(h2:op≠.NotIn):behindInMarks op b=false:=by
 have e1:(op==CmpOp.In)=false:=by cases op<;>first|rfl|exact absurd rfl h
 have e2:(op==CmpOp.NotIn)=false:=by cases op<;>first|rfl|exact absurd rfl h2
 cases b<;>simp[behindInMarks,e1,e2]
noncomputable def tB(t:TE):TT:=fun σ H Q=>t σ H fun x H1=>∃c,x=.bl c/\Q c H1
def zoN{op:CmpOp}{t:TE}(h:PC X op a b t)(h1:behindInMarks op b=false):PE X (.Compare a [op] [b] pos) t:=fun pins s σ H Q I hw=>wpAny_Compare1 (h pins s σ H Q I hw) h1
def zoF{op:CmpOp}{t:TE}(h:PC X op a b t)(h1:behindInMarks op b=false):PT X (.Compare a [op] [b] pos) (tB t):=by
 intro pins s σ H Q I hw;refine wpAny_isTrue_Compare1 (thn (h pins s σ H _ I hw) fun v s1 h1=>thn h1 fun u s2 h2=>thn h2 fun c s3 ⟨x,H1,I1,r1,q1⟩=>?_) h1;obtain⟨d,rfl,q⟩:=q1;cases r1;exact yaX ⟨H1,I1,q⟩
def zsk{e:Expr}{t:TE}(h:PE X e t)(he:autoParam (∀whole,isTrue e X.env whole=(do let v ← whole;standAt e.pos;holding [v] (truthy v))) yAU):PT X e (tB t):=by
 intro pins s σ H Q I hw;refine isTrue_plain (thn (h pins s σ H _ I hw) fun v s1 ⟨x,H1,I1,r1,q1⟩=>?_) (he _);obtain⟨d,rfl,q⟩:=q1;cases r1;exact yaX ⟨H1,I1,q⟩
variable{tA tB':TT}{zbR:List Expr}
noncomputable def zwF(t u:TT):TT:=fun σ H Q=>t σ H fun c H1=>if c=true then u σ H1 Q else Q false H1
noncomputable def tOr(t u:TT):TT:=fun σ H Q=>t σ H fun c H1=>if c=true then Q true H1 else u σ H1 Q
noncomputable def zwD(t:TT):TT:=fun σ H Q=>t σ H fun c H1=>Q (!c) H1
def zp6(ha:PT X a tA):PW X (.BoolOp .And [a] pos) tA:=by
 intro wh pins s σ H Q I h;refine isTrue_and (thn (ha pins s σ H Q I h) fun c s1 e=>?_)
 cases c with
 |true=>exact isTrue_and_nil e|false=>exact e
def zoD(ha:PT X a tA):PW X (.BoolOp .Or [a] pos) tA:=by
 intro wh pins s σ H Q I h;refine isTrue_or (thn (ha pins s σ H Q I h) fun c s1 e=>?_)
 cases c with
 |false=>exact isTrue_or_nil e|true=>exact e
def zsj(ha:PT X a tA)(hb:PW X (.BoolOp .And (b::zbR) pos) tB'):PW X (.BoolOp .And (a::b::zbR) pos) (zwF tA tB'):=by
 intro wh pins s σ H Q I h;refine isTrue_and (thn (ha pins s σ H _ I h) fun c s1 ⟨H1,I1,q1⟩=>?_)
 cases c with
 |true=>exact hb wh pins s1 σ H1 Q I1 q1|false=>exact⟨H1,I1,q1⟩
def zvb(ha:PT X a tA)(hb:PW X (.BoolOp .Or (b::zbR) pos) tB'):PW X (.BoolOp .Or (a::b::zbR) pos) (tOr tA tB'):=by
 intro wh pins s σ H Q I h;refine isTrue_or (thn (ha pins s σ H _ I h) fun c s1 ⟨H1,I1,q1⟩=>?_)
 cases c with
 |true=>exact⟨H1,I1,q1⟩|false=>exact hb wh pins s1 σ H1 Q I1 q1
def zsl(ha:PT X a tA):PT X (.UnaryOp .Not a pos) (zwD tA):=by
 intro pins s σ H Q I h;exact isTrue_not (ha pins s σ H (fun c H1=>Q (!c) H1) I h)
noncomputable def zuX(ta tb:TE):TE:=fun σ H Q=>ta σ H fun x H1=>∃c,x=.bl c/\if c=true then tb σ H1 Q else Q (.bl false) H1
noncomputable def zx2(ta tb:TE):TE:=fun σ H Q=>ta σ H fun x H1=>∃c,x=.bl c/\if c=true then Q (.bl true) H1 else tb σ H1 Q
noncomputable def zuP(ta:TE):TE:=fun σ H Q=>ta σ H fun x H1=>∃c,x=.bl c/\Q (.bl (!c)) H1
def zst{op}(h:PE X a t):PE X (.BoolOp op [a] pos) t:=fun pins s σ H Q I hw=>BoolOp_one (h pins s σ H Q I hw)
def zsx(ha:PE X a ta)(hb:PE X (.BoolOp .And (b::zbR) pos) tb):PE X (.BoolOp .And (a::b::zbR) pos) (zuX ta tb):=by
 intro pins s σ H Q I h;refine BoolOp_and (thn (ha pins s σ H _ I h) fun v s1 ⟨x,H1,I1,r1,q1⟩=>?_);obtain⟨c,rfl,q1⟩:=q1;cases r1;refine yaX ?_
 cases c with
 |true=>exact hb pins s1 σ H1 Q I1 q1|false=>exact⟨.bl false,H1,I1,rfl,q1⟩
def zvf(ha:PE X a ta)(hb:PE X (.BoolOp .Or (b::zbR) pos) tb):PE X (.BoolOp .Or (a::b::zbR) pos) (zx2 ta tb):=by
 intro pins s σ H Q I h;refine BoolOp_or (thn (ha pins s σ H _ I h) fun v s1 ⟨x,H1,I1,r1,q1⟩=>?_);obtain⟨c,rfl,q1⟩:=q1;cases r1;refine yaX ?_
 cases c with
 |false=>exact hb pins s1 σ H1 Q I1 q1|true=>exact⟨.bl true,H1,I1,rfl,q1⟩
def zsu(ha:PE X a ta):PE X (.UnaryOp .Not a pos) (zuP ta):=by
 intro pins s σ H Q I h;refine UnaryOp_ (thn (ha pins s σ H _ I h) fun v s1 ⟨x,H1,I1,r1,q1⟩=>?_);obtain⟨c,rfl,q1⟩:=q1;cases r1;exact not_of (yaX ⟨.bl (!c),H1,I1,rfl,q1⟩)
noncomputable def tIf(t:TT)(ta tb:TE):TE:=fun σ H Q=>t σ H fun c H1=>if c=true then ta σ H1 Q else tb σ H1 Q
def znq(hc:PT X c tA)(ha:PE X a ta)(hb:PE X b tb):PE X (.IfExp c a b pos) (tIf tA ta tb):=by
 intro pins s σ H Q I h;refine wpAny_IfExp (thn (hc pins s σ H _ I h) fun d s1 ⟨H1,I1,q1⟩=>?_)
 cases d with
 |true=>exact ha pins s1 σ H1 Q I1 q1|false=>exact hb pins s1 σ H1 Q I1 q1
end
noncomputable def SqL(K:PySem.W.Frag)(H:Hp)(a:Addr)(xs:List V):Prop:=
 Rd H a (.lst xs) ∨
  ∃(o:Obj) (its:Array Value) (n:Nat),K.lookup a=some o/\o.cls=.type "list" /\ o.dict=none/\o.data=.seq its n/\its.size<=sizeLine/\Vals xs its.toList
noncomputable def SqT(K:PySem.W.Frag)(H:Hp)(a:Addr)(xs:List V):Prop:=
 Rd H a (.tup xs) ∨
  ∃(o:Obj) (its:Array Value) (n:Nat),K.lookup a=some o/\o.cls=.type "tuple" /\ o.data=.seq its n/\its.size<=sizeLine/\Vals xs its.toList
noncomputable def zzn:Value->Option V
 |.none=>some .non|.bool b=>some (.bl b)|.int i _=>some (.int i)|.str x _=>some (.str x)|.bytes b _=>some (.byt b)|.float b _=>some (.flt b)|.ref a=>some (.ref a)|.type n=>some (.ty n)|_=>none
def zaV.abs(r:zaV x u):zzn u=some x:=by
 cases x with
 |non=>cases r;rfl|bl _=>cases r;rfl|int _=>obtain⟨t,rfl⟩:=r;rfl|str _=>obtain⟨t,rfl⟩:=r;rfl|byt _=>obtain⟨t,rfl⟩:=r;rfl|flt _=>obtain⟨t,rfl⟩:=r;rfl|ref _=>cases r;rfl|ty _=>cases r;rfl
theorem zaV.inj(r:zaV x u)(q:zaV y u):x=y:=Option.some.inj (r.abs.symm.trans q.abs)
theorem Vals.inj:∀{xs ys:List V}{us:List Value},Vals xs us->Vals ys us->xs=ys
 |_,_,_,.nil,.nil=>rfl|_,_,_,.cons r t,.cons r' t'=>by rw[r.inj r',Vals.inj t t']
section
variable{X:Cx}{pins:Z3}{σ:St}{H:Hp}{s:Shared}{a:Addr}{xs ys:List V}
def SqL.of{K:PySem.W.Frag}(h:H a=some (.lst xs)):SqL K H a xs:=.inl (.inl h)
def SqT.of{K:PySem.W.Frag}(h:H a=some (.tup xs)):SqT K H a xs:=.inl (.inl h)
theorem Inv.list(I:Inv X pins σ H s)(h:SqL X.K H a xs):∃its:List Value,Vals xs its/\PlainL s.heap a its.toArray/\xs.length<=sizeLine:=by
 rcases h with h|⟨o,its,n,hk,hc,hd,hs,hz,r⟩
 ·obtain⟨z,its,n,r,e⟩:=h.ok I.hok;exact⟨its,r,⟨_,n,e,rfl,rfl,rfl⟩,z⟩
 ·refine⟨its.toList,r,⟨o,n,I.kIn a o hk,hc,hd,by simpa using hs⟩,?_⟩;have e:=r.length;simp only[ya5]at e;omega
def Inv.tuple(I:Inv X pins σ H s)(h:SqT X.K H a xs):∃its:List Value,Vals xs its/\IsTup s.heap a its.toArray/\xs.length<=sizeLine:=by
 rcases h with h|⟨o,its,n,hk,hc,hs,hz,r⟩
 ·obtain⟨z,its,r,p⟩:=h.ok I.hok;exact⟨its,r,p.t,z⟩
 ·refine⟨its.toList,r,⟨o,I.kIn a o hk,hc,n,by simpa using hs⟩,?_⟩;have e:=r.length;simp only[ya5]at e;omega
def Inv.list_inj(I:Inv X pins σ H s)(h:SqL X.K H a xs)(h':SqL X.K H a ys):xs=ys:=by
 obtain⟨its,r,⟨o,n,e,_,_,d⟩,_⟩:=I.list h;obtain⟨its',r',⟨o',n',e',_,_,d'⟩,_⟩:=I.list h';rw[e]at e';cases e';rw[d]at d'
 injection d' with d1 _
 have:its=its':=by simpa using congrArg Array.toList d1
 subst this;exact r.inj r'
def Inv.tuple_inj(I:Inv X pins σ H s)(h:SqT X.K H a xs)(h':SqT X.K H a ys):xs=ys:=by
 obtain⟨its,r,⟨o,e,_,n,d⟩,_⟩:=I.tuple h;obtain⟨its',r',⟨o',e',_,n',d'⟩,_⟩:=I.tuple h';rw[e]at e';cases e';rw[d]at d'
 injection d' with d1 _
 have:its=its':=by simpa using congrArg Array.toList d1
 subst this;exact r.inj r'
end
section
variable{X:Cx}{st:Stmt}{zbR:List Stmt}{t u:TS}{e:Expr}{te:TE}{pos:Pos}
noncomputable def zuQ:TS:=fun D σ H=>D.nx σ H
noncomputable def zx1(t u:TS):TS:=fun D σ H=>t {D with nx:=u D} σ H
def zqa:PSs X [] zuQ:=fun _ _ σ H _ I h=>ycJ ⟨σ,H,I,h⟩
def znh(h1:PS X st t)(h2:PSs X zbR u):PSs X (st::zbR) (zx1 t u):=by
 intro pins s σ H D I h;refine wpAny_execs_cons (thn (h1 pins s σ H {D with nx:=u D} I h) fun f s1 q=>?_)
 cases f with
 |next=>
  obtain⟨σ',H',I',q⟩:=q;exact h2 pins s1 σ' H' D I' q
 |ret v=>exact q|brk=>exact q|cont=>exact q
def zic(h1:PS X st t):PSs X [st] t:=by
 intro pins s σ H D I h;refine wpAny_execs_cons (thn (h1 pins s σ H D I h) fun f s1 q=>?_)
 cases f with
 |next=>exact ycJ q|ret v=>exact q|brk=>exact q|cont=>exact q
def Inv.quiet(I:Inv X pins σ H s):interactive X.env=false:=by simp[interactive,I.ok.kind]
noncomputable def zuU(te:TE):TS:=fun D σ H=>te σ H fun _ H1=>D.nx σ H1
def ze2(he:PE X e te)(hs:autoParam (swapsWith e none pos.line X.env=pure false) yAW):PS X (.Expr e pos) (zuU te):=by
 intro pins s σ H D I h;exact wpAny_Expr_any (thn (he pins s σ H _ I h) fun v s1 ⟨x,H1,I1,r1,q1⟩=>⟨σ,H1,I1,q1⟩) I.quiet hs
noncomputable def zrA(te:TE):TS:=fun D σ H=>te σ H D.rt
def zhh(he:PE X e te):PS X (.Return (some e) pos) (zrA te):=by
 intro pins s σ H D I h;exact wpAny_Return_some (thn (he pins s σ H _ I h) fun v s1 ⟨x,H1,I1,r1,q1⟩=>⟨x,σ,H1,I1,r1,q1⟩)
noncomputable def zx5(c:TT)(t u:TS):TS:=fun D σ H=>c σ H fun b H1=>if b=true then t D σ H1 else u D σ H1
def zvc(hc:PT X c tc)(ha:PSs X a t)(hb:PSs X b u):PS X (.If c a b pos) (zx5 tc t u):=by
 intro pins s σ H D I h;refine wpAny_If (thn (hc pins s σ H _ I h) fun d s1 ⟨H1,I1,q1⟩=>?_)
 cases d with
 |true=>exact ha pins s1 σ H1 D I1 q1|false=>exact hb pins s1 σ H1 D I1 q1
end
noncomputable abbrev TG:=V->St->Hp->(St->Hp->Prop)->Prop
noncomputable abbrev TGs:=List V->St->Hp->(St->Hp->Prop)->Prop
noncomputable def PG(X:Cx)(target:Expr)(t:TG):Prop:=
 ∀(pins:Z3) (s:Shared) (σ:St) (H:Hp) (v:V) (u:Value) (Q:St->Hp->Prop),Inv X pins σ H s->zaV v u->t v σ H Q →
  wpAny (model X.prog X.w) X.A (assign target X.env u) (fun _ s'=>∃σ' H',Inv X pins σ' H' s'/\Q σ' H') X.xe s
noncomputable def PGs(X:Cx)(ts:List Expr)(t:TGs):Prop:=
 ∀(pins:Z3) (s:Shared) (σ:St) (H:Hp) (vs:List V) (us:List Value) (Q:St->Hp->Prop),Inv X pins σ H s->Vals vs us->t vs σ H Q →
  wpAny (model X.prog X.w) X.A (assignInOrder ((assignEach ts X.env).map (·.2)) us) (fun _ s'=>∃σ' H',Inv X pins σ' H' s'/\Q σ' H') X.xe s
noncomputable abbrev zkg:=V->V->V->Hp->(Hp->Prop)->Prop
noncomputable def zxu(X:Cx)(t:zkg):Prop:=
 ∀(pins:Z3) (s:Shared) (σ:St) (H:Hp) (o i v:V) (ov iv u:Value) (Q:Hp->Prop),Inv X pins σ H s->zaV o ov->zaV i iv->zaV v u->t o i v H Q →
  wpAny (model X.prog X.w) X.A (setItem ov iv u) (fun _ s'=>∃H',Inv X pins σ H' s'/\Q H') X.xe s
section
variable{X:Cx}{pos:Pos}
noncomputable def zl7(i:Nat):TG:=fun v σ H Q=>Q (σ.set i (some v)) H
def zll{i:Nat}{x:Str}(hN:X.N.Nodup)(hi:X.N[i]?=some x)(hx:Loc X.env.scope x)(hf:X.fn x=true\/X.env.scope.names.lookup x=some .local):PG X (.Name x pos) (zl7 i):=by
 intro pins s σ H v u Q I r h;exact wpAny_assign_Name (zdq I hN hi hx r (fun s' I'=>⟨_,H,I',h⟩) hf)
noncomputable def zy9:TGs:=fun vs σ H Q=>vs=[]/\Q σ H
noncomputable def zvO(t:TG)(u:TGs):TGs:=fun vs σ H Q=>∃v r,vs=v::r/\t v σ H fun σ' H'=>u r σ' H' Q
def zqm:PGs X [] zy9:=by
 intro pins s σ H vs us Q I r h;obtain⟨e,h⟩:=h;subst e;cases r;exact assignInOrder_nil ⟨σ,H,I,h⟩
def znm{e:Expr}{es:List Expr}{t:TG}{u:TGs}(h1:PG X e t)(h2:PGs X es u)
  (hs:autoParam ((assignEach (e::es) X.env).map (·.2)=assign e X.env::(assignEach es X.env).map (·.2)) yAW):PGs X (e::es) (zvO t u):=by
 intro pins s σ H vs us Q I r h;obtain⟨v,vr,e1,h⟩:=h;subst e1
 cases r with
 |cons r rr=>
  rw[hs];refine ycQ (thn (h1 pins s σ H _ _ _ I r h) fun _ s1 ⟨σ1,H1,I1,q1⟩=>?_);exact h2 pins s1 σ1 H1 _ _ Q I1 rr q1
noncomputable def zy7(K:PySem.W.Frag)(n:Nat)(t:TGs):TG:=fun v σ H Q=>∃a xs,v=.ref a/\SqT K H a xs/\xs.length=n/\t xs σ H Q
def zsr{es:List Expr}{k:Nat}{t:TGs}{n:Nat}(hc:X.calm=true)(h:PGs X es t)
  (hn:autoParam ((assignEach es X.env).length=n) yAW) (hst:autoParam ((assignEach es X.env).findIdx? (·.1)=none) yAW):PG X (.Tuple es k pos) (zy7 X.K n t):=by
 intro pins s σ H v u Q I r hw;obtain⟨a,xs,e1,hq,hl,hw⟩:=hw;subst e1;cases r;obtain⟨its,rv,ht,hz⟩:=I.tuple hq;refine assign_Tuple_tuple (I.ok.hd hc) ht (by simp[hn,<-hl,rv.length]) hst fun h' hx=>?_
 have I1:Inv X pins σ H {s with heap:=h'}:=I.kept (t':=s.toks) fun b o e=>hx b o (yay (yao e)) e
 exact h pins _ σ H xs _ Q I1 (by simpa using rv) hw
noncomputable def zy8(to ti:TE)(t:zkg):TG:=fun v σ H Q=>to σ H fun o H1=>ti σ H1 fun i H2=>t o i v H2 fun H3=>Q σ H3
def zss{o i:Expr}{to ti:TE}{t:zkg}(ho:PE X o to)(hi:PE X i ti)(hs:zxu X t)
  (ha:autoParam (∀v,assign (.Subscript o i pos) X.env v=(do
   let ov ← holding [v] (eval o X.env)
   let iv ← holding [v,ov] (eval i X.env)
   standAt pos
   holding [v,ov,iv] (setItem ov iv v)
   release [v,ov,iv] [])) yAU):PG X (.Subscript o i pos) (zy8 to ti t):=by
 intro pins s σ H v u Q I r h;rw[ha];refine yac (ybb (thn (ho pins s σ H _ I h) fun ov s1 ⟨x,H1,I1,r1,q1⟩=>?_));refine yac (ybb (thn (hi pins s1 σ H1 _ I1 q1) fun iv s2 ⟨y,H2,I2,r2,q2⟩=>?_));refine yac (yc1 (yac (ybb (thn (hs pins s2 σ H2 x y v ov iv u _ I2 r1 r2 r q2) fun _ s3 ⟨H3,I3,q3⟩=>?_))));exact wpAny_release ⟨σ,H3,I3,q3⟩
noncomputable def zrm(te:TE)(g:TG):TS:=fun D σ H=>te σ H fun x H1=>g x σ H1 D.nx
def zoH{tg e:Expr}{te:TE}{g:TG}(he:PE X e te)(hg:PG X tg g)(hs:autoParam (swapsWithSole [tg] e pos.line X.env=pure false) yAW)(hw:autoParam (swappedStores [tg] e X.env=pure none) yAW)
  (h1:autoParam ((assignEach [tg] X.env).map (·.2)=[assign tg X.env]) yAW):PS X (.Assign [tg] e pos) (zrm te g):=by
 intro pins s σ H D I h;refine wpAny_Assign_stores (thn (he pins s σ H _ I h) fun v s1 ⟨x,H1,I1,r1,q1⟩=>?_) hs hw;rw[h1];exact thn (hg pins s1 σ H1 x v _ I1 r1 q1) fun _ s2 q=>q
def zoG{i:Nat}{x:Str}{e:Expr}{te:TE}{pos':Pos}(hN:X.N.Nodup)(hi:X.N[i]?=some x)(hx:Loc X.env.scope x)(he:PE X e te)(hs:autoParam (swapsWith e (some (.Name x pos')) pos.line X.env=pure false) yAW)(hf:X.fn x=true\/X.env.scope.names.lookup x=some .local):
  PS X (.Assign [.Name x pos'] e pos) (zrm te (zl7 i)):=by
 intro pins s σ H D I h;refine wpAny_Assign_Name (thn (he pins s σ H _ I h) fun v s1 ⟨y,H1,I1,r1,q1⟩=>?_) hs;exact zdq I1 hN hi hx r1 (fun s2 I2=>⟨_,H1,I2,q1⟩) hf
noncomputable def zwC(i j:Nat)(ta:TA):TS:=fun D σ H=>ta σ H fun vs H1=>∃v w,vs=[v,w]/\D.nx ((σ.set i (some v)).set j (some w)) H1
def zsm{i j:Nat}{x y:Str}{a b:Expr}{ta:TA}{px py pt:Pos}{kt k2 pt2}(hc:X.calm=true)(hN:X.N.Nodup)(hi:X.N[i]?=some x)(hj:X.N[j]?=some y)(hij:i≠j)
  (hx:X.env.scope.names.lookup x=some .local) (hy:X.env.scope.names.lookup y=some .local) (ha:PA X [a,b] ta)
  (hw:swappedStores [.Tuple [.Name x px,.Name y py] kt pt] (.Tuple [a,b] k2 pt2) X.env=pure (some [x,y]))
  (hs:autoParam (swapsWithSole [.Tuple [.Name x px,.Name y py] kt pt] (.Tuple [a,b] k2 pt2) pos.line X.env=pure false) yAW):
  PS X (.Assign [.Tuple [.Name x px,.Name y py] kt pt] (.Tuple [a,b] k2 pt2) pos) (zwC i j ta):=by
 intro pins s σ H D I h;rw[exec_Assign_arm];refine yac (yc1 ?_);rw[hs];refine yac (yap ?_);rw[if_neg (by decide)];refine yac (Tuple_ (thn (ha _ pins s σ H _ I h) fun us s1 ⟨vs,H1,I1,r1,q1⟩=>?_));obtain⟨v,w,e1,q1⟩:=q1;subst e1
 obtain⟨u1,u2,rfl,rv,rw'⟩:∃u1 u2,us=[u1,u2]/\zaV v u1/\zaV w u2:=by
  cases r1 with
  |cons p q=>
   cases q with
   |cons p' q'=>
    cases q';exact⟨_,_,rfl,p,p'⟩
 refine ycp ?_ (by show 2<=sizeLine;decide);have I2:Inv X pins σ H1 {s1 with heap:=s1.heap.push {cls:=.type "tuple",data:=.seq [u1,u2].toArray}}:=I1.kept (t':=s1.toks) fun b o e=>yaf _ e
 rw[hw];refine yac (yap ?_);show wpAny (model X.prog X.w) X.A (do rule "assign.swapped-stores";let items ← unpackItems (.ref s1.heap.objs.size) 2 none;assignInOrder [fun v=>bindName X.env y v,fun v=>bindName X.env x v] items.reverse;pure Flow.next) _ _ _;refine yac (wpAny_rule (yac (unpackItems_tuple (items:=#[u1,u2]) (I.ok.hd hc) (IsTup.new s1.heap _) fun h' hx'=>?_)));have I3:=I2.kept (h':=h') (t':=s1.toks) fun b o e=>hx' b o (yay (yao e)) e
 show wpAny _ _ (assignInOrder [fun v=>bindName X.env y v,fun v=>bindName X.env x v] [u2,u1] >>= fun _=>pure Flow.next) _ _ _;refine yac (ycQ (wpAny_bindName (zdq I3 hN hj (.inl hy) rw' (fun s2 I4=>?_) (.inr hy))));refine ycQ (wpAny_bindName (zdq I4 hN hi (.inl hx) rv (fun s3 I5=>assignInOrder_nil (yap ?_)) (.inr hx)));rw[List.set_comm _ _ (Ne.symm hij)]at I5;exact⟨_,H1,I5,q1⟩
end
structure It where
 go:Nat->Hp->Prop
 yld:Nat->Hp->V->Hp->Prop
 stop:Nat->Hp->Prop
noncomputable def zmH(X:Cx)(pins:Z3)(H:Hp)(b:Addr):Prop:=
 H b=none/\b≠X.env.locals/\b ∉ X.fs/\(b∈X.ex\/X.s₀.heap.objs.size<=b)/\(∀x c,X.env.cells.lookup x=some c->c≠b)/\∀p∈X.pn++pins,p.1≠b
def Inv.fpOk(I:Inv X pins σ H s)(hb:s.heap.objs.size<=b)(hn:H' b=none):zmH X pins H' b:=by
 refine⟨hn,yaU (yai I.lt hb),I.nofs hb,.inr (yas I.sz hb),fun x c e z=>?_,fun p hp z=>?_⟩
 ·obtain⟨v,q⟩:=I.cell x c e;exact absurd (yai q.lt (by rw[z];exact hb)) (yaR _)
 ·exact absurd (yai (yao (I.pin p hp).1) (by rw[z];exact hb)) (yaR _)
structure Turn(P:Program)(w:World)(K:PySem.W.Frag)(tg:Expr)(J:It)(fp:List Addr)(it:Addr)(tn:Nat->Heap->Prop):Prop where
 mem:it∈fp
 obj:∀i h,tn i h->∀b∈fp,∃o,h.get? b=some o/\∀v,o.data≠.cell v
 keep:∀i h h',tn i h->(∀b∈fp,∀o,h.get? b=some o->h'.get? b=some o)->tn i h'
 item:∀(X:Cx),X.prog=P->X.w=w->X.K=K->X.calm=true->∀(i:Nat) (pins:Z3) (s:Shared) (σ:St) (H:Hp) (E:Z5),Inv X pins σ H s->(∀b∈fp,zmH X pins H b)->tn i s.heap->J.go i H →
  wpAny (model P w) X.A (pyNext (.ref it)) (fun r s1=>∃u,r=some u ∧
   wpAny (model P w) X.A (letOwnedTupleGo tg (.ref it) u) (fun _ s2=>∃x H',Inv X pins σ H' s2/\zaV x u/\J.yld i H x H'/\tn (i+1) s2.heap/\∀b∈fp,H' b=none) E s1) E s
 done:∀(X:Cx),X.prog=P->X.w=w->X.K=K->X.calm=true->∀(i:Nat) (pins:Z3) (s:Shared) (σ:St) (H:Hp) (E:Z5),Inv X pins σ H s->(∀b∈fp,zmH X pins H b)->tn i s.heap->J.stop i H →
  wpAny (model P w) X.A (pyNext (.ref it)) (fun r s1=>r=none/\Inv X pins σ H s1) E s
 self:∀(A:Around) (i:Nat) (s:Shared) (Q:Z5) (E:Z5),tn i s.heap->Q (.ref it) s->wpAny (model P w) A (pyIter (.ref it)) Q E s
noncomputable abbrev TI:=St->Hp->(It->Hp->Prop)->Prop
noncomputable def PIE(X:Cx)(pins:Z3)(σ:St)(tg:Expr)(R:It->Hp->Prop)(itv:Value)(s2:Shared):Prop:=
 ∃(it:Addr) (fp:List Addr) (tn:Nat->Heap->Prop) (J:It) (H':Hp),itv=.ref it/\Inv X pins σ H' s2/\Turn X.prog X.w X.K tg J fp it tn/\tn 0 s2.heap/\(∀b∈fp,zmH X pins H' b)/\R J H'
noncomputable def PI(X:Cx)(tg iter:Expr)(wi:TI):Prop:=
 ∀(pins:Z3) (s:Shared) (σ:St) (H:Hp) (R:It->Hp->Prop),Inv X pins σ H s->wi σ H R →
  wpAny (model X.prog X.w) X.A (eval iter X.env) (fun v s1=>wpAny (model X.prog X.w) X.A (pyIter v) (PIE X pins σ tg R) X.xe s1) X.xe s
def zl6 (ho : s.heap.get? it=some o) (hc : o.cls=.type n) (hd : o.data=.fields vs)
    (hn : ["enumerate", "zip", "dict_itemiterator", "dict_reverseitemiterator", "odict_iterator", "itertools.zip_longest", "itertools.pairwise"].contains n=false) (hQ : Q () s): wpAny M A (letOwnedTupleGo tg (.ref it) u) Q E s:= by
  unfold letOwnedTupleGo
  cases tg <;> first
    |exact yap hQ
    | (cases u <;> first
        |exact yap hQ
        | (refine yac (wpAny_load ho ?_)
           rw[hc, hd];show wpAny M A (if(["enumerate", "zip", "dict_itemiterator", "dict_reverseitemiterator", "odict_iterator", "itertools.zip_longest", "itertools.pairwise"].contains n && vs[0]?==some (rawInt _))=true then _ else _) Q E s;rw[if_neg (by intro h; rw[hn, Bool.false_and]at h; cases h)]
           exact yap hQ))
noncomputable def Itl(K:PySem.W.Frag)(a:Addr):It:=
 ⟨fun i H=>∃xs x,SqL K H a xs/\xs[i]?=some x,fun i H x H'=>H'=H/\∀xs,SqL K H a xs->xs[i]?=some x,fun i H=>∃xs,SqL K H a xs/\xs.length<=i⟩
noncomputable def Itt(K:PySem.W.Frag)(a:Addr):It:=
 ⟨fun i H=>∃xs x,SqT K H a xs/\xs[i]?=some x,fun i H x H'=>H'=H/\∀xs,SqT K H a xs->xs[i]?=some x,fun i H=>∃xs,SqT K H a xs/\xs.length<=i⟩
noncomputable def Itr(lo:Int)(n:Nat):It:=⟨fun i _=>i<n,fun i H x H'=>H'=H/\x=.int (lo+i),fun i _=>n<=i⟩
theorem zku{P:Program}{K:PySem.W.Frag}(a it:Addr):Turn P w K tg (Itl K a) [it] it (fun i h=>h.IsListIter it a i)where
 mem:=by simp
 obj:=fun i h st b hb=>by
  have e:b=it:=by simpa using hb
  subst e;obtain⟨o,e,c,d⟩:=st;exact⟨o,e,fun v z=>by rw[d]at z;cases z⟩
 keep:=fun i h h' st k=>st.at fun o e=>k it (by simp) o e
 item:=by
  intro X hP hw hK hc i pins s σ H E I hf st hg;subst hP hw hK;obtain⟨xs,x,hq,hx⟩:=hg;obtain⟨its,rv,p,hz⟩:=I.list hq;obtain⟨u,hu,ru⟩:=rv.get hx;obtain⟨f0,f1,f2,f3,f4,f5⟩:=hf it (by simp);refine wpAny_pyNext_list_item st p.isList (x:=u) (by simpa using hu) fun h' st' sb=>?_
  have I1:Inv X pins σ H {s with heap:=h'}:=I.turned (t':=s.toks) (fun b o hb e=>(sb.2 b hb).trans e) f0 f1 f3 f4 f5;obtain⟨o,e,c,d⟩:=id st';exact⟨u,rfl,zl6 (s:={s with heap:=h'}) e c d (by decide) ⟨x,H,I1,ru,⟨rfl,fun ys hy=>by rw[I.list_inj hy hq];exact hx⟩,st',fun b hb=>(hf b hb).1⟩⟩
 done:=by
  intro X hP hw hK hc i pins s σ H E I hf st hg;subst hP hw hK;obtain⟨xs,hq,hx⟩:=hg;obtain⟨its,rv,p,hz⟩:=I.list hq;obtain⟨f0,f1,f2,f3,f4,f5⟩:=hf it (by simp);have hl:=rv.length;exact wpAny_pyNext_list_end (I.ok.hd hc) st p.isList (by simp;omega) fun h' eb=>⟨rfl,I.turned (t':=s.toks) (fun b o hb e=>eb b o hb e) f0 f1 f3 f4 f5⟩
 self:=fun _ _ _ _ _ st h=>wpAny_pyIter_listiter st h
def zjH{P:Program}{K:PySem.W.Frag}(a it:Addr):Turn P w K tg (Itt K a) [it] it (fun i h=>h.IsTupleIter it a i)where
 mem:=by simp
 obj:=fun i h st b hb=>by
  have e:b=it:=by simpa using hb
  subst e;obtain⟨o,e,c,d⟩:=st;exact⟨o,e,fun v z=>by rw[d]at z;cases z⟩
 keep:=fun i h h' st k=>st.at fun o e=>k it (by simp) o e
 item:=by
  intro X hP hw hK hc i pins s σ H E I hf st hg;subst hP hw hK;obtain⟨xs,x,hq,hx⟩:=hg;obtain⟨its,rv,p,hz⟩:=I.tuple hq;obtain⟨u,hu,ru⟩:=rv.get hx;obtain⟨f0,f1,f2,f3,f4,f5⟩:=hf it (by simp);refine wpAny_pyNext_tuple_item st (show s.heap.IsTuple a its.toArray from p) (x:=u) (by simpa using hu) fun h' st' sb=>?_
  have I1:Inv X pins σ H {s with heap:=h'}:=I.turned (t':=s.toks) (fun b o hb e=>(sb.2 b hb).trans e) f0 f1 f3 f4 f5;obtain⟨o,e,c,d⟩:=id st';exact⟨u,rfl,zl6 (s:={s with heap:=h'}) e c d (by decide) ⟨x,H,I1,ru,⟨rfl,fun ys hy=>by rw[I.tuple_inj hy hq];exact hx⟩,st',fun b hb=>(hf b hb).1⟩⟩
 done:=by
  intro X hP hw hK hc i pins s σ H E I hf st hg;subst hP hw hK;obtain⟨xs,hq,hx⟩:=hg;obtain⟨its,rv,p,hz⟩:=I.tuple hq;obtain⟨f0,f1,f2,f3,f4,f5⟩:=hf it (by simp);have hl:=rv.length;exact wpAny_pyNext_tuple_end (I.ok.hd hc) st (show s.heap.IsTuple a its.toArray from p) (by simp;omega) fun h' eb=>⟨rfl,I.turned (t':=s.toks) (fun b o hb e=>eb b o hb e) f0 f1 f3 f4 f5⟩
 self:=fun _ _ _ _ _ st h=>wpAny_pyIter_tupleiter st h
theorem zjI{P:Program}{K:PySem.W.Frag}(it:Addr)(lo:Int)(n:Nat):Turn P w K tg (Itr lo n) [it] it (fun i h=>IsRangeIter h it (lo+(i:Nat)*1) ((n:Int)-(i:Nat)) 1)where
 mem:=by simp
 obj:=fun i h st b hb=>by
  have e:b=it:=by simpa using hb
  subst e
  exact⟨_,st,fun v z=>by
   have z':Data.fields _=Data.cell v:=z
   cases z'⟩
 keep:=fun i h h' st k=>k it (by simp) _ st
 item:=by
  intro X hP hw hK hc i pins s σ H E I hf st hg;subst hP hw hK;obtain⟨f0,f1,f2,f3,f4,f5⟩:=hf it (by simp);have W:=Walks.range (prog:=X.prog) (w:=X.w) (I.ok.hd hc) it lo 1 n;refine W.item i s _ _ hg st fun v h' tk hv st' kk=>?_
  obtain⟨t,rfl⟩:=hv;have I1:Inv X pins σ H {s with heap:=h',toks:=tk}:=I.turned (fun b o hb e=>kk b o (by simpa using hb) e) f0 f1 f3 f4 f5;refine⟨_,rfl,zl6 (s:={s with heap:=h',toks:=tk}) (n:="range_iterator") st' rfl rfl (by decide) ⟨.int (lo+i),H,I1,⟨t,?_⟩,⟨rfl,rfl⟩,st',fun b hb=>(hf b hb).1⟩⟩;rw[Int.mul_one]
 done:=by
  intro X hP hw hK hc i pins s σ H E I hf st hg;subst hP hw hK;obtain⟨f0,f1,f2,f3,f4,f5⟩:=hf it (by simp);exact wpAny_pyNext_range_end (I.ok.hd hc) st (by have:n<=i:=hg;omega) fun h' eb=>⟨rfl,I.turned (t':=s.toks) (fun b o hb e=>eb b o hb e) f0 f1 f3 f4 f5⟩
 self:=fun _ _ _ _ _ st h=>wpAny_pyIter_rangeiter st h
section
variable{X:Cx}{tg:Expr}
noncomputable def zvN(K:PySem.W.Frag)(tl:TE):TI:=fun σ H R=>tl σ H fun x H1=>∃a,x=.ref a/\(∃xs,SqL K H1 a xs)/\R (Itl K a) H1
noncomputable def zy3(K:PySem.W.Frag)(tl:TE):TI:=fun σ H R=>tl σ H fun x H1=>∃a,x=.ref a/\(∃xs,SqT K H1 a xs)/\R (Itt K a) H1
def zqk(hl:PE X l tl):PI X tg l (zvN X.K tl):=by
 intro pins s σ H R I h;refine thn (hl pins s σ H _ I h) fun v s1 ⟨x,H1,I1,r1,q1⟩=>?_
 obtain⟨a,e,⟨xs,hq⟩,q⟩:=q1;subst e;cases r1;obtain⟨its,rv,p,hz⟩:=I1.list hq;refine ycU p.isList ?_;refine⟨s1.heap.objs.size,[s1.heap.objs.size],_,_,H1,rfl,I1.kept (t':=s1.toks) fun b o e=>yaf _ e,zku a _,⟨_,yar _ rfl,rfl,rfl⟩,fun b hb=>?_,q⟩
 have e:b=s1.heap.objs.size:=by simpa using hb
 subst e;exact I1.fpOk (yal _) (I1.hok.fresh (yal _))
def zsp(hl:PE X l tl):PI X tg l (zy3 X.K tl):=by
 intro pins s σ H R I h;refine thn (hl pins s σ H _ I h) fun v s1 ⟨x,H1,I1,r1,q1⟩=>?_
 obtain⟨a,e,⟨xs,hq⟩,q⟩:=q1;subst e;cases r1;obtain⟨its,rv,p,hz⟩:=I1.tuple hq;refine yb8 (show s1.heap.IsTuple a its.toArray from p) ?_;refine⟨s1.heap.objs.size,[s1.heap.objs.size],_,_,H1,rfl,I1.kept (t':=s1.toks) fun b o e=>yaf _ e,zjH a _,⟨_,yar _ rfl,rfl,rfl⟩,fun b hb=>?_,q⟩
 have e:b=s1.heap.objs.size:=by simpa using hb
 subst e;exact I1.fpOk (yal _) (I1.hok.fresh (yal _))
theorem znc{pins:Z3}{σ:St}{H:Hp}{s:Shared}{R:It->Hp->Prop}{E:Z5}{lo hi:Int}{t u v:Tok}{tk:Nat}(I:Inv X pins σ H s)(h1:-(2 ^ 62)<=lo)(h2:lo<2 ^ 62)(h3:-(2 ^ 62)<=hi)(h4:hi<2 ^ 62)
  (q:R (Itr lo (hi-lo).toNat) H):wpAny (model X.prog X.w) X.A (pyIter (.ref s.heap.objs.size)) (PIE X pins σ tg R) E {s with heap:=s.heap.push {cls:=.type "range",data:=.fields #[.int lo t,.int hi u,.int 1 v]},toks:=tk}:=by
 refine wpAny_pyIter_range (IsRange.new ..) (small_one h1 h2 h3 h4) ?_;have I1:Inv X pins σ H {s with heap:=s.heap.push {cls:=.type "range",data:=.fields #[.int lo t,.int hi u,.int 1 v]},toks:=tk}:=I.kept fun b o e=>yaf _ e
 refine⟨(s.heap.push {cls:=.type "range",data:=.fields #[.int lo t,.int hi u,.int 1 v]}).objs.size,[(s.heap.push {cls:=.type "range",data:=.fields #[.int lo t,.int hi u,.int 1 v]}).objs.size],_,_,H,rfl,
  I1.kept (t':=tk) fun b o e=>yaf _ e,zjI _ lo (hi-lo).toNat,?_,fun b hb=>?_,q⟩
 ·have e1:lo+((0:Nat):Int)*1=lo:=by simp
  have e2:(((hi-lo).toNat:Nat):Int)-((0:Nat):Int)=Builtin.Range.rangeSize lo hi 1:=by rw[rangeSize_one];split<;>omega
  show IsRangeIter _ _ (lo+((0:Nat):Int)*1) ((((hi-lo).toNat:Nat):Int)-((0:Nat):Int)) 1;rw[e1,e2];exact yar _ rfl
 ·have e:b=(s.heap.push {cls:=.type "range",data:=.fields #[.int lo t,.int hi u,.int 1 v]}).objs.size:=by simpa using hb
  subst e;exact I1.fpOk (yal _) (I1.hok.fresh (yal _))
noncomputable def zvM(ta:TA):TI:=fun σ H R=>ta σ H fun vs H1=>∃j:Int,vs=[.int j]/\-(2 ^ 62)<=j/\j<2 ^ 62/\R (Itr 0 j.toNat) H1
theorem zlk{a:Expr}{ta:TA}{p pos:Pos}(hg:Gl X "range")(hm:X.mg "range"=none)(ha:PA X [a] ta)(hs:autoParam (starEach [a] X.env=[(false,eval a X.env)]) yAW):PI X tg (.Call (.Name "range" p) [a] [] pos) (zvM ta):=by
 intro pins s σ H R I h;refine Call_ (zht I hg hm boot_range (ybF (thn (ha pos pins s σ H _ I h) fun us s1 ⟨vs,H1,I1,r1,q1⟩=>?_) hs rfl));obtain⟨j,e,q1,q2,q⟩:=q1;subst e
 cases r1 with
 |cons r rr=>
  cases rr;obtain⟨t,rfl⟩:=r;exact call_range_1 (znc I1 (by omega) (by omega) q1 q2 (by simpa using q))
noncomputable def zx6(wi:TI)(g:TG)(tb:TS):TS:=fun D σ H=>wi σ H fun J H1=>∃W:Nat->Nat->St->Hp->Prop,(∃m,W 0 m σ H1)/\∀i m σ H,W i m σ H →
 (J.stop i H/\D.nx σ H)\/(J.go i H/\∃N:St->Hp->Prop,(∀σ' H',N σ' H'->∃m',m'<m/\W (i+1) m' σ' H')/\∀x H',J.yld i H x H'->g x σ H' fun σ2 H2=>tb {D with nx:=N,ct:=N,bk:=D.nx} σ2 H2)
noncomputable def zhj(fp:List Addr)(h:Heap):List (Addr×Obj):=fp.filterMap fun b=>(h.get? b).map fun o=>(b,o)
def zdw(hb:b∈fp)(e:h.get? b=some o):(b,o)∈zhj fp h:=ybj.mpr ⟨b,hb,by rw[e];rfl⟩
def zlu(hp:p∈zhj fp h):p.1∈fp/\h.get? p.1=some p.2:=by
 obtain⟨b,hb,e⟩:=ybj.mp hp
 cases q:h.get? b with
 |none=>rw[q]at e;cases e|some o=>
  rw[q]at e;have e':(b,o)=p:=Option.some.inj e;subst e';exact⟨hb,q⟩
def Inv.pinned(I:Inv X pins σ H s)(hf:∀b∈fp,zmH X pins H b)(ho:∀b∈fp,∃o,s.heap.get? b=some o/\∀v,o.data≠.cell v):Inv X (pins++zhj fp s.heap) σ H s:=
 I.pins_of fun p hp=>(yaH.mp hp).elim (fun z=>I.pin p (yaL _ z)) fun z=>by
  obtain⟨hb,e⟩:=zlu z;obtain⟨f0,f1,f2,_⟩:=hf p.1 hb;obtain⟨o,e',d⟩:=ho p.1 hb;rw[e]at e';cases e';exact⟨e,f0,f1,f2,d⟩
def Inv.unpinned(I:Inv X (pins++pl) σ H s):Inv X pins σ H s:=I.pins_of fun p hp=>I.pin p (yaL _ (ycF _ hp))
def zsn{iter:Expr}{body:List Stmt}{wi:TI}{g:TG}{tb:TS}{pos:Pos}(hp:PassesOwn (model X.prog X.w) X.A X.env X.xe)(hc:X.calm=true)(hi:PI X tg iter wi)(hg:PG X tg g)(hb:PSs X body tb)
  (hs:autoParam (∀x,foldedSetIterable iter X.env x=pure x) yAU):PS X (.For tg iter body [] pos) (zx6 wi g tb):=by
 intro pins s σ H D I h;refine wpAny_For (thn (hi pins s σ H _ I h) fun v s1 h1=>thn h1 fun itv s2 h2=>?_) hs;obtain⟨it,fp,tn,J,H2,e,I2,T,st2,f2,W,⟨m0,w0⟩,turn⟩:=h2;subst e;have stat:∀{H':Hp},(∀b∈fp,H' b=none)->∀b∈fp,zmH X pins H' b:=fun hn b hb=>⟨hn b hb,(f2 b hb).2⟩
 refine codeAny_forLoop_any (fun n s'=>∃i σ' H',Inv X pins σ' H' s'/\tn i s'.heap/\(∀b∈fp,H' b=none)/\W i n σ' H') ?_ m0 ⟨0,σ,H2,I2,st2,fun b hb=>(f2 b hb).1,w0⟩;rintro n s3 ⟨i,σ3,H3,I3,st3,fr3,w3⟩
 rcases turn i n σ3 H3 w3 with⟨stop,qn⟩|⟨go,N,hN,step⟩
 ·refine yb9 hp (thn (T.done X rfl rfl rfl hc i pins s3 σ3 H3 X.xe I3 (stat fr3) st3 stop) fun r s4 ⟨hr,I4⟩=>?_);subst hr;exact ycJ ⟨σ3,H3,I4,qn⟩
 ·refine yb9 hp (thn (T.item X rfl rfl rfl hc i pins s3 σ3 H3 X.xe I3 (stat fr3) st3 go) fun r s4 ⟨u,hr,h4⟩=>?_);subst hr;refine yb9 hp (thn h4 fun _ s5 ⟨x,H5,I5,r5,y5,st5,fr5⟩=>?_);have I5':=I5.pinned (stat fr5) (T.obj _ _ st5);refine yb9 hp (thn (hg _ s5 σ3 H5 x u _ I5' r5 (step x H5 y5)) fun _ s6 ⟨σ6,H6,I6,q6⟩=>?_);refine yb9 hp (thn (hb _ s6 σ6 H6 _ I6 q6) fun f s7 q7=>?_)
  have again:∀{σ7:St}{H7:Hp},Inv X (pins++zhj fp s5.heap) σ7 H7 s7->N σ7 H7->∃m,m<n/\∃i σ' H',Inv X pins σ' H' s7/\tn i s7.heap/\(∀b∈fp,H' b=none)/\W i m σ' H':=fun {σ7 H7} I7 n7=>by
   obtain⟨m',hm,w7⟩:=hN σ7 H7 n7;refine⟨m',hm,i+1,σ7,H7,I7.unpinned,T.keep _ _ _ st5 fun b hb o e=>(I7.pin (b,o) (yaL _ (yaL _ (zdw hb e)))).1,fun b hb=>?_,w7⟩;obtain⟨o,e,d⟩:=T.obj _ _ st5 b hb;exact(I7.pin (b,o) (yaL _ (yaL _ (zdw hb e)))).2.1
  cases f with
  |next=>obtain⟨σ7,H7,I7,n7⟩:=q7;exact again I7 n7|cont=>obtain⟨σ7,H7,I7,n7⟩:=q7;exact again I7 n7|brk=>obtain⟨σ7,H7,I7,q7⟩:=q7;exact⟨σ7,H7,I7.unpinned,q7⟩|ret v=>obtain⟨x7,σ7,H7,I7,r7,q7⟩:=q7;exact⟨x7,σ7,H7,I7.unpinned,r7,q7⟩
end
noncomputable abbrev R2:=V->V->Hp->VK->Prop
noncomputable def OpR(X:Cx)(f:Value->Value->Sem Value)(r:R2):Prop:=
 ∀(pins:Z3) (s:Shared) (σ:St) (H:Hp) (x y:V) (v u:Value) (Q:VK),Inv X pins σ H s->zaV x v->zaV y u->r x y H Q →
  wpAny (model X.prog X.w) X.A (f v u) (EP X pins σ Q) X.xe s
noncomputable def UnR(X:Cx)(f:Value->Sem Value)(r:V->Hp->VK->Prop):Prop:=
 ∀(pins:Z3) (s:Shared) (σ:St) (H:Hp) (x:V) (v:Value) (Q:VK),Inv X pins σ H s->zaV x v->r x H Q →
  wpAny (model X.prog X.w) X.A (f v) (EP X pins σ Q) X.xe s
noncomputable def zdS(X:Cx)(f:Value)(r:List V->Hp->VK->Prop):Prop:=
 ∀(pins:Z3) (s:Shared) (σ:St) (H:Hp) (xs:List V) (us:List Value) (Q:VK),Inv X pins σ H s->Vals xs us->r xs H Q →
  wpAny (model X.prog X.w) X.A (call f us) (EP X pins σ Q) X.xe s
noncomputable def tOp(r:R2)(ta tb:TE):TE:=fun σ H Q=>ta σ H fun x H1=>tb σ H1 fun y H2=>r x y H2 Q
noncomputable def tUn(r:V->Hp->VK->Prop)(ta:TE):TE:=fun σ H Q=>ta σ H fun x H1=>r x H1 Q
noncomputable def rI(C:Int->Int->Prop)(g:Int->Int->V):R2:=fun x y H Q=>∃i j,x=.int i/\y=.int j/\C i j/\Q (g i j) H
noncomputable def rI0(g:Int->Int->V):R2:=fun x y H Q=>∃i j,x=.int i/\y=.int j/\Q (g i j) H
noncomputable def rU(g:Int->V):V->Hp->VK->Prop:=fun x H Q=>∃i,x=.int i/\Q (g i) H
section
variable{X:Cx}{a b c:Expr}{ta tb tc:TE}{pos:Pos}
def zv5(ha:PE X a ta)(hb:PE X b tb){pins:Z3}{s:Shared}{σ:St}{H:Hp}{R:V->V->Hp->Prop}(I:Inv X pins σ H s)
  (h:ta σ H fun x H1=>tb σ H1 fun y H2=>R x y H2) {Q:Z5}{f:Value->Value->Sem Value}
  (hf:∀v u s2 x y H2,Inv X pins σ H2 s2->zaV x v->zaV y u->R x y H2->wpAny (model X.prog X.w) X.A (f v u) Q X.xe s2):
  wpAny (model X.prog X.w) X.A (eval a X.env) (fun v s₁=>wpAny (model X.prog X.w) X.A (eval b X.env) (fun u s₂=>wpAny (model X.prog X.w) X.A (f v u) Q X.xe s₂) X.xe s₁) X.xe s:=by
 refine thn (ha pins s σ H _ I h) fun v s1 ⟨x,H1,I1,r1,q1⟩=>?_
 refine thn (hb pins s1 σ H1 _ I1 q1) fun u s2 ⟨y,H2,I2,r2,q2⟩=>?_
 exact hf v u s2 x y H2 I2 r1 r2 q2
def zvg(ho:OpR X (binaryOp op) r)(ha:PE X a ta)(hb:PE X b tb):PE X (.BinOp a op b pos) (tOp r ta tb):=by
 intro pins s σ H Q I h;exact wpAny_BinOp (zv5 ha hb I h fun v u s2 x y H2 I2 rx ry q=>ho pins s2 σ H2 x y v u Q I2 rx ry q)
def zve(ho:UnR X (unaryOp op) r)(ha:PE X a ta):PE X (.UnaryOp op a pos) (tUn r ta):=by
 intro pins s σ H Q I h;exact UnaryOp_ (thn (ha pins s σ H _ I h) fun v s1 ⟨x,H1,I1,r1,q1⟩=>ho pins s1 σ H1 x v Q I1 r1 q1)
def opI{f:Value->Value->Sem Value}{C:Int->Int->Prop}{g:Int->Int->Int}
  (rule:∀(i j:Int) (t u:Tok) (s:Shared) (Q:Z5) (E:Z5),C i j->Q (.int (g i j) s.toks) {s with toks:=s.toks+1}->wpAny (model X.prog X.w) X.A (f (.int i t) (.int j u)) Q E s):
  OpR X f (rI C fun i j=>.int (g i j)):=by
 intro pins s σ H x y v u Q I rx ry h;obtain⟨i,j,rfl,rfl,hc,q⟩:=h;obtain⟨t,rfl⟩:=rx;obtain⟨t',rfl⟩:=ry;exact rule i j t t' s _ _ hc ⟨.int (g i j),H,I.tok _,⟨_,rfl⟩,q⟩
def zyo{f:Value->Value->Sem Value}{g:Int->Int->Int}
  (rule:∀(i j:Int) (t u:Tok) (s:Shared) (Q:Z5) (E:Z5),Q (.int (g i j) s.toks) {s with toks:=s.toks+1}->wpAny (model X.prog X.w) X.A (f (.int i t) (.int j u)) Q E s):
  OpR X f (rI0 fun i j=>.int (g i j)):=by
 intro pins s σ H x y v u Q I rx ry h;obtain⟨i,j,rfl,rfl,q⟩:=h;obtain⟨t,rfl⟩:=rx;obtain⟨t',rfl⟩:=ry;exact rule i j t t' s _ _ ⟨.int (g i j),H,I.tok _,⟨_,rfl⟩,q⟩
def zvm{f:Value->Value->Sem Value}{g:Int->Int->Bool}
  (rule:∀(i j:Int) (t u:Tok) (s:Shared) (Q:Z5) (E:Z5),Q (.bool (g i j)) s->wpAny (model X.prog X.w) X.A (f (.int i t) (.int j u)) Q E s):
  OpR X f (rI0 fun i j=>.bl (g i j)):=by
 intro pins s σ H x y v u Q I rx ry h;obtain⟨i,j,rfl,rfl,q⟩:=h;obtain⟨t,rfl⟩:=rx;obtain⟨t',rfl⟩:=ry;exact rule i j t t' s _ _ ⟨.bl (g i j),H,I,rfl,q⟩
noncomputable def zzp(i j:Int):Prop:=0<j/\j<1073741824
noncomputable def zwa(i j:Int):Prop:=(-(2 ^ 64)<i/\i<2 ^ 64)\/(-(2 ^ 64)<j/\j<2 ^ 64)
def zwa.ok(h:zwa i j):IntMulOk i j:=by
 rcases h with⟨h1,h2⟩|⟨h1,h2⟩
 ·exact .of_left (intBits_le_64 h1 h2)
 ·exact .of_right (intBits_le_64 h1 h2)
def zsF:OpR X (binaryOp .Add) (rI0 fun i j=>.int (i+j)):=zyo fun _ _ _ _ _ _ _ q=>add_int q
def zsA:OpR X (binaryOp .Mult) (rI zwa fun i j=>.int (i*j)):=opI fun _ _ _ _ _ _ _ hc q=>mul_int q hc.ok
theorem zqs:OpR X (binaryOp .FloorDiv) (rI zzp fun i j=>.int (i / j)):=opI fun i j _ _ _ _ _ hc q=>by
 have h1:(0:Int)<j:=hc.1;have h2:j<1073741824:=hc.2;exact floordiv_int (by omega) (by rw[Int.fdiv_eq_ediv_of_nonneg i (by omega)];exact q) (.inl (PyProof.noPylong_small (by omega)))
theorem zsB:OpR X (binaryOp .Mod) (rI (fun _ j=>0<j) fun i j=>.int (i % j)):=opI fun i j _ _ _ _ _ hc q=>by
 have h1:(0:Int)<j:=hc;exact mod_int' (by omega) (by rw[Int.fmod_eq_emod_of_nonneg i (by omega)];exact q)
def unI{f:Value->Sem Value}{g:Int->Int}
  (rule:∀(i:Int) (t:Tok) (s:Shared) (Q:Z5) (E:Z5),Q (.int (g i) s.toks) {s with toks:=s.toks+1}->wpAny (model X.prog X.w) X.A (f (.int i t)) Q E s):
  UnR X f (rU fun i=>.int (g i)):=by
 intro pins s σ H x v Q I rx h;obtain⟨i,rfl,q⟩:=h;obtain⟨t,rfl⟩:=rx;exact rule i t s _ _ ⟨.int (g i),H,I.tok _,⟨_,rfl⟩,q⟩
def zrw:UnR X (unaryOp .USub) (rU fun i=>.int (-i)):=unI fun _ _ _ _ _ q=>neg_int q
end
section
variable{X:Cx}{a b c:Expr}{ta tb tc:TE}{pos:Pos}
def zo2(I:Inv X pins σ H s)(q:Q (.bl k) H)(e:k=k'):EP X pins σ Q (.bool k') s:=by
 subst e;exact⟨.bl k,H,I,rfl,q⟩
def zvj:OpR X (compareOp .Lt) (rI0 fun i j=>.bl (decide (i<j))):=zvm fun _ _ _ _ _ _ _ q=>lt_int q
def zvk:OpR X (compareOp .LtE) (rI0 fun i j=>.bl (decide (i<=j))):=zvm fun _ _ _ _ _ _ _ q=>le_int q
def zvl:OpR X (compareOp .Gt) (rI0 fun i j=>.bl (decide (j<i))):=zvm fun _ _ _ _ _ _ _ q=>gt_int q
def zlt:OpR X (compareOp .In) (fun x y H Q=>∃i j,x=.str i/\y=.str j/\Q (.bl (!(Builtin.Str.occurrences j i 0 j.length 1).isEmpty)) H):=by
 intro pins s σ H x y v u Q I rx ry h;obtain⟨i,j,rfl,rfl,q⟩:=h;obtain⟨t,rfl⟩:=rx;obtain⟨t',rfl⟩:=ry;exact in_str (zo2 I q rfl)
def zsD:OpR X (compareOp .Is) (fun x y H Q=>y=.non/\Q (.bl (decide (x=.non))) H):=by
 intro pins s σ H x y v u Q I rx ry h;obtain⟨rfl,q⟩:=h;cases ry;refine is_none_gen (zo2 I q ?_)
 cases x<;>first
  |(cases rx;rfl)
  |(obtain⟨t,rfl⟩:=rx;rfl)
def zqp(ho:OpR X (compareOp op) r)(ha:PE X a ta)(hb:PE X b tb)(hm:behindInMarks op b=false):PE X (.Compare a [op] [b] pos) (tOp r ta tb):=by
 intro pins s σ H Q I h;exact wpAny_Compare1 (zv5 ha hb I h fun v u s2 x y H2 I2 rx ry q=>ho pins s2 σ H2 x y v u Q I2 rx ry q) hm
noncomputable def zps(t:TE):TT:=fun σ H Q=>t σ H fun x H'=>∃k,x=.bl k/\Q k H'
def zp9(ho:OpR X (compareOp op) r)(ha:PE X a ta)(hb:PE X b tb)(hm:behindInMarks op b=false):PT X (.Compare a [op] [b] pos) (zps (tOp r ta tb)):=by
 intro pins s σ H Q I h
 refine wpAny_isTrue_Compare1 (thn (ha pins s σ H _ I h) fun v s1 ⟨x,H1,I1,r1,q1⟩=>thn (hb pins s1 σ H1 _ I1 q1) fun u s2 ⟨y,H2,I2,r2,q2⟩=>
  thn (ho pins s2 σ H2 x y v u _ I2 r1 r2 q2) fun c s3 ⟨z,H3,I3,r3,k,e,q3⟩=>?_) hm
 subst e;cases r3;exact yaX ⟨H3,I3,q3⟩
noncomputable def zkK(r r':R2)(ta tb tc:TE):TE:=fun σ H Q=>ta σ H fun x H1=>tb σ H1 fun y H2=>r x y H2 fun z H3=>∃k,z=.bl k ∧
 (if k=true then tc σ H3 fun w' H4=>r' y w' H4 Q else Q (.bl false) H3)
def znw{op op':CmpOp}{r r':R2}(ho:OpR X (compareOp op) r)(ho':OpR X (compareOp op') r')(ha:PE X a ta)(hb:PE X b tb)(hc:PE X c tc)
  (hm:autoParam (lastMarks [op,op'] [b,c]=false) yAO):PE X (.Compare a [op,op'] [b,c] pos) (zkK r r' ta tb tc):=by
 intro pins s σ H Q I h
 refine Compare_chain (thn (ha pins s σ H _ I h) fun v s1 ⟨x,H1,I1,r1,q1⟩=>chain_link (thn (hb pins s1 σ H1 _ I1 q1) fun u s2 ⟨y,H2,I2,r2,q2⟩=>
  thn (ho pins s2 σ H2 x y v u _ I2 r1 r2 q2) fun d s3 ⟨z,H3,I3,r3,k,e,q3⟩=>?_)) hm
 subst e;cases r3;refine yaX ?_
 cases k with
 |false=>exact ite_ff ⟨.bl false,H3,I3,rfl,q3⟩|true=>exact ite_tt (chain_last (thn (hc pins s3 σ H3 _ I3 q3) fun w' s4 ⟨z',H4,I4,r4,q4⟩=>ho' pins s4 σ H4 y z' u w' Q I4 r2 r4 q4))
def zng{op op':CmpOp}{r r':R2}(ho:OpR X (compareOp op) r)(ho':OpR X (compareOp op') r')(ha:PE X a ta)(hb:PE X b tb)(hc:PE X c tc)
  (hm:autoParam (lastMarks [op,op'] [b,c]=false) yAO):PT X (.Compare a [op,op'] [b,c] pos) (zps (zkK r r' ta tb tc)):=by
 intro pins s σ H Q I h
 refine isTrue_chain (thn (ha pins s σ H _ I h) fun v s1 ⟨x,H1,I1,r1,q1⟩=>test_link (thn (hb pins s1 σ H1 _ I1 q1) fun u s2 ⟨y,H2,I2,r2,q2⟩=>
  thn (ho pins s2 σ H2 x y v u _ I2 r1 r2 q2) fun d s3 ⟨z,H3,I3,r3,k,e,q3⟩=>?_)) hm
 subst e;cases r3;refine yaX ?_
 cases k with
 |false=>
  obtain⟨k',e',q'⟩:=q3;cases e';exact ite_ff ⟨H3,I3,q'⟩
 |true=>
  refine ite_tt (test_last (thn (hc pins s3 σ H3 _ I3 q3) fun w' s4 ⟨z',H4,I4,r4,q4⟩=>thn (ho' pins s4 σ H4 y z' u w' _ I4 r2 r4 q4) fun d' s5 ⟨z2,H5,I5,r5,k2,e2,q5⟩=>?_));subst e2;cases r5;exact yaX ⟨H5,I5,q5⟩
def zhr:(sizeLine:Nat)<2 ^ 63:=by rw[ycK];decide
def zjW:OpR X (binaryOp .Add) (fun x y H Q=>∃i j,x=.str i/\y=.str j/\i.length+j.length<=sizeLine/\Q (.str (i++j)) H):=by
 intro pins s σ H x y v u Q I rx ry h;obtain⟨i,j,rfl,rfl,hz,q⟩:=h;obtain⟨t,rfl⟩:=rx;obtain⟨t',rfl⟩:=ry;exact add_str (fun t' tk=>⟨.str (i++j),H,I.tok _,⟨_,rfl⟩,q⟩) hz
def zgb(r:Vals [x] us):∃u,us=[u]/\zaV x u:=by
 cases r with
 |cons r1 r2=>cases r2;exact⟨_,rfl,r1⟩
def zhM:zdS X (.type "str") (fun xs H Q=>∃i,xs=[.int i]/\i.natAbs.log2<1920/\Q (.str (toString i)) H):=by
 intro pins s σ H xs us Q I r h;obtain⟨i,rfl,hz,q⟩:=h;obtain⟨u,rfl,t,rfl⟩:=zgb r;exact PySem.P.str_of_int hz ⟨.str _,H,I.tok _,⟨_,rfl⟩,q⟩
end
structure ObjM(h:Heap)(x dx C:Addr)(mA:Z6):Prop where
 obj:h.get? x=some (PySem.W.instObj C dx)
 ns:h.Ns1 dx mA
 ne:dx≠x
def zlE{h:Heap}{mA:Z6}(n:h.Ns1 dx mA):∃od,h.get? dx=some od/\∀name,PySem.W.lookIn name od=some (mA name):=by
 obtain⟨o,es,ep,ho,hd,hk,_,hm⟩:=n;refine⟨o,ho,fun name=>?_⟩;have e:=hm name;unfold nsFind findBy at e;rw[<-Array.find?_toList]at e;unfold PySem.W.lookIn;rw[hd];dsimp only;split
 ·rename_i y q;rw[q]at e;exact congrArg some e
 ·rename_i q;rw[q]at e
  have a:es.toList.any (·.refKey)=false:=by
   rw[List.any_eq_false];intro y hy;obtain⟨z,t,hkey⟩:=hk y (ybq.mp hy);simp[DictEntry.refKey,hkey]
  have a':¬ es.toList.any (·.refKey)=true:=by rw[a];exact yba
  rw[if_neg a'];exact congrArg some e
def ObjM.look(I:ObjM h x dx C mA):∃od,PySem.W.InstAt h x (PySem.W.instObj C dx) C (some od)/\∀name,PySem.W.lookIn name od=some (mA name):=
 let ⟨od,ho,hl⟩:=zlE I.ns
 ⟨od,⟨I.obj,rfl,rfl,ho⟩,hl⟩
section
variable{prog:Program}{w:World}{A:Around}{E:Z5}{s:Shared}{K:PySem.W.Frag}{x dx C f:Addr}{mA:Z6}{name:Str}{v:Value}
def zq0{expr:Bool}{Q:Z5}(X:K.In s.heap)(I:ObjM s.heap x dx C mA)(hg:PySem.W.plainGet K C name=true)(hh:PySem.W.hasDictIn K C=true)
  (ha:PySem.W.findIn K (.ref C) name=some none) (hv:mA name=some v) (hv':PySem.W.handedIn v=true) (h:Q v {s with toks:=s.toks+1}):
  wpAny (model prog w) A (getAttr (.ref x) name expr) Q E s:=by
 obtain⟨od,J,hl⟩:=I.look;exact PySem.W.get_value X J (ycL hg).1 (PySem.W.findObj_own hh ha rfl (by rw[hl,hv])) hv' h
def znX(X:K.In s.heap)(I:ObjM s.heap x dx C mA)(hg:PySem.W.plainGet K C name=true)
  (hf:PySem.W.findIn K (.ref C) name=some (some (.ref f))) (ht:PySem.W.isFn K (.ref f)=true) (hv:mA name=none) (h:Q (.ref f,[.ref x]) s):
  wpAny (model prog w) A (getMethod (.ref x) name pl) Q E s:=by
 obtain⟨od,J,hl⟩:=I.look;exact PySem.W.method_fn X J (ycL hg).1 (ycL hg).2 hf (yby.mp ht) (by show(PySem.W.lookIn name od).map (·.isSome)=some false;rw[hl,hv];rfl) h
theorem zpP{ns:List Str}{Q:Unit->Shared->Prop}(X:K.In s.heap)(I:ObjM s.heap x dx C mA)
  (hs:PySem.W.findIn K (.ref C) "__setattr__"=some (some (.builtin "object.__setattr__"))) (hp:PySem.W.plainOver K C=true) (ht:PySem.W.takerIn K C name=some none) (hh:PySem.W.hasDictIn K C=true)
  (hw:PySem.Within mA ns) (hsz:ns.length<=sizeLine)
  (h:∀h',ObjM h' x dx C (fun y=>if y=name then some v else mA y)->Heap.SameBut dx s.heap h'->Q () {s with heap:=h',toks:=s.toks+2}):
  wpAny (model prog w) A (setAttr (.ref x) name v) Q E s:=by
 obtain⟨od,J,hl⟩:=I.look;refine PySem.W.set_plain X J hs (PySem.W.osa_open (s:={s with toks:=s.toks+1}) (r:=none) X J hp ht fun b=>?_);obtain⟨cd,hc,hd'⟩:=PySem.W.any_some hh;have hx:s.heap.get? x=some ⟨.ref C,some dx,.plain,#[]⟩:=I.obj;refine yac (yap (yac (yac (wpAny_loadPart hx (yac (PySem.W.Looks.here (s:={s with toks:=s.toks+1}) (PySem.W.looks_clsIn X hc) ?_))))));rw[hd'];refine yap (a:=some dx) (yac (yap (yac ?_)));refine wpAny_nsSet1 (s:={s with toks:=s.toks+1}) I.ns fun h' hn2 hs2=>?_
 obtain⟨oD,esD,epD,hoD,hdD,hcD⟩:=hn2.count (PySem.Within.cons name v hw);refine yac (wpAny_lookBehind hoD (by rw[hdD];exact pastItsLine_dict (yas hcD (by rw[yae];omega))) ?_);exact yap (h _ ⟨(hs2.2 _ (Ne.symm I.ne)).trans I.obj,hn2,I.ne⟩ hs2)
def znK{R:Result->Shared->Prop}{vs:List Value}{kw:List (Str×Value)}(X:K.In s.heap)(hm:PySem.W.makesIn K C=true)
  (hi:PySem.W.findIn K (.ref C) "__init__"=some (some (.ref f))) (hf:PySem.W.typeIn K (.ref f)=some (.type "function"))
  (h:codeAny (model prog w) (A.under (.builtin "type.__call__" ⟨.ref C::vs,kw⟩)) (.call (.ref f) ⟨.ref (s.heap.objs.size+1)::vs,kw⟩) (PySem.W.InitBack (s.heap.objs.size+1) R)
   {s with heap:=(s.heap.push PySem.W.emptyDict).push (PySem.W.instObj C s.heap.objs.size)}):
  codeAny (model prog w) A (.call (.ref C) ⟨vs,kw⟩) R s:=by
 obtain⟨hh,g,d,t,os⟩:=s;exact PySem.W.make_core (PySem.W.makes_of X hm) (PySem.W.looks_findIn X hi) (fun self=>PySem.W.bind_fn X self hf) (.inl rfl) h
end
noncomputable def zdv(f:Str)(v:V):List (Str×V)->List (Str×V)
 |[]=>[(f,v)]|(g,x)::r=>if g=f then(g,v)::r else(g,x)::zdv f v r
theorem ze6(f g:Str)(v:V):∀fs:List (Str×V),(zdv f v fs).lookup g=if g=f then some v else fs.lookup g
 |[]=>by
  show List.lookup g [(f,v)]=_
  by_cases h:g=f
  ·have hb:(g==f)=true:=yby.mpr h;simp only[List.lookup,hb,if_pos h]
  ·have hb:(g==f)=false:=ya4.mpr h;simp only[List.lookup,hb,if_neg h]
 |(k,x)::r=>by
  have ih:=ze6 f g v r;rw[show zdv f v ((k,x)::r)=(if k=f then(k,v)::r else(k,x)::zdv f v r)from rfl]
  by_cases hk:k=f
  ·rw[if_pos hk]
   by_cases h:g=k
   ·have hb:(g==k)=true:=yby.mpr h;simp only[List.lookup,hb,if_pos (h.trans hk)]
   ·have hb:(g==k)=false:=ya4.mpr h;simp only[List.lookup,hb,if_neg (fun e:g=f=>h (e.trans hk.symm))]
  ·rw[if_neg hk]
   by_cases h:g=k
   ·have hb:(g==k)=true:=yby.mpr h;simp only[List.lookup,hb,if_neg (fun e:g=f=>hk (h.symm.trans e))]
   ·have hb:(g==k)=false:=ya4.mpr h;simp only[List.lookup,hb];exact ih
theorem ze8(f:Str)(v:V):∀fs:List (Str×V),f∈(zdv f v fs).map (·.1)/\∀g,g∈fs.map (·.1)->g∈(zdv f v fs).map (·.1)
 |[]=>⟨by simp[zdv],fun g h=>by simp at h⟩
 |(k,x)::r=>by
  obtain⟨i1,i2⟩:=ze8 f v r;rw[show zdv f v ((k,x)::r)=(if k=f then(k,v)::r else(k,x)::zdv f v r)from rfl]
  by_cases hk:k=f
  ·rw[if_pos hk];subst hk;exact⟨by simp,fun g h=>by simpa using h⟩
  ·rw[if_neg hk];refine⟨?_,fun g h=>?_⟩
   ·rw[yaw];exact yak _ i1
   ·rw[yaw]at h ⊢
    rcases yat.mp h with e|e
    ·exact yat.mpr (.inl e)
    ·exact yak _ (i2 g e)
theorem ze7(f:Str)(v:V):∀fs:List (Str×V),(zdv f v fs).length<=fs.length+1
 |[]=>by simp[zdv]
 |(k,x)::r=>by
  have ih:=ze7 f v r;rw[show zdv f v ((k,x)::r)=(if k=f then(k,v)::r else(k,x)::zdv f v r)from rfl]
  by_cases hk:k=f
  ·rw[if_pos hk,yae,yae];omega
  ·rw[if_neg hk,yae,yae];omega
def zf9.some_of(r:zf9 (some v) o):∃u,o=some u/\zaV v u:=by
 cases o with
 |none=>exact(show False from r).elim|some u=>exact⟨u,rfl,r⟩
def zf9.none_of(r:zf9 none o):o=none:=by
 cases o with
 |none=>rfl|some u=>exact(show False from r).elim
def zl5(r:zaV v u):PySem.W.handedIn u=true:=by
 cases v with
 |non=>cases (show u=Value.none from r);rfl|bl b=>cases (show u=Value.bool b from r);rfl|int i=>obtain⟨t,e⟩:=(show ∃t,u=Value.int i t from r);cases e;rfl|str x=>obtain⟨t,e⟩:=(show ∃t,u=Value.str x t from r);cases e;rfl|byt b=>obtain⟨t,e⟩:=(show ∃t,u=Value.bytes b t from r);cases e;rfl|flt b=>obtain⟨t,e⟩:=(show ∃t,u=Value.float b t from r);cases e;rfl|ref a=>cases (show u=Value.ref a from r);rfl|ty n=>cases (show u=Value.type n from r);rfl
section
variable{P:Program}{w:World}{H H':Hp}{h h':Heap}{a C dx:Addr}{fs fs':List (Str×V)}
def zgw(hok:HOk P w H h)(e:H a=some (.ins C dx fs)):∃mA,ObjM h a dx C mA/\(∀f,zf9 (fs.lookup f) (mA f))/\PySem.Within mA (fs.map (·.1))/\fs.length<=1000/\H dx=some (.own a):=by
 obtain⟨d,z,ne,ob,mA,n,r,q⟩:=(show za3 P w H h a (.ins C dx fs)from hok a _ e);exact⟨mA,⟨ob,n,ne⟩,r,q,z,d⟩
end
structure Cls(K:PySem.W.Frag)(C:Addr):Prop where
 pg:PySem.W.plainGet K C Str.empty=true
 hd:PySem.W.hasDictIn K C=true
 po:PySem.W.plainOver K C=true
 sa:PySem.W.findIn K (.ref C) "__setattr__"=some (some (.builtin "object.__setattr__"))
def Cls.get{K:PySem.W.Frag}(c:Cls K C)(f:Str):PySem.W.plainGet K C f=true:=c.pg
noncomputable def zcx(K:PySem.W.Frag)(C:Addr)(f:Str):Prop:=PySem.W.findIn K (.ref C) f=some none
def zcx.taker{K:PySem.W.Frag}(n:zcx K C f):PySem.W.takerIn K C f=some none:=by
 unfold PySem.W.takerIn;rw[show PySem.W.findIn K (.ref C) f=some none from n];rfl
structure Meth(K:PySem.W.Frag)(C:Addr)(m:Str)(f:Addr):Prop where
 at_:PySem.W.findIn K (.ref C) m=some (some (.ref f))
 fn:PySem.W.isFn K (.ref f)=true
 kp:PySem.W.keepIn K (.ref f)=true
section
variable{X:Cx}{pins:Z3}{σ:St}{H:Hp}{s:Shared}{a C dx:Addr}{fs:List (Str×V)}{f:Str}{v:V}{A:Around}{E:Z5}
def zj3(I:Inv X pins σ H s)(e:H a=some (.ins C dx fs))(c:Cls X.K C)(n:zcx X.K C f)(l:fs.lookup f=some v)
  (h:∀u s',Inv X pins σ H s'->zaV v u->Q u s'):wpAny (model X.prog X.w) A (getAttr (.ref a) f b) Q E s:=by
 obtain⟨mA,O,r,_,_,_⟩:=zgw I.hok e;obtain⟨u,hu,ru⟩:=zf9.some_of (v:=v) (o:=mA f) (by rw[<-l];exact r f);exact zq0 I.kIn O (c.get f) c.hd n hu (zl5 ru) (h u _ (I.tok _) ru)
def zfW(I:Inv X pins σ H s)(e:H a=some (.ins C dx fs))(c:Cls X.K C)(k:Meth X.K C m g)(l:fs.lookup m=none)
  (h:Q (.ref g,[.ref a]) s):wpAny (model X.prog X.w) A (getMethod (.ref a) m pl) Q E s:=by
 obtain⟨mA,O,r,_,_,_⟩:=zgw I.hok e;have hn:mA m=none:=zf9.none_of (by rw[<-l];exact r m);exact znX I.kIn O (c.get m) k.at_ k.fn hn h
def zjL(I:Inv X pins σ H s)(e:H a=some (.ins C dx fs))(c:Cls X.K C)(n:zcx X.K C f)(hl:fs.length<1000)(ry:zaV y u)
  (h:∀s',Inv X pins σ (upd H a (.ins C dx (zdv f y fs))) s'->Q () s'):wpAny (model X.prog X.w) A (setAttr (.ref a) f u) Q E s:=by
 obtain⟨mA,O,r,wi,_,ho⟩:=zgw I.hok e
 have hz:(fs.map (·.1)).length<=sizeLine:=by rw[yab,ycK];omega
 refine zpP I.kIn O c.sa c.po n.taker c.hd wi hz fun h' O' sb=>h _ ?_
 have hd:∃o,h'.get? dx=some o:=let ⟨o,_,_,e',_⟩:=O'.ns;⟨o,e'⟩
 refine I.write (x:=a) (e:=dx) (by rw[e];exact True.intro) (.inr ho) (fun b q hb z=>(sb.2 b hb).trans z) hd ?_;refine⟨by rw[zaf O.ne];exact ho,?_,O.ne,O'.obj,_,O'.ns,fun g=>?_,fun g hg=>?_⟩
 ·have:=ze7 f y fs;omega
 ·show zf9 ((zdv f y fs).lookup g) (if g=f then some u else mA g);rw[ze6]
  by_cases q:g=f
  ·rw[if_pos q,if_pos q];exact ry
  ·rw[if_neg q,if_neg q];exact r g
 ·by_cases q:g=f
  ·rw[q];exact(ze8 f y fs).1
  ·refine(ze8 f y fs).2 g (wi g fun z=>hg ?_);show(if g=f then some u else mA g)=none;rw[if_neg q];exact z
def Inv.made(I:Inv X pins σ H s):Inv X pins σ (upd (upd H s.heap.objs.size (.own (s.heap.objs.size+1))) (s.heap.objs.size+1) (.ins C s.heap.objs.size []))
  {s with heap:=(s.heap.push PySem.W.emptyDict).push (PySem.W.instObj C s.heap.objs.size)}:=by
 have e1:(s.heap.push PySem.W.emptyDict).get? s.heap.objs.size=some PySem.W.emptyDict:=yar s.heap rfl
 have e2:((s.heap.push PySem.W.emptyDict).push (PySem.W.instObj C s.heap.objs.size)).get? (s.heap.objs.size+1)=some (PySem.W.instObj C s.heap.objs.size):=by
  have:=yar (s.heap.push PySem.W.emptyDict) (o:=PySem.W.instObj C s.heap.objs.size) rfl
  rwa[yaZ]at this
 have e3:(s.heap.push PySem.W.emptyDict).Ns s.heap.objs.size (fun _=>none):=⟨PySem.W.emptyDict,#[],_,e1,rfl,(fun e he=>absurd he (by simp)),fun _=>rfl⟩;have I1:=I.laid (a:=s.heap.objs.size) (o:=.own (s.heap.objs.size+1)) (h':=s.heap.push PySem.W.emptyDict) (t':=s.toks) (fun b u q=>yaf _ q) (yal _) ⟨_,e1⟩;refine I1.laid (a:=s.heap.objs.size+1) (o:=.ins C s.heap.objs.size []) (t':=s.toks) (fun b u q=>yaf _ q) (Nat.le_of_eq (yaZ _ _)) ?_;have ne:s.heap.objs.size≠s.heap.objs.size+1:=yay (ybU _);refine⟨by rw[zaf ne,zaq],yaM _,ne,e2,fun _=>none,(Heap.Ns1.of_empty e3).at fun o q=>yaf _ q,fun _=>True.intro,fun y hy=>absurd rfl hy⟩
def zrg(hb:attributeBase e f env (eval e env)=eval e env)
  (h:wpAny (model prog w) A (eval e env) (fun o s₁=>wpAny (model prog w) A (getAttr o f true) Q E s₁) E s):wpAny (model prog w) A (eval (.Attribute e f pos) env) Q E s:=
 Attribute_any_ h (by rw[arm_eval_Attribute,hb])
end
noncomputable def zuS(K:PySem.W.Frag)(ta:TE)(f:Str):TE:=fun σ H Q=>ta σ H fun x H1=>∃a C dx fs v,x=.ref a/\H1 a=some (.ins C dx fs)/\Cls K C/\zcx K C f/\fs.lookup f=some v/\Q v H1
noncomputable def zyb(K:PySem.W.Frag)(ta tv:TE)(f:Str):TS:=fun D σ H=>tv σ H fun y H1=>ta σ H1 fun x H2=>∃a C dx fs,x=.ref a/\H2 a=some (.ins C dx fs)/\Cls K C/\zcx K C f/\fs.length<1000 ∧
 D.nx σ (upd H2 a (.ins C dx (zdv f y fs)))
section
variable{X:Cx}{o e value:Expr}{f:Str}{pos pos' tpos:Pos}{ta tv:TE}
def zcr(he:PE X e ta)(hb:attributeBase e f X.env (eval e X.env)=eval e X.env):PE X (.Attribute e f pos) (zuS X.K ta f):=by
 intro pins s σ H Q I h;refine zrg hb (thn (he pins s σ H _ I h) fun u s1 ⟨x,H1,I1,rx,a,C,dx,fs,v,ex,ea,c,n,l,q⟩=>?_);subst ex;obtain rfl:u=Value.ref a:=rx;exact zj3 I1 ea c n l fun u' s2 I2 ru=>⟨v,H1,I2,ru,q⟩
def zjb(ha:PE X o ta)(hv:PE X value tv)(hs:swapsWith value (some (.Attribute o f pos')) pos.line X.env=pure false):PS X (.Assign [.Attribute o f pos'] value pos) (zyb X.K ta tv f):=by
 intro pins s σ H D I h;refine plainObj_wpAny_Assign_Attribute (thn (hv pins s σ H _ I h) fun u s1 ⟨y,H1,I1,ry,q⟩=>thn (ha pins s1 σ H1 _ I1 q) fun ov s2 ⟨x,H2,I2,rx,a,C,dx,fs,ex,ea,c,n,l,q2⟩=>?_) hs;subst ex;obtain rfl:ov=Value.ref a:=rx;exact zjL I2 ea c n l ry fun s3 I3=>⟨σ,_,I3,q2⟩
end
section
variable{X:Cx}{pins:Z3}{σ:St}{H:Hp}{s:Shared}{A:Around}{E:Z5}{Q:Z5}{c:Value}{b:Bool}
inductive TyOf(K:PySem.W.Frag)(H:Hp):V->Value->Prop where
 |non:TyOf K H .non (.type "NoneType")
 |bl (x:Bool):TyOf K H (.bl x) (.type "bool")
 |int (i:Int):TyOf K H (.int i) (.type "int")
 |str (x:Str):TyOf K H (.str x) (.type "str")
 |flt (x:UInt64):TyOf K H (.flt x) (.type "float")
 |lst {a:Addr}{xs:List V} (e:H a=some (.lst xs)):TyOf K H (.ref a) (.type "list")
 |frz {a:Addr}{o:Obj}{xs:List V} (e:H a=some (.frz o (.lst xs))):TyOf K H (.ref a) (.type "list")
 |tup {a:Addr}{xs:List V} (e:H a=some (.tup xs)):TyOf K H (.ref a) (.type "tuple")
 |dK {a:Addr}{kvs:List (Key×V)} (e:H a=some (.dK kvs)):TyOf K H (.ref a) (.type "dict")
 |dT {a:Addr}{kvs:List (List Key×V)} (e:H a=some (.dT kvs)):TyOf K H (.ref a) (.type "dict")
 |ins {a C dx:Addr}{fs:List (Str×V)} (e:H a=some (.ins C dx fs)) (cl:Cls K C) (ha:PySem.W.findIn K (.ref C) "__class__"=some (some (.builtin "object.__class__")))
   (hn:PySem.W.specialIn K (.builtin "object.__class__") "__get__"=some (some (.builtin "getset_descriptor.__get__"))) (htk:PySem.W.takesIn K (.builtin "object.__class__")=some true)
   (hm:PySem.W.mroIn K C (.type "object")=some true):TyOf K H (.ref a) (.ref C)
def zlU{x:V}{u t:Value}(I:Inv X pins σ H s)(rx:zaV x u)(ty:TyOf X.K H x t)(e:PySem.W.kitOne X.K t c=some b)(h:∀tk,Q (.bool b) {s with toks:=tk}):
  wpAny (model X.prog X.w) A (call (.builtin "isinstance") [u,c]) Q E s:=by
 cases ty with
 |non=>cases (show u=Value.none from rx);exact yaW PySem.W.kitx_none I.kIn True.intro e (fun z=>nomatch z) h|bl y=>cases (show u=Value.bool y from rx);exact yaW PySem.W.kitx_bool I.kIn True.intro e (fun z=>nomatch z) h|int i=>obtain⟨t,q⟩:=(show ∃t,u=Value.int i t from rx);cases q;exact yaW PySem.W.kitx_int I.kIn True.intro e (fun z=>nomatch z) h|str y=>obtain⟨t,q⟩:=(show ∃t,u=Value.str y t from rx);cases q;exact yaW PySem.W.kitx_str I.kIn True.intro e (fun z=>nomatch z) h|flt y=>obtain⟨t,q⟩:=(show ∃t,u=Value.float y t from rx);cases q;exact yaW PySem.W.kitx_float I.kIn True.intro e (fun z=>nomatch z) h| @lst a xs ea=>
  cases (show u=Value.ref a from rx);obtain⟨_,_,n,_,h1⟩:=(show za3 X.prog X.w H s.heap a (.lst xs)from I.hok a _ ea);exact yaW PySem.W.kitx_list I.kIn ⟨_,h1,rfl⟩ e (fun z=>nomatch z) h
 | @frz a ob xs ea=>
  cases (show u=Value.ref a from rx);obtain⟨_,_,_,n,_,h1⟩:=(show za3 X.prog X.w H s.heap a (.frz ob (.lst xs))from I.hok a _ ea);exact yaW PySem.W.kitx_list I.kIn ⟨_,h1,rfl⟩ e (fun z=>nomatch z) h
 | @tup a xs ea=>
  cases (show u=Value.ref a from rx);obtain⟨_,_,_,p⟩:=(show za3 X.prog X.w H s.heap a (.tup xs)from I.hok a _ ea);obtain⟨o,h1,h2,_⟩:=p;exact yaW PySem.W.kitx_tuple I.kIn ⟨o,h1,h2⟩ e (fun z=>nomatch z) h
 | @dK a kvs ea=>
  cases (show u=Value.ref a from rx);obtain⟨_,_,vs,_,p⟩:=(show za3 X.prog X.w H s.heap a (.dK kvs)from I.hok a _ ea);obtain⟨o,es,ep,h1,h2,_⟩:=p;exact yaW PySem.W.kitx_dict I.kIn ⟨o,h1,h2.1⟩ e (fun z=>nomatch z) h
 | @dT a kvs ea=>
  cases (show u=Value.ref a from rx);obtain⟨_,_,xs,_,o,es,ep,h1,h2,_⟩:=(show za3 X.prog X.w H s.heap a (.dT kvs)from I.hok a _ ea);exact yaW PySem.W.kitx_dict I.kIn ⟨o,h1,h2.1⟩ e (fun z=>nomatch z) h
 | @ins a C dx fs ea cl ha hn htk hm=>
  cases (show u=Value.ref a from rx);obtain⟨mA,O,_⟩:=zgw I.hok ea;obtain⟨od,J,_⟩:=O.look;exact yaW (PySem.W.kitx_own (cl.get _) cl.hd ha hn htk hm) I.kIn J e (fun z=>nomatch z) h
end
structure Room(k:Nat)(A:Around):Prop where
 hd:A.handled=none
 dp:A.depth+3*k+5<recursionLimit
 un:A.units+16*k+200<cLine
theorem Room.mono(r:Room k A)(h:j<=k):Room j A:=⟨r.hd,by have:=r.dp;omega,by have:=r.un;omega⟩
theorem Room.deeper(r:Room (k+1) A)(env:Env):Room k (A.deeper env):=
 ⟨r.hd,by have:=r.dp;show A.depth+1+3*k+5<_;omega,by have:=r.un;show A.units+3+16*k+200<_;omega⟩
def zjY{A:Around}:(A.under (.builtin "type.__call__" ⟨.ref C::us,kw⟩)).depth=A.depth+1:=by
 first|rfl|simp[Around.under,Code.weight,Code.isCreation,Code.isGuard,Code.isCaller,Code.frames,Code.isFrame,guardIds]
def zjX{A:Around}:(A.under (.builtin "type.__call__" ⟨.ref C::us,kw⟩)).units=A.units+1:=by
 first|rfl|simp[Around.under,Code.cUnits,Code.frames,Code.isFrame]
theorem Room.make(r:Room (k+1) A)(C:Addr)(us:List Value)(kw:List (Str×Value)):Room k (A.under (.builtin "type.__call__" ⟨.ref C::us,kw⟩)):=
 ⟨r.hd,by have:=r.dp;rw[zjY];omega,by have:=r.un;rw[zjX];omega⟩
theorem Room.depth(r:Room k A):A.depth<recursionLimit:=by have:=r.dp;omega
theorem Room.units(r:Room k A):A.units+64<cLine:=by have:=r.un;omega
noncomputable def zuj:TA:=fun _ H Q=>Q [] H
noncomputable def zpv(ta:TE)(tr:TA):TA:=fun σ H Q=>ta σ H fun x H1=>tr σ H1 fun xs H2=>Q (x::xs) H2
section
variable{X:Cx}{e:Expr}{es:List Expr}{te:TE}{t:TA}{pos:Pos}
def zcg:PA X [] zuj:=fun _ _ _ _ H Q I h=>ycq ⟨[],H,I,.nil,h⟩
def zba(ha:PE X e te)(hr:PA X es t)(hs:autoParam (starEach (e::es) X.env=(false,eval e X.env)::starEach es X.env) yAW):PA X (e::es) (zpv te t):=by
 intro pos pins s σ H Q I h;rw[hs];show wpAny _ _ (spliced ((false,eval e X.env)::backTo pos (starEach es X.env))) _ _ s;refine ybk (thn (ha pins s σ H _ I h) fun u s1 ⟨x,H1,I1,r1,q1⟩=>?_);exact thn (hr pos pins s1 σ H1 _ I1 q1) fun us s2 ⟨xs,H2,I2,r2,q2⟩=>⟨x::xs,H2,I2,.cons r1 r2,q2⟩
noncomputable def zx0(t:TA):TE:=fun σ H Q=>t σ H fun xs H1=>xs.length<=sizeLine/\∀p,H1 p=none->Q (.ref p) (upd H1 p (.tup xs))
noncomputable def zx3(t:TA):TE:=fun σ H Q=>t σ H fun xs H1=>xs.length<=sizeLine/\∀p,H1 p=none->Q (.ref p) (upd H1 p (.lst xs))
def zoI{x1}(h:PA X es t):PE X (.Tuple es x1 pos) (zx0 t):=by
 intro pins s σ H Q I hq;refine wpAny_Tuple_spliced (thn (h pos pins s σ H _ I hq) fun us s1 ⟨xs,H1,I1,r,z,q⟩=>⟨by rw[<-r.length];exact z,?_⟩);have hf:H1 s1.heap.objs.size=none:=I1.hok.fresh (yal _);refine⟨.ref s1.heap.objs.size,upd H1 s1.heap.objs.size (.tup xs),I1.laid (t':=s1.toks) (fun b u e=>yaf _ e) (yal _) ?_,rfl,q _ hf⟩;exact⟨z,us,r,⟨_,yar _ rfl,rfl,_,rfl,rfl⟩⟩
def zoL(h:PA X es t):PE X (.List es pos) (zx3 t):=by
 intro pins s σ H Q I hq;refine wpAny_List_spliced (thn (h pos pins s σ H _ I hq) fun us s1 ⟨xs,H1,I1,r,z,q⟩=>⟨by rw[<-r.length];exact z,?_⟩);have hf:H1 s1.heap.objs.size=none:=I1.hok.fresh (yal _);refine⟨.ref s1.heap.objs.size,upd H1 s1.heap.objs.size (.lst xs),I1.laid (t':=s1.toks) (fun b u e=>yaf _ e) (yal _) ?_,rfl,q _ hf⟩;exact⟨z,us,0,r,yar _ rfl⟩
end
noncomputable abbrev Sp:=List V->Hp->VK->XK->Prop
noncomputable abbrev CXT:=List Env->Hp->Shared->XK->Value->Shared->Prop
structure Env0(P:Program)(w:World)(K:PySem.W.Frag)(mg:Z6)(base:Heap)(A:Around)(outer:List Env)(s:Shared)(H:Hp):Prop where
 frames:A.frames=some outer
 mod:Mod K mg base
 bs:∀b o,base.get? b=some o->s.heap.get? b=some o/\H b=none
 bsz:base.objs.size<=s.heap.objs.size
 funs:s.heap.FunFrames base outer
 frf:∀b∈frs outer,H b=none
 hok:HOk P w H s.heap
 bare:AllBare s.gens
noncomputable def CE(outer:List Env)(P:Program)(w:World)(H:Hp)(s:Shared)(Q:VK)(u:Value)(s':Shared):Prop:=
 ∃v H',s'.os=s.os/\AllBare s'.gens/\Un (frs outer) [] H H' s.heap s'.heap/\HOk P w H' s'.heap/\zaV v u/\Q v H'
noncomputable def CR(CX:CXT)(outer:List Env)(P:Program)(w:World)(H:Hp)(s:Shared)(Q:VK)(E:XK)(r:Result)(s':Shared):Prop:=
 match r with
 |.ok (.ret u)=>CE outer P w H s Q u s'|.ok _=>False|.error e=>CX outer H s E e s'
structure FnOk(P:Program)(w:World)(K:PySem.W.Frag)(mg:Z6)(base:Heap)(CX:CXT)(k:Nat)(f:Addr)(fd:FuncData)(ps:List Str)(sp:Sp):Prop where
 len:∀vs H Q E,sp vs H Q E->vs.length=ps.length
 run:∀(A:Around) (outer:List Env) (s:Shared) (H:Hp) (args:Args) (us:List Value) (vs:List V) (Q:VK) (E:XK),Room k A->Env0 P w K mg base A outer s H->BindsTo s fd args (ps.zip us)->Vals vs us->sp vs H Q E →
  codeAny (model P w) A (.call (.ref f) args) (CR CX outer P w H s Q E) s
theorem FnOk.mono{P:Program}{K:PySem.W.Frag}{j k:Nat}(F:FnOk P w K mg base CX j f fd ps sp)(h:j<=k):
  FnOk P w K mg base CX k f fd ps sp:=⟨F.len,fun A outer s H args us vs Q E hr=>F.run A outer s H args us vs Q E (hr.mono h)⟩
def FnOk.imp{P:Program}{K:PySem.W.Frag}{k:Nat}(F:FnOk P w K mg base CX k f fd ps sp)
  (h:∀vs H Q E,sp' vs H Q E->sp vs H Q E):FnOk P w K mg base CX k f fd ps sp':=
 ⟨fun vs H Q E q=>F.len vs H Q E (h _ _ _ _ q),fun A outer s H args us vs Q E hr he hb hv hs=>F.run A outer s H args us vs Q E hr he hb hv (h _ _ _ _ hs)⟩
def Env0.make{P:Program}{K:PySem.W.Frag}{A:Around}(e:Env0 P w K mg base A outer s H)(C:Addr)(us:List Value)(kw:List (Str×Value)):
  Env0 P w K mg base (A.under (.builtin "type.__call__" ⟨.ref C::us,kw⟩)) outer s H:=⟨by first|exact e.frames|(simpa[Around.under,Code.envs,Code.isFrame,pushEnvs]using e.frames),e.mod,e.bs,e.bsz,e.funs,e.frf,e.hok,e.bare⟩
section
variable{X:Cx}{pins:Z3}{σ:St}{H:Hp}{s s':Shared}
def Inv.env0(I:Inv X pins σ H s):Env0 X.prog X.w X.K X.mg X.base X.A X.stack s H:=
 ⟨I.ok.frames,I.ok.mod,I.bs,yas I.ok.bsz I.sz,I.stack,I.stkFree,I.hok,I.bare⟩
def Inv.after(I:Inv X pins σ H s)(h:CE X.stack X.prog X.w H s Q u s'):EP X pins σ Q u s':=by
 obtain⟨v,H',os,bare,un,hok,r,q⟩:=h;obtain⟨hh,g,d,t,os'⟩:=s';obtain rfl:os'=s.os:=os;exact⟨v,H',I.call (h':=hh) (g':=g) (d':=d) (t':=t) (ch:=[]) un hok bare (fun b z=>absurd z (by simp)),r,q⟩
end
noncomputable def zcZ(K:PySem.W.Frag)(fd:FuncData)(ps:List Str)(ds:List Value):Prop:=
 ∀(s:Shared) (us:List Value),K.In s.heap->(us++ds).length=ps.length->BindsTo s fd ⟨us,[]⟩ (ps.zip (us++ds))
def zcZ.all{K:PySem.W.Frag}{ps:List Str}(h:∀us:List Value,us.length=ps.length->bindArgs fd ⟨us,[]⟩=pure (ps.zip us)):zcZ K fd ps []:=fun s us _ hl=>by
 rw[yaP]at hl ⊢;exact .of_eq (h us hl)
noncomputable def zpd(CX:CXT)(X:Cx)(E:XK):Prop:=∀(pins:Z3) (σ:St) (H:Hp) (s:Shared) (e:Value) (s':Shared),Inv X pins σ H s->CX X.stack H s E e s'->X.xe e s'
section
variable{X:Cx}{CX:CXT}{k:Nat}{f C:Addr}{fd:FuncData}{ps:List Str}{sp:Sp}{dvs:List V}{ds:List Value}{E:XK}{x m:Str}{p pos apos:Pos}{e o:Expr}{es:List Expr}{ta:TE}{t:TA}
structure Mk(K:PySem.W.Frag)(C f:Addr):Prop where
 makes:PySem.W.makesIn K C=true
 init:PySem.W.findIn K (.ref C) "__init__"=some (some (.ref f))
 fn:PySem.W.isFn K (.ref f)=true
 kp:PySem.W.keepIn K (.ref C)=true
end
structure FnScope(N P:List Str)(sc:Scope):Prop where
 kind:sc.kind=.function
 co:sc.isCoroutine=false
 gen:sc.isGenerator=false
 nd:N.Nodup
 pre:N.take P.length=P
 par:∀x∈P,sc.names.lookup x=some .local\/sc.names.lookup x=some .cell
 nofree:∀y∈sc.names,y.2≠.free
theorem zhR{kindOf:Str->Option NameKind}:∀{binds:List (Str×Value)}{m:Z6},(∀v,(x,v) ∉ binds)->bindL kindOf binds m x=m x
 |[],_,_=>rfl|(n,v)::r,m,h=>by
  unfold bindL;rw[zhR fun w hw=>h w (yak _ hw)];split
  ·have:x≠n:=by rintro rfl;exact h v yam
   simp[this]
  ·rfl
theorem zhT{kindOf:Str->Option NameKind}:∀{binds:List (Str×Value)}{m:Z6},(∀v,(x,v) ∉ binds)->bindC kindOf binds m x=m x
 |[],_,_=>rfl|(n,v)::r,m,h=>by
  unfold bindC;rw[zhT fun w hw=>h w (yak _ hw)];split
  ·rfl
  ·have:x≠n:=by rintro rfl;exact h v yam
   simp[this]
theorem zhS{kindOf:Str->Option NameKind}:∀{P:List Str}{vs:List Value}{i:Nat}{m:Z6},P.Nodup->P[i]?=some x->vs[i]?=some v->kindOf x=some .local →
  bindL kindOf (P.zip vs) m x=some v
 |[],_,_,_,_,h,_,_=>by simp at h
 |_::_,[],_,_,_,_,h,_=>by simp at h
 |p::P,w::vs,0,m,nd,h1,h2,hk=>by
  simp at h1 h2;subst h1;subst h2;show bindL kindOf ((p,w)::P.zip vs) m p=_;unfold bindL;rw[zhR fun v hv=>(ya7.mp nd).1 (ya8 hv).1,if_pos hk];simp
 |p::P,w::vs,i+1,m,nd,h1,h2,hk=>by
  show bindL kindOf ((p,w)::P.zip vs) m x=_;unfold bindL;exact zhS (i:=i) (ya7.mp nd).2 (by simpa using h1) (by simpa using h2) hk
theorem zhU{kindOf:Str->Option NameKind}:∀{P:List Str}{vs:List Value}{i:Nat}{m:Z6},P.Nodup->P[i]?=some x->vs[i]?=some v->kindOf x≠some .local →
  bindC kindOf (P.zip vs) m x=some v
 |[],_,_,_,_,h,_,_=>by simp at h
 |_::_,[],_,_,_,_,h,_=>by simp at h
 |p::P,w::vs,0,m,nd,h1,h2,hk=>by
  simp at h1 h2;subst h1;subst h2;show bindC kindOf ((p,w)::P.zip vs) m p=_;unfold bindC;rw[zhT fun v hv=>(ya7.mp nd).1 (ya8 hv).1,if_neg hk];simp
 |p::P,w::vs,i+1,m,nd,h1,h2,hk=>by
  show bindC kindOf ((p,w)::P.zip vs) m x=_;unfold bindC;exact zhU (i:=i) (ya7.mp nd).2 (by simpa using h1) (by simpa using h2) hk
noncomputable def zdE(N:List Str)(vs:List V):St:=vs.map some++List.replicate (N.length-vs.length) none
noncomputable def ziu(CX:CXT)(P:Program)(w:World)(K:PySem.W.Frag)(mg:Z6)(base:Heap)(N:List Str)(qual:Str)(scope:Scope)(f:Addr)(cd:Value)(A:Around)(outer:List Env)(s:Shared)(H:Hp)(E:XK):Cx where
 prog:=P
 w:=w
 K:=K
 mg:=mg
 base:=base
 A:=A.deeper (envOfC qual scope s.heap.objs.size f cd)
 N:=N
 s₀:=s
 H₀:=H
 env:=envOfC qual scope s.heap.objs.size f cd
 outer:=outer
 stack:=envOfC qual scope s.heap.objs.size f cd::outer
 ex:=[]
 calm:=true
 fn:=fun _=>true
 pn:=[]
 xe:=fun e s'=>wpAny (model P w) (A.deeper (envOfC qual scope s.heap.objs.size f cd)) (leaving (envOfC qual scope s.heap.objs.size f cd) e) (fun _ s''=>CX outer H s E e s'') (fun e' s''=>CX outer H s E e' s'') s'
def zjA{sc:Scope}(h:sc.names.lookup x=some .cell):∃c,(cellsFrom n sc.names []).lookup x=some c:=by
 have q:=ybz sc.names n [] (.inl h);exact Option.isSome_iff_exists.mp q
theorem zfh{P:Program}{K:PySem.W.Frag}{N ps:List Str}{scope:Scope}{A:Around}{s s1:Shared}{vs:List V}
  (S:FnScope N ps scope) (hd:A.handled=none) (e0:Env0 P w K mg base A outer s H) (hl:vs.length=ps.length) (r:Vals vs us)
  (x:InCallC s s.heap.objs.size (bindL (envOfC qual scope s.heap.objs.size f cd).kindOf (ps.zip us) fun _=>none) (cellsFrom (s.heap.objs.size+1) scope.names []) (bindC (envOfC qual scope s.heap.objs.size f cd).kindOf (ps.zip us) fun _=>none) s1):
  Inv (ziu CX P w K mg base N qual scope f cd A outer s H E) [] (zdE N vs) H s1:=by
 have hpl:ps.length<=N.length:=by have:=congrArg List.length S.pre;rw[List.length_take]at this;omega
 obtain⟨h1,tk,rfl,hk⟩:=x.done;have noA:∀b:Addr,b ∉ (ziu CX P w K mg base N qual scope f cd A outer s H E).ex:=fun b z=>absurd (show b∈([]:List Addr)from z) (by simp)
 refine⟨⟨e0.mod,S.kind,rfl,rfl,yal _,fun y z c h1 h2=>?_,fun y hy=>?_,fun y c _ h=>?_,fun _=>hd,Around.frames_deeper e0.frames,.inr ⟨rfl,rfl⟩,fun b z=>absurd z (noA b),e0.bs,e0.bsz,fun b _ _=>noA b,fun b z=>absurd z (noA b),e0.funs,e0.frf⟩,
  rfl,e0.bare,Un.kept hk,⟨_,x.toInCall.ns,fun i y v h1 h2 h3=>?_⟩,fun y c h=>⟨_,x.cell y c h⟩,e0.hok.fresh (yal _),fun y c h=>?_,fun p hp=>absurd (show p∈([]:Z3)from hp) (by simp),e0.hok.kept hk,?_⟩
 ·exact name_of_addr x.apart (yaA h1) (yaA h2)
 ·have hy:scope.names.lookup y=some .cell\/scope.names.lookup y=some .free:=hy
  rcases hy with hy|hy
  ·exact zjA hy
  ·exact absurd rfl (S.nofree _ (yaA hy))
 ·exact ycu (x.above y c (yaA h))
 ·have hi:i<vs.length:=by
   unfold zdE at h2
   by_cases hi:i<vs.length
   ·exact hi
   ·rw[yax (by simpa using hi)]at h2;rw[ybv]at h2
    split at h2<;>cases h2
  have ha:vs[i]?=some v:=by
   unfold zdE at h2;rw[yaE (by simpa using hi),yau]at h2
   cases e:vs[i]? with
   |none=>rw[e]at h2;cases h2|some a=>rw[e]at h2;cases h2;rfl
  obtain⟨u,hu,rv⟩:=r.get ha
  have hp:ps[i]?=some y:=by
   rw[<-S.pre,List.getElem?_take_of_lt (by omega)];exact h1
  have ndP:ps.Nodup:=by rw[<-S.pre];exact S.nd.sublist (ycr _ _)
  refine⟨u,rv,?_⟩
  rcases S.par y (yaY hp)with k|k
  ·exact .inl ⟨k,zhS ndP hp hu k⟩
  ·obtain⟨c,e⟩:=zjA (n:=s.heap.objs.size+1) k;refine .inr ⟨.inl k,c,e,?_⟩;have q:=x.cell y c e;rw[zhU ndP hp hu (by show scope.names.lookup y≠_;rw[k];decide)]at q;exact q
 ·exact e0.hok.fresh (ycu (x.above y c (yaA h)))
 ·unfold zdE;show _=N.length;rw[yah,yab,yaS];omega
def ztx{CX:CXT}{P:Program}{w:World}{K:PySem.W.Frag}{mg:Z6}{base:Heap}{k:Nat}{f:Addr}{name qual:Str}{params:Arguments}{body:List Stmt}{scope:Scope}{dV kV doc pm cdv ct oc:Value}{an od:Option Addr}
  {osl:Array (Option Value)}{N ps:List Str}{sp:Sp} (lk:K.lookup f=some ⟨oc,od,.func (PySem.W.fnOf name qual params body scope dV kV doc pm an cdv ct),osl⟩) (hcd:PySem.W.codeIn K cdv qual=true) (S:FnScope N ps scope)
  (len:∀vs H Q E,sp vs H Q E->vs.length=ps.length)
  (hbody:∀(A:Around) (outer:List Env) (s:Shared) (H:Hp) (vs:List V) (Q:VK) (E:XK),Room k (A.deeper (envOfC qual scope s.heap.objs.size f cdv))->sp vs H Q E →
   ∃t,PSs (ziu CX P w K mg base N qual scope f cdv A outer s H E) body t/\t {nx:=fun _ H'=>Q .non H',rt:=Q} (zdE N vs) H):
  FnOk P w K mg base CX (k+1) f (PySem.W.fnOf name qual params body scope dV kV doc pm an cdv ct) ps sp:=by
 refine⟨len,fun A outer s H args us vs Q E hr e0 hb r hsp=>?_⟩;have hl:=len _ _ _ _ hsp;have KX:K.In s.heap:=e0.mod.kin.keeps fun b o e=>(e0.bs b o e).1
 have lim:s.heap.NoLimit:=e0.mod.nolimit.keeps fun b o e=>(e0.bs b o e).1
 have hkind:∀y∈ps.zip us,scope.names.lookup y.1=some .local\/(scope.names.lookup y.1=some .cell/\((cellsFrom (s.heap.objs.size+1) scope.names []).lookup y.1).isSome=true):=fun⟨n,v⟩ hy=>by
  rcases S.par n (ya8 hy).1 with q|q
  ·exact .inl q
  ·exact .inr ⟨q,ybz _ _ _ (.inl q)⟩
 refine ycv hr.depth (KX _ _ lk) rfl S.co S.gen rfl (ycR KX hcd) (hb _ _ _ _ ?_);refine ybQ S.kind hkind fun env he s1 x=>?_
 subst he;refine⟨lim.keeps x.toInCall.keep,codeAny_func ?_⟩;obtain⟨t,ht,hq⟩:=hbody A outer s H vs Q E (hr.deeper _) hsp;have I:Inv (ziu CX P w K mg base N qual scope f cdv A outer s H E) [] (zdE N vs) H s1:=zfh S hr.hd e0 hl r x;refine yaV (ht [] s1 (zdE N vs) H _ I hq) (fun fl s' hs=>?_) fun e s' hs=>hs
 have fin:∀{σ':St}{H':Hp}{v:V}{u:Value},Inv (ziu CX P w K mg base N qual scope f cdv A outer s H E) [] σ' H' s'->zaV v u->Q v H'->CE outer P w H s Q u s':=
  fun {σ' H' v u} J rv q=>⟨v,H',J.os,J.bare,J.base,J.hok,rv,q⟩
 cases fl with
 |ret u=>
  obtain⟨v,σ',H',J,rv,q⟩:=hs;exact fin J rv q
 |next=>
  obtain⟨σ',H',J,q⟩:=hs;exact fin (v:=V.non) (u:=Value.none) J rfl q
 |brk=>
  obtain⟨_,_,_,q⟩:=hs;exact False.elim q
 |cont=>
  obtain⟨_,_,_,q⟩:=hs;exact False.elim q
section
variable{X:Cx}{x:Str}{p pos:Pos}{e:Expr}{es:List Expr}{t:TA}{id T:String}{r:List V->Hp->VK->Prop}
noncomputable def tCB(r:List V->Hp->VK->Prop)(t:TA):TE:=fun σ H Q=>t σ H fun vs H1=>r vs H1 Q
def zcP(hc:zdS X (.builtin id) r)(hg:Gl X x)(hm:X.mg x=none)(hv:bootBuiltins x=some (.builtin id))(ha:PA X (e::es) t)(hn:autoParam (x ≠ "__name__") yAR)(hdb:autoParam ((x==("__debug__":Str))=false) yAR)
  (he:autoParam (starEach (e::es) X.env=(false,eval e X.env)::starEach es X.env) yAW) (hpl:autoParam ((backTo pos (starEach es X.env)).any (·.1)=false) yAW):PE X (.Call (.Name x p) (e::es) [] pos) (tCB r t):=by
 intro pins s σ H Q I h;refine ya2 (zht I hg hm hv ?_ hn hdb);exact PyProof.Rows.callWith_builtin1 (thn (ha pos pins s σ H _ I h) fun us s1 ⟨vs,H1,I1,r1,q1⟩=>hc pins s1 σ H1 vs us Q I1 r1 q1) he hpl
def ze3(hc:zdS X (.type T) r)(hg:Gl X x)(hm:X.mg x=none)(hv:bootBuiltins x=some (.type T))(ha:PA X (e::es) t)(hn:autoParam (x ≠ "__name__") yAR)(hdb:autoParam ((x==("__debug__":Str))=false) yAR)
  (he:autoParam (starEach (e::es) X.env=(false,eval e X.env)::starEach es X.env) yAW) (hpl:autoParam ((backTo pos (starEach es X.env)).any (·.1)=false) yAW):PE X (.Call (.Name x p) (e::es) [] pos) (tCB r t):=by
 intro pins s σ H Q I h;refine ya2 (zht I hg hm hv ?_ hn hdb);exact ybF (thn (ha pos pins s σ H _ I h) fun us s1 ⟨vs,H1,I1,r1,q1⟩=>hc pins s1 σ H1 vs us Q I1 r1 q1) he hpl
end
end L2
namespace HT
open PySem PyProof.Rows
section
open PySem.SeqAt
open PySem.AutoSeq1 (wpAny_loadPart')
open PySem.MeetsSeq PySem.MeetsSeq2 PySem.MeetsSeq3
end
section
variable{prog:Program}{w:World}{A:Around}{E:Z5}{s:Shared}
def zre{t b:Addr}{vs ws:List Value}{Q:Z5}(ht:IsTup s.heap t vs.toArray)(hb:IsTup s.heap b ws.toArray)(hv:vs≠[])
  (h1:ws=[]->Q (.ref t) s) (h2:ws≠[]->Q (.ref s.heap.objs.size) {s with heap:=s.heap.push {cls:=.type "tuple",data:=.seq (vs++ws).toArray}})
  (hsz:vs.length+ws.length<=sizeLine):wpAny (model prog w) A (binaryOp .Add (.ref t) (.ref b)) Q E s:=by
 obtain⟨⟨cls,dd,data,sl⟩,ho,hc,n,hd⟩:=id ht;obtain⟨⟨cls2,dd2,data2,sl2⟩,ho2,hc2,n2,hd2⟩:=id hb;simp only at hc hd hc2 hd2;subst hc hd hc2 hd2
 have e:vs.toArray++ws.toArray=(vs++ws).toArray:=by simp
 by_cases hw:ws=[]
 ·exact concat_meets ⟨_,ho,rfl⟩ ⟨_,ho2,rfl⟩ noFill_tuple_add seq_tuple_add ycn yca (yb2 _ _)
   (tuple_addW1 t b vs.toArray ws.toArray n n2 dd dd2 sl sl2 (by simpa using hv) (by simp[hw])) ⟨ho,ho2,h1 hw⟩
 ·refine concat_meets ⟨_,ho,rfl⟩ ⟨_,ho2,rfl⟩ noFill_tuple_add seq_tuple_add ycn yca (yb2 _ _)
   (tuple_addW2 t b vs.toArray ws.toArray n n2 dd dd2 sl sl2 (by simpa using hv) (by simpa using hw) (by rw[yaq,yaq];exact hsz)) ⟨ho,ho2,?_⟩
  rw[e];exact h2 hw
noncomputable def sIx(n d:Nat):Option Int->Nat
 |none=>d|some v=>if v<0 then(v+(n:Int)).toNat else min v.toNat n
def zm4(n d:Nat):sIx n d none=d:=rfl
theorem zpX(n d k:Nat):sIx n d (some (k:Int))=min k n:=by
 show(if(k:Int)<0 then((k:Int)+(n:Int)).toNat else min (k:Int).toNat n)=min k n;rw[if_neg (by omega),ybL]
end
end HT
namespace L2
open PySem PySem.Spec PyProof.Rows
noncomputable abbrev TO:=St->Hp->(Option Int->Hp->Prop)->Prop
noncomputable def PO(X:Cx)(e:Option Expr)(t:TO):Prop:=
 ∀(pins:Z3) (s:Shared) (σ:St) (H:Hp) (Q:Option Int->Hp->Prop),Inv X pins σ H s->t σ H Q →
  wpAny (model X.prog X.w) X.A (evalPart e X.env) (fun u s'=>∃o H',Inv X pins σ H' s'/\IsPart u o/\Q o H') X.xe s
noncomputable def zkH:TO:=fun _ H Q=>Q none H
noncomputable def zrB(t:TE):TO:=fun σ H Q=>t σ H fun x H1=>∃i,x=.int i/\Q (some i) H1
section
variable{X:Cx}{e:Expr}{te:TE}{lo hi:Option Expr}{tl th:TO}{pos p2:Pos}
def zqg:PO X none zkH:=by
 intro pins s σ H Q I h;rw[evalPart_none];exact yap ⟨none,H,I,.none,h⟩
def zqf(h:PE X e te):PO X (some e) (zrB te):=by
 intro pins s σ H Q I hw;rw[evalPart_some];refine thn (h pins s σ H _ I hw) fun u s1 ⟨x,H1,I1,r1,q1⟩=>?_
 obtain⟨i,rfl,q⟩:=q1;obtain⟨t,rfl⟩:=r1;exact⟨some i,H1,I1,.int i t,q⟩
noncomputable def SlR(X:Cx)(r:V->Option Int->Option Int->Hp->VK->Prop):Prop:=
 ∀(pins:Z3) (s:Shared) (σ:St) (H:Hp) (x:V) (v vl vu:Value) (lo hi:Option Int) (sl:Addr) (Q:VK),Inv X pins σ H s->zaV x v->s.heap.IsSliceOf sl vl vu .none->IsPart vl lo->IsPart vu hi->r x lo hi H Q →
  ∃T id,typeLookup (.type T) "__getitem__"=pure (some (.builtin id))/\s.TypeIs v T/\wpAny (model X.prog X.w) X.A (getItem v (.ref sl)) (EP X pins σ Q) X.xe s
noncomputable def tSl(r:V->Option Int->Option Int->Hp->VK->Prop)(te:TE)(tl th:TO):TE:=fun σ H Q=>te σ H fun x H1=>tl σ H1 fun l H2=>th σ H2 fun u H3=>r x l u H3 Q
def znn(hr:SlR X r)(he:PE X e te)(hl:PO X lo tl)(hu:PO X hi th):PE X (.Subscript e (.Slice lo hi none p2) pos) (tSl r te tl th):=by
 intro pins s σ H Q I h;refine Subscript_ (thn (he pins s σ H _ I h) fun v s1 ⟨x,H1,I1,r1,q1⟩=>?_);refine wpAny_Slice (thn (hl pins s1 σ H1 _ I1 q1) fun vl s2 ⟨l,H2,I2,pl,q2⟩=>thn (hu pins s2 σ H2 _ I2 q2) fun vu s3 ⟨u,H3,I3,pu,q3⟩=>?_);rw[evalPart_none];refine yap ?_;have I4:Inv X pins σ H3 {s3 with heap:=s3.heap.push {cls:=.type "slice",data:=.fields #[vl,vu,.none]}}:=I3.kept (t':=s3.toks) fun b ob q=>yaf _ q
 obtain⟨T,id,hT,ht,hg⟩:=hr pins {s3 with heap:=s3.heap.push {cls:=.type "slice",data:=.fields #[vl,vu,.none]}} σ H3 x v vl vu l u s3.heap.objs.size Q I4 r1 (Heap.IsSliceOf.new ..) pl pu q3;show wpAny (model X.prog X.w) X.A (subscriptTail e (.Slice lo hi none p2) v (.ref s3.heap.objs.size)) (EP X pins σ Q) X.xe {s3 with heap:=s3.heap.push {cls:=.type "slice",data:=.fields #[vl,vu,.none]}};exact tail_any (ops:=[.ref s3.heap.objs.size,v]) ht hT hg (by with_unfolding_all rfl)
def zrr(xs:List V)(lo hi:Option Int):List V:=(xs.drop (HT.sIx xs.length 0 lo)).take (HT.sIx xs.length xs.length hi-HT.sIx xs.length 0 lo)
theorem ziv(xs:List V)(lo hi:Option Int):(zrr xs lo hi).length<=xs.length:=by
 unfold zrr;rw[List.length_take,List.length_drop];omega
noncomputable def zva(K:PySem.W.Frag):R2:=fun x y H Q=>∃a b xs ys,x=.ref a/\y=.ref b/\SqT K H a xs/\SqT K H b ys/\xs≠[]/\xs.length+ys.length<=sizeLine ∧
 (ys=[]->Q (.ref a) H)/\(ys≠[]->∀p,H p=none->Q (.ref p) (upd H p (.tup (xs++ys))))
def Vals.nil_iff(r:Vals xs us):us=[]↔xs=[]:=by
 cases r with
 |nil=>simp|cons _ _=>simp
def zqt:OpR X (binaryOp .Add) (zva X.K):=by
 intro pins s σ H x y v u Q I rx ry h;obtain⟨a,b,xs,ys,rfl,rfl,ha,hb,hx,hz,q1,q2⟩:=h;cases rx;cases ry;obtain⟨its,r1,p1,_⟩:=I.tuple ha;obtain⟨its2,r2,p2,_⟩:=I.tuple hb;refine HT.zre p1 p2 (fun z=>hx (r1.nil_iff.mp z)) (fun z=>⟨.ref a,H,I,rfl,q1 (r2.nil_iff.mp z)⟩) (fun z=>?_) (by rw[<-r1.length,<-r2.length];exact hz);refine⟨.ref s.heap.objs.size,_,I.laid (t':=s.toks) (o:=.tup (xs++ys)) (fun b ob q=>yaf _ q) (yal _) ?_,rfl,q2 (fun w=>z (r2.nil_iff.mpr w)) _ (I.hok.fresh (yal _))⟩;exact⟨by rw[yah];exact hz,_,r1.append r2,zpe.new _ _⟩
end
noncomputable def ixN(n:Nat)(i:Int):Option Nat:=if 0<=i then(if i<n then some i.toNat else none)else if -(n:Int)<=i then some (i+n).toNat else none
def atI{α:Type}(xs:List α)(i:Int):Option α:=(ixN xs.length i).bind fun j=>xs[j]?
theorem zqT(h:ixN n i=some j):seqIndex? i n=some j/\j<n/\-(n:Int)<=i/\i<n:=by
 unfold ixN at h
 by_cases h0:0<=i
 ·rw[if_pos h0]at h
  by_cases h1:i<n
  ·rw[if_pos h1]at h;have e:i.toNat=j:=Option.some.inj h;exact⟨by rw[seqIndex_of h0 h1,e],by omega,by omega,h1⟩
  ·rw[if_neg h1]at h;cases h
 ·rw[if_neg h0]at h
  by_cases h1:-(n:Int)<=i
  ·rw[if_pos h1]at h;have e:(i+n).toNat=j:=Option.some.inj h;exact⟨by rw[seqIndex_neg (by omega) h1,e],by omega,h1,by omega⟩
  ·rw[if_neg h1]at h;cases h
def ziE{α:Type}{xs:List α}{v:α}(h:atI xs i=some v):∃j,seqIndex? i xs.length=some j/\xs[j]?=some v/\j<xs.length/\-(xs.length:Int)<=i/\i<xs.length:=by
 unfold atI at h
 cases e:ixN xs.length i with
 |none=>rw[e]at h;cases h|some j=>
  rw[e]at h;obtain⟨h1,h2,h3,h4⟩:=zqT e;exact⟨j,h1,h,h2,h3,h4⟩
noncomputable def ziF(b:Expr):Prop:=∀o i,subscripted b false o i=operate [o,i] (getItem o i)
noncomputable def IxR(X:Cx)(r:R2):Prop:=
 ∀(value slice:Expr) (pins:Z3) (s:Shared) (σ:St) (H:Hp) (x y:V) (v u:Value) (Q:VK),Inv X pins σ H s->zaV x v->zaV y u->r x y H Q →
  subscripted slice false v u=operate [v,u] (getItem v u)->wpAny (model X.prog X.w) X.A (subscriptTail value slice v u) (EP X pins σ Q) X.xe s
noncomputable def MtR(X:Cx)(id:String)(r:V->List V->Hp->VK->Prop):Prop:=
 ∀(pins:Z3) (s:Shared) (σ:St) (H:Hp) (x:V) (xs:List V) (v:Value) (us:List Value) (Q:VK),Inv X pins σ H s->zaV x v->Vals xs us->r x xs H Q →
  wpAny (model X.prog X.w) X.A (call (.builtin id) (v::us)) (EP X pins σ Q) X.xe s
section
variable{X:Cx}{a b:Expr}{ta tb:TE}{pos:Pos}
def zvh(hr:IxR X r)(ha:PE X a ta)(hb:PE X b tb)(hs:ziF b):PE X (.Subscript a b pos) (tOp r ta tb):=by
 intro pins s σ H Q I h;exact Subscript_ (zv5 ha hb I h fun v u s2 x y H2 I2 rx ry q=>hr a b pins s2 σ H2 x y v u Q I2 rx ry q (hs _ _))
noncomputable def zyj(K:PySem.W.Frag):R2:=fun x y H Q=>∃p xs i v,x=.ref p/\y=.int i/\SqL K H p xs/\atI xs i=some v/\Q v H
noncomputable def zyh(K:PySem.W.Frag):R2:=fun x y H Q=>∃p xs i v,x=.ref p/\y=.int i/\SqT K H p xs/\atI xs i=some v/\Q v H
noncomputable def zyi:R2:=fun x y H Q=>∃z i c,x=.str z/\y=.int i/\z.length<=sizeLine/\atI z.cps.toList i=some c/\Q (.str ⟨#[c]⟩) H
theorem zlT:IxR X (zyj X.K):=by
 intro value slice pins s σ H x y v u Q I rx ry h hs;obtain⟨p,xs,i,z,rfl,rfl,hq,he,q⟩:=h;cases rx;obtain⟨t,rfl⟩:=ry;obtain⟨its,r,pl,hz⟩:=I.list hq;obtain⟨j,h1,h2,h3,h4,h5⟩:=ziE he;obtain⟨w,ew,rw'⟩:=r.get h2;have hl:=r.length;have hn:=zhr;have fin:EP X pins σ Q w s:=⟨z,H,I,rw',q⟩
 by_cases h0:0<=i
 ·have hj:i.toNat=j:=by
   rw[seqIndex_of h0 h5]at h1;exact Option.some.inj h1
  exact item_listR pl.isList h0 (by omega) (by rw[hj];simpa using ew) fin hs
 ·have hj:(i+(its.toArray.size:Int)).toNat=j:=by
   rw[seqIndex_neg (by omega) h4]at h1;rw[yaq,<-hl];exact Option.some.inj h1
  exact subscriptTail_builtinR (x:=w) pl.isList.typeIs slot_list_getitem.lookup
   (wpAny_getItem_list_neg (Q:=fun r s'=>r=w/\EP X pins σ Q r s') pl.isList (by omega) (by rw[yaq]<;>omega) (by omega) (by rw[hj];simpa using ew) ⟨rfl,fin⟩) hs
theorem zto:IxR X (zyh X.K):=by
 intro value slice pins s σ H x y v u Q I rx ry h hs;obtain⟨p,xs,i,z,rfl,rfl,hq,he,q⟩:=h;cases rx;obtain⟨t,rfl⟩:=ry;obtain⟨its,r,pl,hz⟩:=I.tuple hq;obtain⟨j,h1,h2,h3,h4,h5⟩:=ziE he;obtain⟨w,ew,rw'⟩:=r.get h2;have hl:=r.length;have hn:=zhr;have fin:EP X pins σ Q w s:=⟨z,H,I,rw',q⟩
 exact subscriptTail_builtinR (x:=w) pl.typeIs slot_tuple_getitem.lookup
  (getItem_tuple (j:=j) (Q:=fun r s'=>r=w/\EP X pins σ Q r s') pl (by omega) (by omega) (by rw[yaq,<-hl];exact h1) (by simpa using ew) ⟨rfl,fin⟩) hs
def ztp:IxR X zyi:=by
 intro value slice pins s σ H x y v u Q I rx ry h hs;obtain⟨z,i,c,rfl,rfl,hz,he,q⟩:=h;obtain⟨t,rfl⟩:=rx;obtain⟨t',rfl⟩:=ry;obtain⟨j,h1,h2,h3,h4,h5⟩:=ziE he
 have hl:z.cps.toList.length=z.length:=by simp[Str.length]
 rw[hl]at h1 h4 h5;have hn:=zhr
 exact tail_any (ybM s z t) slot_str_getitem.lookup (getItem_str (c:=c) (by
  have e1:decide (i < -(2 ^ 63:Int))=false:=yaJ (by omega);have e2:decide (i ≥ 2 ^ 63)=false:=yaJ (by omega)
  rw[e1,e2,Bool.or_false]) (by rw[h1];simpa using h2) ⟨.str ⟨#[c]⟩,H,I.tok _,⟨_,rfl⟩,q⟩) hs
theorem zg3(lo hi:Option Int)(n:Nat):(sliceBounds lo hi none n).1=((HT.sIx n 0 lo:Nat):Int)/\(sliceBounds lo hi none n).2.1=((HT.sIx n n hi:Nat):Int)/\(sliceBounds lo hi none n).2.2=1:=by
 refine⟨?_,?_,rfl⟩
 ·cases lo with
  |none=>simp[sliceBounds,HT.sIx]|some i=>
   simp only[sliceBounds,HT.sIx,Option.getD_none,show(1:Int) > 0 by decide,ycT]
   by_cases h:i<0
   ·simp only[h,ycT]<;>omega
   ·simp only[h,yc3]<;>omega
 ·cases hi with
  |none=>simp[sliceBounds,HT.sIx]|some i=>
   simp only[sliceBounds,HT.sIx,Option.getD_none,show(1:Int) > 0 by decide,ycT]
   by_cases h:i<0
   ·simp only[h,ycT]<;>omega
   ·simp only[h,yc3]<;>omega
def zgf(its:List Value)(lo hi:Option Int):slicePick its.toArray lo hi none=((its.drop (HT.sIx its.length 0 lo)).take (HT.sIx its.length its.length hi-HT.sIx its.length 0 lo)).toArray:=by
 obtain⟨h1,h2,h3⟩:=zg3 lo hi its.toArray.size;unfold slicePick;rw[h1,h2,h3]
 simp only[sliceRange_one,pick_run,yaq]<;>rfl
noncomputable def zyf(K:PySem.W.Frag):V->Option Int->Option Int->Hp->VK->Prop:=fun x lo hi H Q=>∃a xs,x=.ref a/\SqL K H a xs/\∀p,H p=none->Q (.ref p) (upd H p (.lst (zrr xs lo hi)))
theorem zpM:SlR X (zyf X.K):=by
 intro pins s σ H x v vl vu lo hi sl Q I rx hs pl pu h;obtain⟨a,xs,rfl,hx,q⟩:=h;cases rx;obtain⟨its,r,ht,hz⟩:=I.list hx;have hlen:=r.length;refine⟨"list",_,slot_list_getitem.lookup,ht.isList.typeIs,?_⟩;refine wpAny_getItem_list_slice ht.isList hs pl pu .none (by simp) ?_ (by rw[yaq]<;>omega);rw[zgf,<-hlen];refine⟨.ref s.heap.objs.size,_,I.laid (t':=s.toks) (o:=.lst (zrr xs lo hi)) (fun b ob q=>yaf _ q) (yal _) ?_,rfl,q _ (I.hok.fresh (yal _))⟩;exact⟨yas (ziv xs lo hi) hz,_,0,(r.drop (HT.sIx xs.length 0 lo)).take (HT.sIx xs.length xs.length hi-HT.sIx xs.length 0 lo),yar _ rfl⟩
theorem zcw:zdS X (.builtin "len") (fun xs H Q=>∃p ys,xs=[.ref p]/\(SqL X.K H p ys\/SqT X.K H p ys)/\Q (.int ys.length) H):=by
 intro pins s σ H xs us Q I r h;obtain⟨p,ys,rfl,hq,q⟩:=h;obtain⟨u,rfl,rx⟩:=zgb r;cases rx;have hn:=zhr
 rcases hq with hq|hq
 ·obtain⟨its,r',pl,hz⟩:=I.list hq;have hlen:=r'.length;exact Calls.call_len_list pl.isList (by simp only[yaq]<;>omega) ⟨.int ys.length,H,I.tok _,⟨s.toks+1,by rw[yaq,hlen]⟩,q⟩
 ·obtain⟨its,r',pl,hz⟩:=I.tuple hq;have hlen:=r'.length;exact len_tuple pl (by simp only[yaq]<;>omega) ⟨.int ys.length,H,I.tok _,⟨s.toks+1,by rw[yaq,hlen]⟩,q⟩
theorem zhN:zdS X (.builtin "len") (fun xs H Q=>∃z,xs=[.str z]/\z.length<=sizeLine/\Q (.int z.length) H):=by
 intro pins s σ H xs us Q I r h;obtain⟨z,rfl,hz,q⟩:=h;obtain⟨u,rfl,t,rfl⟩:=zgb r;have hn:=zhr;exact len_str (by omega) ⟨.int z.length,H,I.tok _,⟨_,rfl⟩,q⟩
theorem zea:zdS X (.type "tuple") (fun xs H Q=>∃p ys,xs=[.ref p]/\((SqL X.K H p ys/\∀l,H l=none->Q (.ref l) (upd H l (.tup ys)))\/(SqT X.K H p ys/\Q (.ref p) H))):=by
 intro pins s σ H xs us Q I r h;obtain⟨p,ys,rfl,h⟩:=h;obtain⟨u,rfl,rx⟩:=zgb r;cases rx
 rcases h with⟨hq,q⟩|⟨hq,q⟩
 ·obtain⟨its,r',pl,hz⟩:=I.list hq;have hlen:=r'.length;refine call_tuple_list pl.isList (fun h' kp=>?_) (by simp only[yaq]<;>omega);have I1:Inv X pins σ H {s with heap:=h'}:=I.kept (t':=s.toks) kp
  have I2:Inv X pins σ (upd H h'.objs.size (.tup ys)) {s with heap:=h'.push {cls:=.type "tuple",data:=.seq its.toArray}}:=
   I1.laid (t':=s.toks) (fun b o e=>yaf _ e) (yal _) (show za3 X.prog X.w _ _ _ (.tup ys)from⟨hz,its,r',zpe.new _ _⟩)
  exact⟨.ref h'.objs.size,_,I2,rfl,q _ (I1.hok.fresh (yal _))⟩
 ·obtain⟨its,r',pl,hz⟩:=I.tuple hq;exact call_tuple_same pl ⟨.ref p,H,I,rfl,q⟩
noncomputable def tyV(K:PySem.W.Frag)(T:String)(x:V)(H:Hp):Prop:=match x with
 |.str _=>T="str"|.int _=>T="int"|.ref p=>(T="list" /\ ∃xs,SqL K H p xs)\/(T="tuple" /\ ∃o,K.lookup p=some o/\o.cls=.type "tuple" /\ o.dict=none) ∨
   (T="dict" /\ ((∃kvs,H p=some (.dK kvs))\/∃kvs,H p=some (.dT kvs)))\/(T="set" /\ ∃S n,H p=some (.set S n))
 |_=>False
def zop(I:Inv X pins σ H s)(r:zaV x v)(ty:tyV X.K T x H):
  s.TypeIs v T/\∀a,v=.ref a->∃ob,s.heap.get? a=some ob/\ob.dict=none:=by
 cases x with
 |str z=>
  obtain⟨t,rfl⟩:=r;cases (show T="str"from ty);exact⟨ybM s z t,fun _ e=>nomatch e⟩
 |int i=>
  obtain⟨t,rfl⟩:=r;cases (show T="int"from ty);exact⟨typeIs_int s i t,fun _ e=>nomatch e⟩
 |ref p=>
  cases r
  rcases ty with⟨rfl,xs,hq⟩|⟨rfl,o,hk,hc,hd⟩|⟨rfl,hk⟩|⟨rfl,S,n,hk⟩
  ·obtain⟨its,_,pl,_⟩:=I.list hq;refine⟨pl.isList.typeIs,fun a e=>?_⟩;cases e;obtain⟨o,n,e,c,hd,_⟩:=pl;exact⟨o,e,hd⟩
  ·refine⟨⟨o,I.kIn p o hk,hc⟩,fun a e=>?_⟩;cases e;exact⟨o,I.kIn _ o hk,hd⟩
  ·have z:∃o,s.heap.get? p=some o/\o.ExactDict:=by
    rcases hk with⟨kvs,hk⟩|⟨kvs,hk⟩
    ·obtain⟨_,_,_,_,o,_,_,e,ex,_⟩:=I.hok p _ hk;exact⟨o,e,ex⟩
    ·obtain⟨_,_,_,_,o,_,_,e,ex,_⟩:=I.hok p _ hk;exact⟨o,e,ex⟩
   obtain⟨o,e,ex⟩:=z;refine⟨⟨o,e,ex.1⟩,fun a e2=>?_⟩;cases e2;exact⟨o,e,ex.2.1⟩
  ·obtain⟨o,_,_,_,e,ex,_⟩:=I.hok p _ hk;refine⟨⟨o,e,ex.1⟩,fun a e2=>?_⟩;cases e2;exact⟨o,e,ex.2.1⟩
 |_=>exact False.elim ty
noncomputable def zx7(K:PySem.W.Frag)(T:String)(r:V->List V->Hp->VK->Prop)(to:TE):TE:=fun σ H Q=>to σ H fun x H1=>tyV K T x H1/\r x [] H1 Q
noncomputable def tBM(K:PySem.W.Frag)(T:String)(r:V->List V->Hp->VK->Prop)(to:TE)(t:TA):TE:=fun σ H Q=>to σ H fun x H1=>tyV K T x H1/\t σ H1 fun xs H2=>r x xs H2 Q
variable{o e:Expr}{es:List Expr}{to:TE}{t:TA}{name:Str}{apos cpos:Pos}{T id:String}{r:V->List V->Hp->VK->Prop}
def zsw(pa:PlainAttrs T)(slot:Slot T name id)(hty:typeOf (.builtin id)=pure (.type "method_descriptor"))(hm:MtR X id r)(ho:PE X o to)
  (hbase:autoParam (attributeBase o name X.env (eval o X.env)=eval o X.env) yAW) (hline:autoParam ((apos.endLine==cpos.line)=true) yAW):PE X (.Call (.Attribute o name apos) [] [] cpos) (zx7 X.K T r to):=by
 intro pins s σ H Q I h;refine wpAny_Call_method0_late hbase hline (thn (ho pins s σ H _ I h) fun v s1 ⟨x,H1,I1,r1,ty,q1⟩=>?_);obtain⟨h1,h2⟩:=zop I1 r1 ty;exact⟨T,id,pa,slot,hty,h1,h2,ybf rfl (PySem.evalArgs_none (hm pins s1 σ H1 x [] v [] Q I1 r1 .nil q1))⟩
def zlo(pa:PlainAttrs T)(slot:Slot T name id)(hty:typeOf (.builtin id)=pure (.type "method_descriptor"))(hm:MtR X id r)(ho:PE X o to)(ha:PA X (e::es) t)
  (hbase:autoParam (attributeBase o name X.env (eval o X.env)=eval o X.env) yAW)
  (hfew:autoParam (((backTo cpos (starEach (e::es) X.env)).all (fun x=>!x.1)&&(backToKw cpos (keywordEach [] X.env)).all (fun x=>x.1.isSome)
   && decide ((e::es).length+([]:List Keyword).length+(if([]:List Keyword).isEmpty then 0 else 1)<30))=true) yAW)
  (hline:autoParam ((apos.endLine==cpos.line)=true) yAW) (hs:autoParam (starEach (e::es) X.env=(false,eval e X.env)::starEach es X.env) yAW) (hplain:autoParam ((backTo cpos (starEach es X.env)).any (·.1)=false) yAW):
  PE X (.Call (.Attribute o name apos) (e::es) [] cpos) (tBM X.K T r to t):=by
 intro pins s σ H Q I h;refine wpAny_Call_method_late hbase hfew hline rfl (thn (ho pins s σ H _ I h) fun v s1 ⟨x,H1,I1,r1,ty,q1⟩=>?_);obtain⟨h1,h2⟩:=zop I1 r1 ty;refine⟨T,id,pa,slot,hty,h1,h2,?_⟩;have hA:=ha cpos pins s1 σ H1 _ I1 q1;rw[hs]at hA ⊢;refine ybf (by show(false||(backTo cpos (starEach es X.env)).any (·.1))=false;rw[hplain]<;>rfl) (ybr ?_);exact thn hA fun us s2 ⟨vs,H2,I2,r2,q2⟩=>hm pins s2 σ H2 x vs v us Q I2 r1 r2 q2
end
noncomputable def MtM(X:Cx)(id:String)(r:V->List V->Hp->VK->Prop):Prop:=
 ∀(pins:Z3) (s:Shared) (σ:St) (H:Hp) (x:V) (xs:List V) (v:Value) (us:List Value) (Q:VK),Inv X pins σ H s->zaV x v->Vals xs us->r x xs H Q →
  wpAny (model X.prog X.w) X.A (call (.builtin id) (v::us)) (EP X pins σ Q) X.xe s
theorem Vals.one:∀{x:V}{us:List Value},Vals [x] us->∃u,us=[u]/\zaV x u
 |_,_,.cons r .nil=>⟨_,rfl,r⟩
theorem Vals.zero:∀{us:List Value},Vals [] us->us=[]
 |_,.nil=>rfl
theorem Vals.dropLast{xs:List V}{us:List Value}(h:Vals xs us):Vals xs.dropLast us.dropLast:=by
 induction h with
 |nil=>exact .nil|cons r t ih=>
  cases t with
  |nil=>exact .nil|cons q t'=>exact .cons r ih
def zj5{α:Type}(l:List α):l.eraseIdx (l.length-1)=l.dropLast:=by
 induction l with
 |nil=>rfl|cons a r ih=>
  cases r with
  |nil=>rfl|cons b r=>
   have e:(a::b::r).length-1=((b::r).length-1)+1:=by
    have h1:(a::b::r).length=r.length+2:=rfl;have h2:(b::r).length=r.length+1:=rfl;omega
   rw[e,List.eraseIdx_cons_succ,ih]
   all_goals rfl
section
variable{X:Cx}{pins:Z3}{σ:St}{H:Hp}{s:Shared}{l b:Addr}{xs ys zs:List V}
def Inv.lset{its its':List Value}{n:Nat}{f:Array Value->Array Value}{t':Nat}(I:Inv X pins σ H s)(hH:H l=some (.lst xs))
  (e:s.heap.get? l=some {cls:=.type "list",data:=.seq its.toArray n}) (hf:f its.toArray=its'.toArray) (hv:Vals ys its') (hz:ys.length<=sizeLine):
  Inv X pins σ (upd H l (.lst ys)) {s with heap:=s.heap.update l (Obj.mapSeq f),toks:=t'}:=by
 have q:=PySem.IsL.update e f;rw[hf]at q;refine I.write (x:=l) (e:=l) (by rw[hH];exact trivial) (.inl rfl) (fun b' u hb hu=>(Heap.get?_update_other s.heap (Obj.mapSeq f) (Ne.symm hb)).trans hu) ⟨_,q⟩ ?_;exact⟨hz,its',_,hv,q⟩
def Inv.lnew(I:Inv X pins σ H s)(hv:Vals ys its)(hz:ys.length<=sizeLine):
  Inv X pins σ (upd H s.heap.objs.size (.lst ys)) {s with heap:=s.heap.push {cls:=.type "list",data:=.seq its.toArray},toks:=t'}:=
 I.laid (fun _ _ q=>yaf _ q) (yal _) ⟨hz,its,0,hv,yar _ rfl⟩
theorem Inv.fresh(I:Inv X pins σ H s):H s.heap.objs.size=none:=I.hok.fresh (yal _)
def Inv.lstM(I:Inv X pins σ H s)(hH:H l=some (.lst xs)):xs.length<=sizeLine/\∃(its:List Value) (n:Nat),Vals xs its/\xs.length=its.length/\s.heap.get? l=some {cls:=.type "list",data:=.seq its.toArray n}:=by
 obtain⟨z,its,n,r,e⟩:=I.hok l _ hH;exact⟨z,its,n,r,r.length,e⟩
end
section
variable{X:Cx}
noncomputable def zp0:V->List V->Hp->VK->Prop:=fun x vs H Q=>∃l xs y,x=.ref l/\vs=[y]/\H l=some (.lst xs)/\xs.length<sizeLine/\Q .non (upd H l (.lst (xs++[y])))
theorem ze5:MtM X "list.append" zp0:=by
 intro pins s σ H x vs v us Q I rx rv h;obtain⟨l,xs,y,rfl,rfl,hH,hz,q⟩:=h;cases rx;obtain⟨u,rfl,ru⟩:=rv.one;obtain⟨z,its,n,r,hl,e⟩:=I.lstM hH;refine ybN F.slot_list_append ⟨_,e,rfl⟩ F.entry_list_append (F.args_list_append_2 _ _) (PySem.list_append l its.toArray n u (by rw[yaq];omega)) ⟨e,?_⟩;refine⟨.non,_,I.lset (its':=its++[u]) hH e (by simp) (r.append (.cons ru .nil)) ?_,rfl,q⟩;rw[yah,ycw];omega
noncomputable def zyg:V->List V->Hp->VK->Prop:=fun x vs H Q=>∃l xs y,x=.ref l/\vs=[]/\H l=some (.lst xs)/\xs[xs.length-1]?=some y/\Q y (upd H l (.lst xs.dropLast))
theorem zs1:MtM X "list.pop" zyg:=by
 intro pins s σ H x vs v us Q I rx rv h;obtain⟨l,xs,y,rfl,rfl,hH,hy,q⟩:=h;cases rx;have hus:=rv.zero;subst hus;obtain⟨z,its,n,r,hl,e⟩:=I.lstM hH;obtain⟨u,hu,ru⟩:=r.get hy
 have hy':its.toArray[its.toArray.size-1]?=some u:=by
  show its.toArray[its.length-1]?=some u;rw[<-ybl,<-hl];exact hu
 refine ybN F.slot_list_pop ⟨_,e,rfl⟩ F.entry_list_pop (F.args_list_pop_1 _) (MeetsSeq.list_pop_last l its.toArray n u hy' (by rw[yaq];omega)) ⟨e,?_⟩;refine⟨y,_,I.lset (its':=its.dropLast) hH e ?_ r.dropLast ?_,ru,q⟩
 ·show its.toArray.eraseIdxIfInBounds (its.toArray.size-1)=its.dropLast.toArray;rw[yaq,List.eraseIdxIfInBounds_toArray,zj5]
 ·rw[List.length_dropLast];omega
noncomputable def zyk:R2:=fun x y H Q=>∃l b xs zs,x=.ref l/\y=.ref b/\H l=some (.lst xs)/\H b=some (.lst zs)/\xs.length+zs.length<=sizeLine/\∀p,H p=none->Q (.ref p) (upd H p (.lst (xs++zs)))
theorem zsE:OpR X (binaryOp .Add) zyk:=by
 intro pins s σ H x y v u Q I rx ry h;obtain⟨l,b,xs,zs,rfl,rfl,hH,hB,hz,q⟩:=h;cases rx;cases ry;obtain⟨z,its,n,r,hl,e⟩:=I.lstM hH;obtain⟨z2,its2,n2,r2,hl2,e2⟩:=I.lstM hB;refine PySem.P.add_list e e2 ?_ (by rw[yaq,yaq];omega)
 have ea:its.toArray++its2.toArray=(its++its2).toArray:=by simp
 rw[ea];exact⟨.ref _,_,I.lnew (t':=s.toks) (r.append r2) (by rw[yah];omega),rfl,q _ I.fresh⟩
end
end L2
namespace Att
open PySem PySem.W PySem.Calls PyProof.Rows
def zfi:∀(ns:List Int) (vs:List Value),WellAll P h vs (ns.map WData.int)->IntsAre vs ns:=by
 intro ns
 induction ns with
 |nil=>
  intro vs w;rw[List.map_nil]at w;cases w;exact .nil
 |cons n ns ih=>
  intro vs w;rw[yaw]at w
  cases w with
  |cons a b=>
   cases a;exact .cons _ _ (ih _ b)
theorem zkZ{l:OpenLaw}(hn:l.most=some n){P:Params}{h:Heap}
  (hpre:l.row.toRowW.claim.pre args=true) (hwl:WellAll P h vals args):
  ∃a vs ns,vals=[Value.ref a]/\args=[WData.list (ns.map WData.int)]/\h.get? a=some {cls:=.type "list",data:=.seq vs.toArray}/\IntsAre vs ns/\ns.length<=n:=by
 have hsh:WShape.hasAll [] args [.list .int]=true:=(pre_splitW hpre).1;have hc:l.pre.holds [] {args:=args}=true:=(pre_splitW hpre).2;obtain⟨d,r,rfl,h1,h2⟩:=hasAllW_cons hsh;obtain rfl:=hasAllW_nil h2;obtain⟨xs,rfl,h3⟩:=hasW_list h1;obtain⟨ns,rfl⟩:=items_int h3
 have hlen:ns.length<=n:=by
  unfold OpenLaw.pre at hc
  have h4:(WTm.not (.lt (.lit (.int (n:Int))) (.len (.arg 0)))).holds [] {args:=[.list (ns.map .int)]}=true:=by
   have h4:=(holds_andW hc).1;rwa[hn]at h4
  have h5:=condW_of h4 (w_not (w_lt w_lit (w_len_list (w_arg rfl))));rw[yab]at h5;refine Nat.le_of_not_lt fun q=>?_
  have q':(n:Int)<((ns.length:Nat):Int):=by omega
  first
   |(rw[yaz q']at h5;exact absurd h5 (by decide))
   |(simp at h5;omega)
 cases hwl with
 |cons w1 w2=>
  cases w2
  cases w1 with
  |list ho hall=>exact⟨_,_,ns,rfl,rfl,ho,zfi ns _ hall,hlen⟩
def zlj(l:OpenLaw)(args:List WData):l.row.toRowW.claim.post args (.bool true) args=true:=
 postW_of (r:=l.row.toRowW) (X:=(true==true))
  (show WShape.has [] (.bool true) .bool=true by first|rfl|decide|simp[WShape.has,WShape.arms,WShape.armsAll])
  (show(WTm.eq .res (.lit (.bool true))).value [] {args:=args,res:=some (.bool true),after:=args}=some (.bool (true==true))from w_eq_bool (w_res rfl) w_lit) rfl
def ziC{l:OpenLaw}{n:Nat}{q:Program}{loose:List Str}{XP:(Str->Option Value)->Heap->Prop}{YP:World->Heap->Prop}{d:DefRec}
  (hn:l.most=some n) (hdf:d.params.defaults=[])
  (call:∀(w:World) (s₀ s₁:Shared) (mg mb:Z6) (fa:Addr) (o:Obj) (pm cd doc:Value) (a:Addr) (vs:List Value) (ns:List Int),
   Ground q loose [] XP w s₀ mg mb s₁.heap->YP w s₁.heap →
   s₁.heap.get? fa=some o->o.data=.func (docDef d.name d.params d.body d.scope pm cd doc)->s₁.heap.CodeRec cd d.name->mg d.name=some (.ref fa) →
   s₁.heap.get? a=some {cls:=.type "list",data:=.seq vs.toArray}->IntsAre vs ns->ns.length<=n->s₁.gens=#[] →
   codeAny (model l.prog w) callerA (.call (.ref fa) ⟨[.ref a],[]⟩) (fun r s'=>r=.ok (.ret (.bool true))/\OldK s₁.heap s'.heap/\s'.os=s₁.os/\AllBare s'.gens) s₁):
  WalkO q loose XP YP l.row.toRowW d [] (fun f vs=>PySem.call f vs):=by
 intro w s₀ s₁ mg mb G Y fa o pm cd doc dV kV ho hd hcd hD hmg hg args vals as hpre hlay hrd hwl hlo;obtain rfl:dV=.none:=Dflts.none hD hdf;obtain rfl:kV=.none:=Dflts.noKw hD;obtain⟨a,vs,ns,rfl,rfl,hobj,hints,hlen⟩:=zkZ hn hpre hwl;refine enter_call (ybu (call w s₀ s₁ mg mb fa o pm cd doc a vs ns G Y ho (fd_plain hd) hcd hmg hobj hints hlen hg) fun r s' hq=>?_);obtain⟨rfl,h2,h3,h4⟩:=hq;exact⟨.inl ⟨.bool true,.bool true,[],rfl,fun _=>rfl,.bool true,zlj l _,fun _=>⟨List.Pairwise.nil,fun _ hm=>(nomatch hm)⟩⟩,h2,h3,h4⟩
end Att
namespace L2
open PySem PySem.Spec PyProof.Rows
theorem zgT:∀{vs:List Value}{ns:List Int},IntsAre vs ns->Vals (ns.map V.int) vs
 |_,_,.nil=>.nil|_,_,.cons n t h=>.cons ⟨t,rfl⟩ (zgT h)
noncomputable def zbb(s:Stmt):Arguments:=match s with
 |.FunctionDef _ a _ _ _ _ _ _ _ _=>a|_=>{posonlyargs:=[],args:=[],vararg:=none,kwonlyargs:=[],kw_defaults:=[],kwarg:=none,defaults:=[]}
noncomputable def zaP(s:Stmt):List Stmt:=match s with
 |.FunctionDef _ _ b _ _ _ _ _ _ _=>b|_=>[]
noncomputable def zam(s:Stmt):Scope:=match s with
 |.FunctionDef _ _ _ _ _ _ sc _ _ _=>sc|_=>{kind:=.function,names:=[],isGenerator:=false,isCoroutine:=false}
structure Fun(K:PySem.W.Frag)(x qual:Str)(st:Stmt)(f:Addr)(fd:FuncData):Prop where
 ex:∃(oc:Value) (od:Option Addr) (kV doc pm:Value) (an:Option Addr) (cdv ct:Value) (osl:Array (Option Value)),
  fd=PySem.W.fnOf x qual (zbb st) (zaP st) (zam st) .none kV doc pm an cdv ct/\K.lookup f=some ⟨oc,od,.func fd,osl⟩/\PySem.W.codeIn K cdv qual=true
 kp:PySem.W.keepIn K (.ref f)=true
section
variable{P:Program}{w:World}{K:PySem.W.Frag}{mg:Z6}{base:Heap}
def Fun.binds{x qual:Str}{st:Stmt}{f:Addr}{fd:FuncData}{ps:List Str}(F:Fun K x qual st f fd)
  (h:∀(kV doc pm:Value) (an:Option Addr) (cdv ct:Value) (us:List Value),us.length=ps.length->bindArgs (PySem.W.fnOf x qual (zbb st) (zaP st) (zam st) .none kV doc pm an cdv ct) ⟨us,[]⟩=pure (ps.zip us)):zcZ K fd ps []:=by
 obtain⟨oc,od,kV,doc,pm,an,cdv,ct,osl,rfl,lk,hcd⟩:=F.ex;exact .all (h kV doc pm an cdv ct)
def zju{x qual:Str}{st:Stmt}{f:Addr}{oc:Value}{od an:Option Addr}{osl:Array (Option Value)}{kV doc pm cdv ct:Value}(l:K.lookup f=some ⟨oc,od,.func (PySem.W.fnOf x qual (zbb st) (zaP st) (zam st) .none kV doc pm an cdv ct),osl⟩)
  (c:PySem.W.codeIn K cdv qual=true) (k:PySem.W.keepIn K (.ref f)=true):Fun K x qual st f (PySem.W.fnOf x qual (zbb st) (zaP st) (zam st) .none kV doc pm an cdv ct):=⟨⟨oc,od,kV,doc,pm,an,cdv,ct,osl,rfl,l,c⟩,k⟩
end
def zoX{A B:Prop}(h:B):if false=true then A else B:=by
 rw[if_neg yba];exact h
def zoW{A B:Prop}(h:A):if true=true then A else B:=by
 rw[if_pos rfl];exact h
noncomputable def Its(x:Str):It:=⟨fun i _=>i<x.cps.size,fun i H v H'=>H'=H/\∃c,x.cps[i]?=some c/\v=.str ⟨#[c]⟩,fun i _=>i=x.cps.size⟩
def ziQ{P:Program}{w:World}{K:PySem.W.Frag}{tg:Expr}(it:Addr)(x:Str)(t:Tok)(ty:String)(ht:["enumerate","zip","dict_itemiterator","dict_reverseitemiterator","odict_iterator","itertools.zip_longest","itertools.pairwise"].contains ty=false)
  (W:∀A:Around,A.handled=none->Walks P w A it [it] [it] x.cps.size (SignAt x) (fun i h=>h.IsStrIter it ty x t i))
  (Ws:∀(A:Around) (i:Nat) (s:Shared) (Q:Z5) (E:Z5),s.heap.IsStrIter it ty x t i->Q (.ref it) s->wpAny (model P w) A (pyIter (.ref it)) Q E s):Turn P w K tg (Its x) [it] it (fun i h=>h.IsStrIter it ty x t i)where
 mem:=by simp
 obj:=fun i h st b hb=>by
  have e:b=it:=by simpa using hb
  subst e;obtain⟨o,e,c,d⟩:=st;exact⟨o,e,fun v z=>by rw[d]at z;cases z⟩
 keep:=fun i h h' st k=>by
  obtain⟨o,e,r⟩:=st;exact⟨o,k it (by simp) o e,r⟩
 item:=by
  intro X hP hw hK hc i pins s σ H E I hf st hg;subst hP hw hK;obtain⟨f0,f1,f2,f3,f4,f5⟩:=hf it (by simp);refine(W X.A (I.ok.hd hc)).item i s _ _ hg st fun v h' tk hv st' kk=>?_
  obtain⟨c,u,hx,rfl⟩:=hv;have I1:Inv X pins σ H {s with heap:=h',toks:=tk}:=I.turned (fun b o hb e=>kk b o (by simpa using hb) e) f0 f1 f3 f4 f5;obtain⟨o,e,c',d⟩:=id st';exact⟨_,rfl,zl6 (s:={s with heap:=h',toks:=tk}) e c' d ht ⟨.str ⟨#[c]⟩,H,I1,⟨u,rfl⟩,⟨rfl,c,hx,rfl⟩,st',fun b hb=>(hf b hb).1⟩⟩
 done:=by
  intro X hP hw hK hc i pins s σ H E I hf st hg;subst hP hw hK;obtain⟨f0,f1,f2,f3,f4,f5⟩:=hf it (by simp);have hi:i=x.cps.size:=hg;subst hi;exact(W X.A (I.ok.hd hc)).done s _ _ st fun h' tk kk=>⟨rfl,I.turned (fun b o hb e=>kk b o (by simpa using hb) e) f0 f1 f3 f4 f5⟩
 self:=fun A i s Q E st h=>Ws A i s Q E st h
noncomputable def zy4(tl:TE):TI:=fun σ H R=>tl σ H fun v H1=>∃x,v=.str x/\R (Its x) H1
def zsq{X:Cx}{tg l:Expr}{tl:TE}(hl:PE X l tl):PI X tg l (zy4 tl):=by
 intro pins s σ H R I h;refine thn (hl pins s σ H _ I h) fun v s1 ⟨x,H1,I1,r1,q1⟩=>?_
 obtain⟨z,e,q⟩:=q1;subst e;obtain⟨t,rfl⟩:=r1
 have fp:∀b∈[s1.heap.objs.size],zmH X pins H1 b:=fun b hb=>by
  have e:b=s1.heap.objs.size:=by simpa using hb
  subst e;exact I1.fpOk (yal _) (I1.hok.fresh (yal _))
 cases ha:z.cps.all (·<128)
 ·exact wpAny_pyIter_wide ha ⟨s1.heap.objs.size,[s1.heap.objs.size],_,_,H1,rfl,I1.kept (t':=s1.toks) fun b o e=>yaf _ e,ziQ _ z t "str_iterator" (by decide) (fun A hA=>Walks.strWide hA _ z t) (fun A i s Q E st h=>wpAny_pyIter_striter_wide st h),⟨_,yar _ rfl,rfl,rfl⟩,fp,q⟩
 ·exact wpAny_pyIter_ascii ha ⟨s1.heap.objs.size,[s1.heap.objs.size],_,_,H1,rfl,I1.kept (t':=s1.toks) fun b o e=>yaf _ e,ziQ _ z t "str_ascii_iterator" (by decide) (fun A hA=>Walks.strAscii hA _ z t) (fun A i s Q E st h=>wpAny_pyIter_striter_ascii st h),⟨_,yar _ rfl,rfl,rfl⟩,fp,q⟩
def zsC{X:Cx}:OpR X (compareOp .LtE) (fun x y H Q=>∃a b,x=.str a/\y=.str b/\Q (.bl (!decide (b.cps.toList<a.cps.toList))) H):=by
 intro pins s σ H x y v u Q I rx ry h;obtain⟨a,b,rfl,rfl,q⟩:=h;obtain⟨t,rfl⟩:=rx;obtain⟨t',rfl⟩:=ry;exact PySem.P.le_str ⟨.bl (!decide (b.cps.toList<a.cps.toList)),H,I,rfl,q⟩
def zf4(h:∀y∈scope.names,y.2=.free->∃c,env.cells.lookup y.1=some c):
  ∃cl,closureFor scope env=pure cl/\(∀y c,cl.lookup y=some c->env.cells.lookup y=some c)/\∀y,(y,NameKind.free)∈scope.names->∃c,cl.lookup y=some c:=by
 unfold closureFor
 have key:∀(l:List (Str×NameKind)) (cs:List (Str×Addr)),(∀y∈l,y.2=.free->∃c,env.cells.lookup y.1=some c)->(∀y c,cs.lookup y=some c->env.cells.lookup y=some c) →
   ∃cl,(forIn l cs fun(x:Str×NameKind) (r:List (Str×Addr))=>(if(x.2==NameKind.free)=true then(do let c ← cellOf env x.1;pure (ForInStep.yield ((x.1,c)::r)))else pure (ForInStep.yield r):Sem (ForInStep (List (Str×Addr)))))=pure cl ∧
    (∀y c,cl.lookup y=some c->env.cells.lookup y=some c)/\(∀y,(y,NameKind.free)∈l->∃c,cl.lookup y=some c)/\(∀y c,cs.lookup y=some c->∃c',cl.lookup y=some c'):=by
  intro l
  induction l with
  |nil=>intro cs _ hc;exact⟨cs,rfl,hc,fun y hy=>by simp at hy,fun y c e=>⟨c,e⟩⟩
  |cons p l ih=>
   intro cs hl hc;obtain⟨n,k⟩:=p
   by_cases hk:(k==NameKind.free)=true
   ·have ek:k=.free:=eq_of_beq hk;obtain⟨c,ec⟩:=hl (n,k) yam ek
    obtain⟨cl,e1,e2,e3,e4⟩:=ih ((n,c)::cs) (fun y hy=>hl y (yak _ hy)) (fun y c' e=>by
     rw[yaB]at e
     cases hq:y==n with
     |true=>rw[hq]at e;cases e;rw[eq_of_beq hq];exact ec|false=>rw[hq]at e;exact hc y c' e)
    refine⟨cl,?_,e2,fun y hy=>?_,fun y c' e=>?_⟩
    ·rw[ybG];show((if(k==NameKind.free)=true then _ else _) >>= _)=_;rw[if_pos hk]
     have ecell:cellOf env n=pure c:=by unfold cellOf;rw[ec]
     show(cellOf env n >>= _) >>= _=_;rw[ecell];simpa using e1
    ·rcases yat.mp hy with z|hy
     ·cases z;exact e4 n c (by rw[yaB];simp)
     ·exact e3 y hy
    ·cases hq:y==n with
     |true=>exact e4 y c (by rw[yaB,hq])
     |false=>exact e4 y c' (by rw[yaB,hq];exact e)
   ·obtain⟨cl,e1,e2,e3,e4⟩:=ih cs (fun y hy=>hl y (yak _ hy)) hc;refine⟨cl,?_,e2,fun y hy=>?_,e4⟩
    ·rw[ybG];show((if(k==NameKind.free)=true then _ else _) >>= _)=_;rw[if_neg hk];simpa using e1
    ·rcases yat.mp hy with z|hy
     ·cases z;exact absurd rfl hk
     ·exact e3 y hy
 obtain⟨cl,e1,e2,e3,_⟩:=key scope.names [] h (fun y c e=>by simp at e);refine⟨cl,?_,e2,e3⟩;show((forIn scope.names [] _:Sem (List (Str×Addr))) >>= _)=_;have e1':=congrArg (fun m=>m >>= (pure:List (Str×Addr)->Sem (List (Str×Addr)))) e1;simpa using e1
noncomputable def PIf(X:Cx)(ifs:List Expr)(t:TT):Prop:=
 ∀(pins:Z3) (s:Shared) (σ:St) (H:Hp) (Q:Bool->Hp->Prop),Inv X pins σ H s->t σ H Q →
  wpAny (model X.prog X.w) X.A (forIn ifs true fun c r=>if r=true then do let ok ← isTrue c X.env (eval c X.env);pure (ForInStep.yield ok)else pure (ForInStep.yield r)) (TP X pins σ Q) X.xe s
noncomputable def zxZ:TT:=fun _ H Q=>Q true H
def zqj:PIf X [] zxZ:=fun _ _ _ H _ I h=>wpAny_tests_nil ⟨H,I,h⟩
def zqi(h:PT X c t):PIf X [c] t:=fun pins s σ H Q I hw=>wpAny_tests_one (h pins s σ H Q I hw)
theorem zeC{scope:Scope}{env:Env}:∀{names:List (Str×NameKind)}{y:Str},(y,NameKind.free)∈names->(∀z∈names,z.1=y->z.2=.free) →
  (names.map fun(n,k)=>if(k==NameKind.free&&env.scope.kind==.function&&env.kindOf n==some .cell)then(n,NameKind.cell)else(n,k)).lookup y=some .cell ∨
  (names.map fun(n,k)=>if(k==NameKind.free&&env.scope.kind==.function&&env.kindOf n==some .cell)then(n,NameKind.cell)else(n,k)).lookup y=some .free
 |[],_,h,_=>by simp at h
 |(n,k)::r,y,h,u=>by
  rw[yaw];show List.lookup y ((if(k==NameKind.free&&env.scope.kind==.function&&env.kindOf n==some .cell)=true then(n,NameKind.cell)else(n,k))::_)=_\/List.lookup y ((if(k==NameKind.free&&env.scope.kind==.function&&env.kindOf n==some .cell)=true then(n,NameKind.cell)else(n,k))::_)=_
  cases hq:y==n with
  |true=>
   have e:n=y:=(eq_of_beq hq).symm;have ek:k=.free:=u (n,k) yam e
   by_cases hc:(k==NameKind.free&&env.scope.kind==.function&&env.kindOf n==some .cell)=true
   ·rw[if_pos hc];left;simp[yaB,hq]
   ·rw[if_neg hc];right;simp[yaB,hq,ek]
  |false=>
   have hy:(y,NameKind.free)∈r:=by
    rcases yat.mp h with z|z
    ·cases z;simp at hq
    ·exact z
   have ih:=zeC (scope:=scope) (env:=env) hy fun z hz=>u z (yak _ hz)
   by_cases hc:(k==NameKind.free&&env.scope.kind==.function&&env.kindOf n==some .cell)=true
   ·rw[if_pos hc];simpa[yaB,hq]using ih
   ·rw[if_neg hc];simpa[yaB,hq]using ih
def Inv.track(I:Inv X pins σ H s)(hn:H D=none)(h1:X.s₀.heap.objs.size<=D)(h2:D≠X.env.locals)(h3:∀x c,X.env.cells.lookup x=some c->c≠D)(h4:∀p∈X.pn++pins,p.1≠D)
  (new:za3 X.prog X.w (upd H D o) s.heap D o):Inv X pins σ (upd H D o) s:=by
 have nD:∀b u,H b=some u->b≠D:=fun b u e=>zav e hn
 obtain⟨h',g',d',t',o'⟩:=s;refine I.step (h':=h') (g':=g') (d':=d') (t':=t') (ch:=[D]) (fun b hb=>?_) (fun b o _ _ _ e _=>e) (fun b o _ _ _ e _=>⟨o.slots,e⟩) (fun b o hc e n=>?_) (fun b o _ e=>⟨o,e⟩) (fun b xs e=>?_) (fun b o u e=>?_) (fun b ps e=>?_) (fun m hm=>hm) (fun b u e=>?_) I.bare
 ·have e:b=D:=by simpa using hb
  subst e;exact⟨.inr h1,h2,h3,h4⟩
 ·rw[zaf (fun z=>hc (by simp[z]))];exact n
 ·rw[zaf (nD _ _ e)];exact e
 ·rw[zaf (nD _ _ e)];exact e
 ·exact⟨#[],by rw[zaf (nD _ _ e),e];simp⟩
 ·by_cases hb:b=D
  ·subst hb;rw[zaq]at e;cases e;exact new
  ·rw[zaf hb]at e
   exact(I.hok b u e).stay (fun _ _ _ q=>q) (fun c q=>by rw[zaf (nD _ _ q)];exact q) fun c xs q=>by rw[zaf (nD _ _ q)];exact q
section
variable{X:Cx}{elt iter:Expr}{x:Str}{px pos:Pos}{ifs:List Expr}{scope:Scope}{caps:List (Str×Nat)}{wi:TI}{tt:TT}{te:TE}
noncomputable abbrev lob(its:List Value)(k:Nat):Obj:={cls:=.type "list",data:=.seq its.toArray k}
end
section
variable{prog:Program}{w:World}{A:Around}{R:Result->Shared->Prop}{s:Shared}
theorem znL(I:Nat->Shared->Prop)
  (turn:∀n s,I n s->wpAny (model prog w) A (pyNext it) (fun r s₁=>match r with
   |none=>R (.ok .next) s₁|some v=>wpAny (model prog w) A (letOwnedTupleGo target it v) (fun _ s₀=>wpAny (model prog w) A (assign target env v) (fun _ s₂=>
     wpAny (model prog w) A (forIn ifs true fun c r=>if r=true then do let ok ← isTrue c env (eval c env);pure (ForInStep.yield ok)else pure (ForInStep.yield r)) (fun ok s₃=>
      if ok=true then wpAny (model prog w) A (eval elt env) (fun x s₄=>
       wpAny (model prog w) A (call (.builtin "list.append") [acc,x]) (fun _ s₅=>∃m,m<n/\I m s₅) (notedBy (model prog w) A env fun e s'=>R (.error e) s') s₄) (notedBy (model prog w) A env fun e s'=>R (.error e) s') s₃
      else ∃m,m<n/\I m s₃) (notedBy (model prog w) A env fun e s'=>R (.error e) s') s₂) (notedBy (model prog w) A env fun e s'=>R (.error e) s') s₀) (notedBy (model prog w) A env fun e s'=>R (.error e) s') s₁) (notedBy (model prog w) A env fun e s'=>R (.error e) s') s)
  (n:Nat) (h:I n s):codeAny (model prog w) A (.compLoop (.ListComp elt [⟨target,iter,ifs,0⟩] scope pos) 0 it acc env) R s:=by
 refine codeAny_loop rfl I (fun n s hI=>?_) n h;show wpAny _ A ((compTurn (.ListComp elt [⟨target,iter,ifs,0⟩] scope pos) 0 it acc env).onRaise (fun x=>do noteFrame x env;theTreesLotGoes x)) _ _ s;refine wpAny_noted ?_;rw[compTurn_list];refine yac (yc1 (yac (yaV (turn n s hI) (fun r s₁ h₁=>?_) fun _ _ h'=>h')))
 cases r with
 |none=>exact yap h₁|some v=>
  refine yac (yaV h₁ (fun _ s₀ h₀=>?_) fun _ _ h'=>h');refine yac (yaV h₀ (fun _ s₂ h₂=>yac (yaV h₂ (fun ok s₃ h₃=>?_) fun _ _ h'=>h')) fun _ _ h'=>h')
  cases ok with
  |false=>exact yap ⟨rfl,h₃⟩|true=>
   exact yac (yac (yaV h₃ (fun x s₄ h₄=>yac (yaV h₄ (fun _ s₅ h₅=>yap (yap ⟨rfl,h₅⟩)) fun _ _ h'=>h')) fun _ _ h'=>h'))
end
theorem zbh:∀(names:List (Str×NameKind)) (n:Nat) (acc:List (Str×Addr)),cellsFrom n names acc=cellsFrom n names []++acc
 |[],_,_=>rfl|(x,k)::r,n,acc=>by
  unfold cellsFrom;split
  ·rw[zbh r (n+1) ((x,n)::acc),zbh r (n+1) [(x,n)]];simp
  ·exact zbh r n acc
theorem zcV:∀(names:List (Str×NameKind)) (n:Nat) {x:Str}{c:Addr},(x,c)∈cellsFrom n names []->(x,NameKind.cell)∈names
 |[],_,_,_,h=>by cases h
 |(y,k)::r,n,x,c,h=>by
  unfold cellsFrom at h;split at h
  ·rename_i hk;rw[zbh]at h
   rcases yaH.mp h with h|h
   ·exact yak _ (zcV r _ h)
   ·rw[yaK]at h;cases h;rw[yby.mp hk];exact yam
  ·exact yak _ (zcV r _ h)
theorem zca{α:Type}:∀{l m:List (Str×α)},(l++m).lookup x=(l.lookup x).or (m.lookup x)
 |[],m=>rfl|(y,a)::l,m=>by
  rw[List.cons_append,yaB,yaB]
  cases x==y with
  |true=>rfl|false=>exact zca
theorem zb5:∀(names:List (Str×NameKind)) (n:Nat) {x:Str},(x,NameKind.cell)∈names->∃c,(cellsFrom n names []).lookup x=some c
 |[],_,_,h=>by cases h
 |(y,k)::r,n,x,h=>by
  unfold cellsFrom;split
  ·rename_i hk;rw[zbh,zca]
   rcases yat.mp h with e|h
   ·cases e
    cases hq:(cellsFrom (n+1) r []).lookup y with
    |some c=>exact⟨c,rfl⟩|none=>exact⟨n,by simp[yaB]⟩
   ·obtain⟨c,e⟩:=zb5 r (n+1) h;rw[e];exact⟨c,rfl⟩
  ·rename_i hk
   rcases yat.mp h with e|h
   ·cases e;exact absurd rfl hk
   ·exact zb5 r n h
def zcy{M:Model}{A:Around}{E:Z5}{s:Shared}{scope:Scope}{globals:Addr}{closure:List (Str×Addr)}{qual:Str}{func:Option Addr}{code:Value}{outer:Env}{builtins:Addr}{Q:Env->Shared->Prop}
  (hQ:∀h',h'.Ns s.heap.objs.size (fun _=>none)->(∀b o,s.heap.get? b=some o->h'.get? b=some o)->CellsOk h' (s.heap.objs.size+1) (cellsFrom (s.heap.objs.size+1) scope.names []) →
   Q (newEnv scope s.heap.objs.size globals (cellsFrom (s.heap.objs.size+1) scope.names []++closure) qual func code (some outer) builtins) {s with heap:=h'}):
  wpAny M A (newFunctionEnv scope globals closure [] qual func code (some outer) builtins) Q E s:=by
 simp only[newFunctionEnv,ycS,ycT];refine yac (wpAny_alloc ?_);refine yac (wpAny_layCells _ (fun name kind cells=>by cases hkc:kind==NameKind.cell<;>simp[hkc]) _ _ _ _ ?_);have ok:=cellsFrom_ok scope.names (s.heap.push {cls:=.type "dict",data:=.dict #[]}) (s.heap.objs.size+1) [] ⟨fun _ _ hm=>(nomatch hm),List.Pairwise.nil⟩ (by rw[yaZ];exact yal _);rw[yaZ]at ok;rw[show({s with heap:=s.heap.push {cls:=.type "dict",data:=.dict #[]}}:Shared).heap.objs.size=s.heap.objs.size+1 from yaZ ..];rw[zbh];simp only[List.forIn_nil];refine yac (yap (yap ?_));exact hQ _ ((Heap.Ns.new s.heap (.type "dict")).keeps (pushCells_keeps _ _)) (fun b o e=>pushCells_keeps _ _ b o (yaf _ e)) ok
structure CompScopeG(sc scope:Scope)(N:List Str)(xs:List Str)(caps:List (Str×Nat)):Prop where
 nd:(scope.names.map (·.1)).Nodup
 kind:scope.kind=.function
 names:∀y∈scope.names,y.2=.local->scope.names.lookup y.1=some .local
 free:∀y∈scope.names,y.2=.free->sc.names.lookup y.1=some .cell\/sc.names.lookup y.1=some .free
 cap:∀p∈caps,N[p.2]?=some p.1/\(p.1,NameKind.free)∈scope.names/\sc.names.lookup p.1≠some .local
 uniq:∀p∈caps,∀z∈scope.names,z.1=p.1->z.2=.free
noncomputable def zbi(X:Cx)(xs:List Str)(caps:List (Str×Nat))(scope:Scope)(cl:List (Str×Addr))(C:Addr)(s:Shared)(H:Hp)(ex:List Addr):Cx:=
 {X with N:=xs++caps.map (·.1),s₀:=s,H₀:=H,env:=compEnvC scope cl C X.env,outer:=X.stack,ex:=ex,fn:=fun x=>decide (scope.names.lookup x=some .cell),pn:=[],xe:=fun _ _=>False}
noncomputable abbrev capσ(σ:St)(n:Nat)(caps:List (Str×Nat)):St:=List.replicate n none++caps.map fun p=>(σ[p.2]?).join
noncomputable def ziV(wi:TI)(g:TG)(tt:TT)(te:TE)(n:Nat)(caps:List (Str×Nat)):TE:=fun σ H Q=>wi σ H fun J H1=>∃W:Nat->Nat->List V->St->Hp->Prop,(∃m,W 0 m [] (capσ σ n caps) H1)/\∀i m ys σ' H,W i m ys σ' H →
 ys.length<=sizeLine/\((J.stop i H/\∀p,H p=none->Q (.ref p) (upd H p (.lst ys))) ∨
 (J.go i H/\∀x H',J.yld i H x H'->g x σ' H' fun σ2 H2=>tt σ2 H2 fun ok H3=>if ok=true then te σ2 H3 fun y H4=>∃m',m'<m/\W (i+1) m' (ys++[y]) σ2 H4 else ∃m',m'<m/\W (i+1) m' ys σ2 H3))
section
variable{X:Cx}{elt iter tg:Expr}{xs:List Str}{pos:Pos}{ifs:List Expr}{scope:Scope}{caps:List (Str×Nat)}{wi:TI}{g:TG}{tt:TT}{te:TE}
structure OwnC(X:Cx)(scope:Scope)(lo:Nat)(h:Heap)(cl:List (Str×Addr)):Prop where
 sort:∀y c,cl.lookup y=some c->X.env.cells.lookup y=some c\/(h.IsCell c none/\lo<=c)
 inj:∀y z c,cl.lookup y=some c->cl.lookup z=some c->y=z
 has:∀y,((y,NameKind.free)∈scope.names\/(y,NameKind.cell)∈scope.names)->∃c,cl.lookup y=some c
 own:∀y c,scope.names.lookup y=some .cell->cl.lookup y=some c->lo<=c
 free:∀y,(y,NameKind.free)∈scope.names->∃c,cl.lookup y=some c/\X.env.cells.lookup y=some c
def zhe(h:(relabel scope env).names.lookup y=some .cell\/(relabel scope env).names.lookup y=some .free):(y,NameKind.free)∈scope.names\/(y,NameKind.cell)∈scope.names:=by
 have go:∀k,(relabel scope env).names.lookup y=some k->(k=.cell\/k=.free)->(y,NameKind.free)∈scope.names\/(y,NameKind.cell)∈scope.names:=fun k e hk=>by
  have hm:=yaA e;obtain⟨⟨n,k0⟩,hp,e2⟩:=yag.mp hm
  by_cases hq:(k0==.free&&env.scope.kind==.function&&env.kindOf n==some .cell)=true
  ·have e3:(n,NameKind.cell)=(y,k):=by rw[<-e2];show _=if _ then _ else _;rw[if_pos hq]
   cases e3
   have:k0=.free:=by simp only[yaa]at hq;exact eq_of_beq hq.1.1
   subst this;exact .inl hp
  ·have e3:(n,k0)=(y,k):=by rw[<-e2];show _=if _ then _ else _;rw[if_neg hq]
   cases e3
   rcases hk with rfl|rfl
   ·exact .inr hp
   ·exact .inl hp
 rcases h with h|h
 ·exact go _ h (.inl rfl)
 ·exact go _ h (.inr rfl)
theorem zhm:∀{l:List (Str×NameKind)},(l.map (·.1)).Nodup->∀{x:Str}{a b:NameKind},(x,a)∈l->(x,b)∈l->a=b
 |[],_,_,_,_,h,_=>by cases h
 |p::l,nd,x,a,b,h,h'=>by
  rw[yaw,ya7]at nd
  rcases yat.mp h with h|h<;>rcases yat.mp h' with h'|h'
  ·rw[<-h']at h;exact(Prod.mk.inj h).2
  ·exact absurd (yag.mpr ⟨_,h',by rw[<-h]⟩) nd.1
  ·exact absurd (yag.mpr ⟨_,h,by rw[<-h']⟩) nd.1
  ·exact zhm nd.2 h h'
def zls{X:Cx}{scope:Scope}{lo n:Nat}{h:Heap}{cl:List (Str×Addr)}(nd:(scope.names.map (·.1)).Nodup)(hn:lo<=n)(hinj:∀x y c,X.env.cells.lookup x=some c->X.env.cells.lookup y=some c->x=y)
  (hcl:∀y c,cl.lookup y=some c->X.env.cells.lookup y=some c) (hlo:∀y c,X.env.cells.lookup y=some c->c<lo) (hhas:∀y,(y,NameKind.free)∈scope.names->∃c,cl.lookup y=some c) (ok:CellsOk h n (cellsFrom n scope.names [])):
  OwnC X scope lo h (cellsFrom n scope.names []++cl):=by
 have sort:∀y c,(cellsFrom n scope.names []++cl).lookup y=some c->((cellsFrom n scope.names []).lookup y=some c)\/((cellsFrom n scope.names []).lookup y=none/\cl.lookup y=some c):=fun y c e=>by
  rw[zca]at e
  cases hq:(cellsFrom n scope.names []).lookup y with
  |some c'=>rw[hq]at e;exact .inl e|none=>rw[hq]at e;exact .inr ⟨rfl,e⟩
 refine⟨fun y c e=>?_,fun y z c e e'=>?_,fun y hy=>?_,fun y c hy e=>?_,fun y hy=>?_⟩
 ·rcases sort y c e with z|⟨_,z⟩
  ·have:=ok.empty y c (yaA z);exact .inr ⟨this.1,yas hn this.2⟩
  ·exact .inl (hcl y c z)
 ·rcases sort y c e with a|⟨_,a⟩<;>rcases sort z c e' with b|⟨_,b⟩
  ·exact name_of_addr ok.apart (yaA a) (yaA b)
  ·have h1:=(ok.empty y c (yaA a)).2;have h2:=hlo z c (hcl z c b);exact absurd (yai h2 (yas hn h1)) (yaR _)
  ·have h1:=(ok.empty z c (yaA b)).2;have h2:=hlo y c (hcl y c a);exact absurd (yai h2 (yas hn h1)) (yaR _)
  ·exact hinj y z c (hcl y c a) (hcl z c b)
 ·rw[zca]
  cases hq:(cellsFrom n scope.names []).lookup y with
  |some c=>exact⟨c,rfl⟩|none=>
   rcases hy with hy|hy
   ·exact hhas y hy
   ·obtain⟨c,e⟩:=zb5 scope.names n hy;rw[hq]at e;cases e
 ·obtain⟨c',e'⟩:=zb5 scope.names n (yaA hy);rw[zca,e']at e;have:c'=c:=Option.some.inj e;subst this;exact yas hn (ok.empty y c' (yaA e')).2
 ·obtain⟨c,e⟩:=hhas y hy;refine⟨c,?_,hcl y c e⟩;rw[zca]
  cases hq:(cellsFrom n scope.names []).lookup y with
  |some c'=>
   have:=zcV scope.names n (yaA hq);cases zhm nd hy this
  |none=>exact e
theorem zmv(S:CompScopeG X.env.scope scope X.N xs caps)(hu:∀p∈caps,∀z∈scope.names,z.1=p.1->z.2=.free)
  (I:Inv X pins σ H s) (hcl:OwnC X scope s.heap.objs.size s'.heap cl)
  (hf:∀b∈fp,zmH X pins H b) (hlt:∀b∈fp,b<s.heap.objs.size) (hC:s.heap.objs.size<=C) (ho:s'.os=s.os) (hg:s'.gens=s.gens) (hk:∀b o,s.heap.get? b=some o->s'.heap.get? b=some o) (hn:s'.heap.Ns C (fun _=>none)):
  Inv (zbi X xs caps scope cl C s H fp) [] (capσ σ xs.length caps) H s':=by
 have cellK:∀y c,cl.lookup y=some c->∃v,s'.heap.IsCell c v:=fun y c e=>by
  rcases hcl.sort y c e with z|z
  ·obtain⟨v,o,q,d⟩:=I.cell y c z;exact⟨v,o,hk _ _ q,d⟩
  ·exact⟨none,z.1⟩
 refine⟨⟨I.ok.mod,S.kind,I.ok.glob,I.ok.blt,hC,hcl.inj,fun y hy=>hcl.has y (zhe hy),fun y c z e=>hcl.own y c (yaj z) e,I.ok.hd,I.ok.frames,.inl rfl,fun b hb=>⟨yay (yai (hlt b hb) hC),fun y c e=>(hcl.sort y c e).elim (fun z=>(hf b hb).2.2.2.2.1 y c z) fun z=>yaU (yai (hlt b hb) z.2)⟩,
  I.bs,yas I.ok.bsz I.sz,fun b o e hb=>?_,fun b hb hm=>?_,I.stack,I.stkFree⟩,ho,by rw[hg];exact I.bare,Un.kept hk,⟨_,hn,fun i y v h1 h2 h3=>?_⟩,fun y c e=>cellK y c e,I.hok.fresh hC,fun y c e=>(hcl.sort y c e).elim (I.freeC y c) fun z=>I.hok.fresh z.2,fun p hp=>absurd (show p∈([]:Z3)from hp) (by simp),I.hok.kept hk,?_⟩
 ·rcases(hf b hb).2.2.2.1 with z|z
  ·exact I.ok.noex b o e z
  ·exact absurd (yai (yao e) (yas I.ok.bsz z)) (yaR _)
 ·rcases yat.mp (I.stkSub b hm)with z|z
  ·exact(hf b hb).2.1 z
  ·exact(hf b hb).2.2.1 z
 ·have hi:¬ i<xs.length:=fun hi=>by
   have h2':(capσ σ xs.length caps)[i]?=some (some v):=h2;rw[yaE (by rw[yaS];exact hi),ybv]at h2'
   split at h2'<;>cases h2'
  ·have h1':(caps.map (·.1))[i-xs.length]?=some y:=by
    have h1':(xs++caps.map (·.1))[i]?=some y:=h1;rwa[yax (by omega)]at h1'
   rw[yau]at h1'
   have h2':(caps.map fun p=>(σ[p.2]?).join)[i-xs.length]?=some (some v):=by
    have h2':(capσ σ xs.length caps)[i]?=some (some v):=h2;rw[yax (by rw[yaS];omega),yaS]at h2';exact h2'
   rw[yau]at h2'
   cases hp:caps[i-xs.length]? with
   |none=>rw[hp]at h1';cases h1'|some p=>
    rw[hp]at h1' h2';have ey:p.1=y:=Option.some.inj h1';have ev:(σ[p.2]?).join=some v:=Option.some.inj h2';subst ey;have hmem:p∈caps:=yaY hp;obtain⟨c1,c2,c3⟩:=S.cap p hmem
    have eσ:σ[p.2]?=some (some v):=by
     cases q:σ[p.2]? with
     |none=>rw[q]at ev;cases ev|some w=>rw[q]at ev;have:w=some v:=ev;rw[this]
    have hfr:=S.free _ c2 rfl;have hv:Vis X.env.scope p.1:=hfr.elim (fun z=>.inr (.inl z)) (fun z=>.inr (.inr z));obtain⟨m,_,hl⟩:=I.loc;obtain⟨u,r,l⟩:=hl p.2 p.1 v c1 eσ hv;refine⟨u,r,.inr ⟨zeC (scope:=scope) (env:=X.env) c2 (hu p hmem),?_⟩⟩;obtain⟨c,ec,ec2⟩:=hcl.free p.1 c2;refine⟨c,ec,?_⟩
    rcases l with⟨z,_⟩|⟨_,c',ec',hcell⟩
    ·exact absurd z c3
    ·have:c'=c:=by rw[ec2]at ec';exact(Option.some.inj ec').symm
     subst this;obtain⟨o,q,d⟩:=hcell;exact⟨o,hk _ _ q,d⟩
 ·simp[zbi,capσ]
theorem zhK{use:Option (Value->Sem Unit)}{Qf:Z5}{R:VK}{pins:Z3}{s:Shared}{σ:St}{H:Hp}(hc:X.calm=true)(S:CompScopeG X.env.scope scope X.N xs caps)(hi:PI X tg iter wi)(hg:∀cl C s H fp,PG (zbi X xs caps scope cl C s H fp) tg g)
  (ht:∀cl C s H fp,PIf (zbi X xs caps scope cl C s H fp) ifs tt) (he:∀cl C s H fp,PE (zbi X xs caps scope cl C s H fp) elt te)
  (hs:∀v,foldedSetIterable iter X.env v=pure v) (I:Inv X pins σ H s) (h:ziV wi g tt te xs.length caps σ H R)
  (fin:∀(D C:Addr) (s4:Shared) (m4:Z6) (H6:Hp) (r:Flow),s4.heap.Ns C m4->(∀{σ':St}{H7:Hp}{s5:Shared}{h':Heap},Inv X pins σ' H7 s5->Heap.SameBut C s5.heap h'->H7 C=none->Inv X pins σ' H7 {s5 with heap:=h'})->H6 C=none->C≠X.env.locals->(∀y c,X.env.cells.lookup y=some c->C≠c)->Inv X pins σ H6 s4->R (.ref D) H6->compPost (model X.prog X.w) X.A X.xe use Qf (.ref D) C (.ok r) s4):
  wpAny (model X.prog X.w) X.A (comprehension (.ListComp elt [⟨tg,iter,ifs,0⟩] scope pos) scope X.env (firstIterPos [⟨tg,iter,ifs,0⟩] pos) (newList []) false (eval iter X.env) use) Qf X.xe s:=by
 obtain⟨cl,hclos,hcl,hhas⟩:=zf4 (scope:=scope) (env:=X.env) fun y hy hf=>I.ok.has y.1 (S.free y hy hf)
 refine wpAny_comprehension_free (use:=use) rfl hs hclos S.kind S.names (thn (hi pins s σ H _ I h) fun v s1 h1=>thn h1 fun itv s2 h2=>?_);obtain⟨it,fp,tn,J,H2,rfl,I2,T,st2,f2,W,⟨m0,w0⟩,turn⟩:=h2;refine ycp (zcy (fun h₁ hns₁ hsb₁ hok₁=>?_));dsimp only at hns₁ hsb₁ hok₁ ⊢;generalize hHp:s2.heap.push {cls:=.type "list",dict:=none,data:=.seq ([]:List Value).toArray}=Hq at hns₁ hsb₁ hok₁ ⊢
 have hCe:Hq.objs.size=s2.heap.objs.size+1:=by rw[<-hHp,yaZ]
 have hDC:s2.heap.objs.size≠Hq.objs.size:=by rw[hCe];exact yay (ybU _)
 have hC:s2.heap.objs.size<=Hq.objs.size:=by rw[hCe];exact ya6 _
 have old:∀b o,s2.heap.get? b=some o->h₁.get? b=some o:=fun b o e=>hsb₁ b o (hHp ▸ yaf _ e)
 have hacc:h₁.get? s2.heap.objs.size=some (lob [] 0):=hsb₁ _ _ (hHp ▸ yar _ rfl)
 have cellX:∀y c,X.env.cells.lookup y=some c->c<s2.heap.objs.size:=fun y c e=>by obtain⟨v,q⟩:=I2.cell y c e;exact q.lt
 have oc:=zls (X:=X) (lo:=s2.heap.objs.size+1) S.nd (by rw[hCe];exact ya6 _) I.ok.inj hcl (fun y c e=>ybs (cellX y c e)) hhas hok₁;generalize hcl2:cellsFrom (Hq.objs.size+1) scope.names []++cl=cl2 at oc ⊢;have oc':OwnC X scope s2.heap.objs.size h₁ cl2:=⟨fun y c e=>(oc.sort y c e).imp id fun z=>⟨z.1,ycV z.2⟩,oc.inj,oc.has,fun y c a e=>ycV (oc.own y c a e),oc.free⟩
 have hlt:∀b∈fp,b<s2.heap.objs.size:=fun b hb=>by obtain⟨o,e,_⟩:=T.obj 0 _ st2 b hb;exact yao e
 generalize hY:zbi X xs caps scope cl2 Hq.objs.size s2 H2 fp=Y;have PEY:PE Y elt te:=hY ▸ he cl2 _ s2 H2 fp;have PIY:PIf Y ifs tt:=hY ▸ ht cl2 _ s2 H2 fp;have PGY:PG Y tg g:=hY ▸ hg cl2 _ s2 H2 fp
 have I3:Inv Y [] (capσ σ xs.length caps) H2 {s2 with heap:=h₁}:=by
  rw[<-hY];exact zmv S S.uniq I2 oc' f2 hlt hC rfl rfl old hns₁
 have eYenv:Y.env=compEnvC scope cl2 Hq.objs.size X.env:=by rw[<-hY];rfl
 have eYloc:Y.env.locals=Hq.objs.size:=by rw[eYenv];rfl
 have eYfs:Y.fs=frs X.stack:=by rw[<-hY];rfl
 have eYprog:Y.prog=X.prog:=by rw[<-hY];rfl
 have eYw:Y.w=X.w:=by rw[<-hY];rfl
 have eYK:Y.K=X.K:=by rw[<-hY];rfl
 have eYA:Y.A=X.A:=by rw[<-hY];rfl
 have eYc:Y.calm=true:=by rw[<-hY];exact hc
 have eYex:Y.ex=fp:=by rw[<-hY];rfl
 have eYs:Y.s₀=s2:=by rw[<-hY];rfl
 have eYH:Y.H₀=H2:=by rw[<-hY];rfl
 have eYpn:Y.pn=[]:=by rw[<-hY];rfl
 have eYcell:∀y c,Y.env.cells.lookup y=some c->X.env.cells.lookup y=some c\/s2.heap.objs.size+1<=c:=fun y c e=>(oc.sort y c (by rwa[eYenv]at e)).imp id (·.2)
 have eYxe:∀e s',¬ Y.xe e s':=fun e s' z=>by rwa[<-hY]at z
 have stkX:∀b∈frs X.stack,b<s2.heap.objs.size:=fun b hb=>by
  rcases yat.mp (I2.stkSub b hb)with z|z
  ·rw[z];exact I2.lt
  ·refine Nat.not_le.mp fun hle=>I2.nofs hle z
 have pinX:∀p∈X.pn++pins,p.1<s2.heap.objs.size:=fun p hp=>yao (I2.pin p hp).1
 have fpY:∀{H':Hp}{its:List Value}{k:Nat},(∀b∈fp,H' b=none)->∀b∈fp,zmH Y [(s2.heap.objs.size,lob its k)] H' b:=fun {H' its k} hn b hb=>by
  refine⟨hn b hb,by rw[eYloc];exact yay (yai (hlt b hb) hC),?_,.inl (by rw[eYex];exact hb),fun y c e=>(eYcell y c e).elim (fun z=>(f2 b hb).2.2.2.2.1 y c z) fun z=>yaU (yai (hlt b hb) (ycV z)),fun p hp=>?_⟩
  ·rw[eYfs];intro hm
   rcases yat.mp (I2.stkSub b hm)with z|z
   ·exact(f2 b hb).2.1 z
   ·exact(f2 b hb).2.2.1 z
  ·rw[eYpn]at hp
   have e:p=(s2.heap.objs.size,lob its k):=by simpa using hp
   rw[e];exact yaU (hlt b hb)
 have pinD:∀{H':Hp}{σ':St}{s':Shared}{its:List Value}{k:Nat},Inv Y [] σ' H' s'->s'.heap.get? s2.heap.objs.size=some (lob its k)->H' s2.heap.objs.size=none->Inv Y [(s2.heap.objs.size,lob its k)] σ' H' s':=fun {H' σ' s' its k} I' e n=>
  I'.pins_of fun p hp=>by
   have ep:p=(s2.heap.objs.size,lob its k):=by simpa using hp
   subst ep;refine⟨e,n,by rw[eYloc];exact hDC,?_,fun v z=>?_⟩
   ·rw[eYfs];exact fun hm=>yaR _ (stkX _ hm)
   ·have z':Data.seq its.toArray k=Data.cell v:=z;cases z'
 have loop:codeAny (model X.prog X.w) X.A (.compLoop (.ListComp elt [⟨tg,iter,ifs,0⟩] scope pos) 0 (.ref it) (.ref s2.heap.objs.size) (compEnvC scope cl2 Hq.objs.size X.env))
   (compPost (model X.prog X.w) X.A X.xe use Qf (.ref s2.heap.objs.size) Hq.objs.size) {s2 with heap:=h₁}:=by
  refine znL (fun n s'=>∃i σx H' ys its k,Inv Y [(s2.heap.objs.size,lob its k)] σx H' s'/\tn i s'.heap/\(∀b∈fp,H' b=none)/\Vals ys its/\W i n ys σx H') ?_ m0
   ⟨0,capσ σ xs.length caps,H2,[],[],0,pinD I3 hacc (I2.hok.fresh (yal _)),T.keep _ _ _ st2 fun b hb o e=>old b o e,fun b hb=>(f2 b hb).1,.nil,w0⟩
  rintro n s3 ⟨i,σx,H3,ys,its,k,J3,st3,fr3,rv,w3⟩;obtain⟨hz,hcase⟩:=turn i n ys σx H3 w3
  rcases hcase with⟨stop,q⟩|⟨go,step⟩
  ·have hd:=T.done Y eYprog eYw eYK eYc i _ s3 _ H3 (notedBy (model X.prog X.w) X.A (compEnvC scope cl2 Hq.objs.size X.env) fun e s'=>compPost (model X.prog X.w) X.A X.xe use Qf (.ref s2.heap.objs.size) Hq.objs.size (.error e) s') J3 (fpY fr3) st3 stop;rw[eYA]at hd;refine thn hd fun r s4 ⟨hr,J4⟩=>?_
   subst hr;obtain⟨m4,hn4,_⟩:=J4.loc
   have hn4':s4.heap.Ns Hq.objs.size m4:=by rw[<-eYloc];exact hn4
   have hnC:H3 Hq.objs.size=none:=by rw[<-eYloc];exact J4.free
   have hk5:HOk X.prog X.w H3 s4.heap:=by rw[<-eYprog,<-eYw];exact J4.hok
   have u5:Un (frs X.stack) fp H2 H3 s2.heap s4.heap:=by
    have ub:=J4.base;rwa[eYfs,eYex,eYH,eYs]at ub
   have J5:Inv X pins σ H3 s4:=I2.call' (s':=s4) (ch:=fp) (by have:=J4.os;rwa[eYs]at this) u5 hk5 J4.bare fun b hb=>⟨(f2 b hb).2.2.2.1,(f2 b hb).2.1,(f2 b hb).2.2.2.2.1,(f2 b hb).2.2.2.2.2⟩
   have hp4:=J4.pin (s2.heap.objs.size,lob its k) (yaL _ yam);have hD5:s4.heap.get? s2.heap.objs.size=some (lob its k):=hp4.1;have J6:Inv X pins σ (upd H3 s2.heap.objs.size (.lst ys)) s4:=J5.track hp4.2.1 I2.sz (yaU I2.lt) (fun y c e=>yay (cellX y c e)) (fun p hp=>yay (pinX p hp)) (show za3 X.prog X.w _ s4.heap _ (.lst ys)from⟨hz,its,k,rv,hD5⟩);have hCloc:Hq.objs.size≠X.env.locals:=yaU (yai I2.lt hC);exact fin _ Hq.objs.size s4 m4 _ _ hn4' (fun {σ'}{H7}{s5}{h'} J sb' hn=>J.turned (t':=s5.toks) (it:=Hq.objs.size) (fun b o hb e=>(sb'.2 b hb).trans e) hn hCloc (.inr (yas I2.sz hC)) (fun y c e=>yay (yai (cellX y c e) hC)) (fun p hp=>yay (yai (pinX p hp) hC))) (by rw[zaf (Ne.symm hDC)];exact hnC) hCloc (fun y c e=>yaU (yai (cellX y c e) hC)) J6 (q _ hp4.2.1)
  ·have hd:=T.item Y eYprog eYw eYK eYc i _ s3 _ H3 (notedBy (model X.prog X.w) X.A (compEnvC scope cl2 Hq.objs.size X.env) fun e s'=>compPost (model X.prog X.w) X.A X.xe use Qf (.ref s2.heap.objs.size) Hq.objs.size (.error e) s') J3 (fpY fr3) st3 go;rw[eYA]at hd;refine thn hd fun r s4 ⟨u,hr,h4⟩=>?_
   subst hr;refine thn h4 fun _ s5 ⟨v4,H4,J4,r4,y4,st5,fr4⟩=>?_
   have J4':=J4.pinned (fp:=fp) (fpY fr4) (T.obj _ _ st5);have ha:=PGY _ s5 σx H4 v4 u _ J4' r4 (step v4 H4 y4);rw[eYprog,eYw,eYA,eYenv]at ha;refine yaV ha (fun _ s5' ⟨σ5,H5,J5',q5⟩=>?_) fun e s' z=>(eYxe _ _ z).elim
   have ht5:=PIY _ s5' σ5 H5 _ J5' q5;rw[eYprog,eYw,eYA,eYenv]at ht5;refine yaV ht5 (fun ok s6 ⟨H6,J6,q6⟩=>?_) fun e s' z=>(eYxe _ _ z).elim
   have back:∀{H7:Hp}{s7:Shared},Inv Y ([(s2.heap.objs.size,lob its k)]++zhj fp s5.heap) σ5 H7 s7->tn (i+1) s7.heap/\∀b∈fp,H7 b=none:=fun {H7 s7} J7=>
    ⟨T.keep _ _ _ st5 fun b hb o e=>(J7.pin (b,o) (yaL _ (yaL _ (zdw hb e)))).1,fun b hb=>by
     obtain⟨o,e,d⟩:=T.obj _ _ st5 b hb
     exact(J7.pin (b,o) (yaL _ (yaL _ (zdw hb e)))).2.1⟩
   cases ok with
   |false=>
    rw[if_neg yba]at q6;rw[if_neg yba];obtain⟨m',hm',w6⟩:=q6;exact⟨m',hm',i+1,σ5,H6,ys,its,k,J6.unpinned,(back J6).1,(back J6).2,rv,w6⟩
   |true=>
    rw[if_pos rfl]at q6;rw[if_pos rfl];have he6:=PEY _ s6 _ H6 _ J6 q6;rw[eYprog,eYw,eYA,eYenv]at he6;refine yaV he6 (fun u7 s7 ⟨v7,H7,J7,r7,m',hm',w7⟩=>?_) fun e s' z=>(eYxe _ _ z).elim
    obtain⟨st7,fr7⟩:=back J7;have hp7:=(J7.unpinned).pin (s2.heap.objs.size,lob its k) (yaL _ yam);have hl:=rv.length;refine append_at (hsz:=by show its.toArray.size<=sizeLine;rw[yaq];omega) hp7.1 fun h8 sb8 hD8=>?_
    have J7':Inv Y [] σ5 H7 s7:=J7.unpinned.pins_of fun p hp=>absurd hp (by simp)
    have J8:Inv Y [] σ5 H7 {s7 with heap:=h8}:=J7'.turned (t':=s7.toks) (it:=s2.heap.objs.size) (fun b o hb e=>(sb8.2 b hb).trans e) hp7.2.1 (by rw[eYloc];exact hDC) (.inr (by rw[eYs];exact yal _)) (fun y c e=>(eYcell y c e).elim (fun z=>yay (cellX y c z)) fun z=>yaU z) (fun p hp=>by rw[eYpn]at hp;simp at hp)
    have hD8':h8.get? s2.heap.objs.size=some (lob (its++[u7]) (k+1)):=by rw[hD8];simp[lob]
    exact⟨m',hm',i+1,σ5,H7,ys++[v7],its++[u7],k+1,pinD J8 hD8' hp7.2.1,T.keep _ _ _ st7 fun b hb o e=>(sb8.2 b (yay (hlt b hb))).trans e,fr7,rv.append (.cons r7 .nil),w7⟩
 exact codeAny_compStart_list loop (T.self X.A 0 _ _ _ (T.keep _ _ _ st2 fun b hb o e=>old b o e) loop)
def znv(hc:X.calm=true)(S:CompScopeG X.env.scope scope X.N xs caps)(hi:PI X tg iter wi)(hg:∀cl C s H fp,PG (zbi X xs caps scope cl C s H fp) tg g)
  (ht:∀cl C s H fp,PIf (zbi X xs caps scope cl C s H fp) ifs tt) (he:∀cl C s H fp,PE (zbi X xs caps scope cl C s H fp) elt te)
  (hs:autoParam (∀v,foldedSetIterable iter X.env v=pure v) yAU):PE X (.ListComp elt [⟨tg,iter,ifs,0⟩] scope pos) (ziV wi g tt te xs.length caps):=by
 intro pins s σ H Q I h;rw[eval_ListComp];exact zhK (use:=none) hc S hi hg ht he hs I h fun D C s4 m4 H6 r hn tr hC _ _ J6 q=>⟨m4,hn,fun h5 sb=>⟨.ref D,H6,tr J6 sb hC,rfl,q⟩⟩
def zni(hc:X.calm=true)(S:CompScopeG X.env.scope scope X.N xs caps)(hN0:X.N.Nodup)(hi0:X.N[k0]?=some y0)(hx0:Loc X.env.scope y0)(hi:PI X tg iter wi)(hg:∀cl C s H fp,PG (zbi X xs caps scope cl C s H fp) tg g)
  (ht:∀cl C s H fp,PIf (zbi X xs caps scope cl C s H fp) ifs tt) (he:∀cl C s H fp,PE (zbi X xs caps scope cl C s H fp) elt te)
  (hsw:swapsWith (.ListComp elt [⟨tg,iter,ifs,0⟩] scope pos) (some (.Name y0 py)) spos.line X.env=pure true)
  (hf0:X.fn y0=true\/X.env.scope.names.lookup y0=some .local)
  (hs:∀v,foldedSetIterable iter X.env v=pure v):PS X (.Assign [.Name y0 py] (.ListComp elt [⟨tg,iter,ifs,0⟩] scope pos) spos) (zrm (ziV wi g tt te xs.length caps) (zl7 k0)):=by
 intro pins s σ H DD I h;rw[exec_Assign_Name_used _ _ _ _ hsw];refine yac (yc1 (yac ?_));show wpAny _ X.A (do let _ ← comprehension (.ListComp elt [⟨tg,iter,ifs,0⟩] scope pos) scope X.env _ (newList []) false (eval iter X.env) (some (assign (.Name y0 py) X.env))) _ _ s;refine yac (yaV (zhK (use:=some (assign (.Name y0 py) X.env)) (Qf:=fun _ s'=>SP X pins DD .next s') hc S hi hg ht he hs I h fun D C s4 m4 H6 r hn tr hC hl hce J6 q=>?_) (fun _ s' hq=>yap (yap hq)) fun _ _ e=>e);show wpAny _ X.A (assign (.Name y0 py) X.env (.ref D)) _ X.xe s4;refine wpAny_assign_Name (zgZ (i:=k0) J6 hN0 hi0 hx0 (v:=.ref D) rfl (fun s5 J7 ⟨a,sb,ha⟩=>?_) hf0);have haC:C≠a:=ha.elim (fun z=>by rw[z];exact hl) fun z=>hce _ _ z
 exact⟨m4,hn.sameBut sb haC,fun h' sb'=>⟨_,_,tr J7 sb' hC,q⟩⟩
end
section
variable{κ:Type}[DecidableEq κ]
noncomputable def zeT(kvs:List (κ×V))(k:κ):Option V:=(kvs.find? fun kv=>decide (kv.1=k)).map (·.2)
noncomputable def ze1(kvs:List (κ×V))(k:κ)(v:V):List (κ×V):=
 if(kvs.any fun kv=>decide (kv.1=k))=true then kvs.map (fun kv=>if kv.1=k then(kv.1,v)else kv)else kvs++[(k,v)]
noncomputable def zfu(kvs:List (κ×V))(k:κ):List (κ×V):=kvs.filter fun kv=>decide (kv.1≠k)
def zdn{p:κ×V}{r:List (κ×V)}{k:κ}(e:p.1=k):zeT (p::r) k=some p.2:=by simp[zeT,ybH,e]
def zdo{p:κ×V}{r:List (κ×V)}{k:κ}(e:¬ p.1=k):zeT (p::r) k=zeT r k:=by simp[zeT,ybH,e]
theorem zeM(k:κ):∀kvs:List (κ×V),(kvs.any fun kv=>decide (kv.1=k))=(zeT kvs k).isSome
 |[]=>rfl|p::r=>by
  rw[yc2]
  by_cases e:p.1=k
  ·simp only[zdn e,yaz e,Bool.true_or,ycS]
  ·rw[zdo e,yaJ e,Bool.false_or];exact zeM k r
theorem zcQ(kvs:List (κ×V))(k:κ)(v:V):(ze1 kvs k v).length<=kvs.length+1:=by
 unfold ze1;split
 ·rw[yab];omega
 ·rw[yah,yae,ycb];omega
def znf{kvs:List (κ×V)}{k:κ}(v:V)(h:zeT kvs k=none):ze1 kvs k v=kvs++[(k,v)]:=by
 unfold ze1;rw[zeM,h];exact if_neg (by decide)
def zf9.isSome_eq{o:Option V}{u:Option Value}(r:zf9 o u):o.isSome=u.isSome:=by
 cases o with
 |none=>cases u with
  |none=>rfl|some _=>exact(show False from r).elim
 |some _=>cases u with
  |none=>exact(show False from r).elim|some _=>rfl
theorem zf9.getD{o:Option V}{u:Option Value}{d:V}{d':Value}(r:zf9 o u)(rd:zaV d d'):zaV (o.getD d) (u.getD d'):=by
 cases o with
 |none=>cases u with
  |none=>exact rd|some _=>exact(show False from r).elim
 |some _=>cases u with
  |none=>exact(show False from r).elim|some _=>exact r
def KV.val{kvs:List (κ×V)}{vs:List (κ×Value)}(r:KV kvs vs)(k:κ):zf9 (zeT kvs k) (valueAt vs k):=by
 unfold KV at r
 induction r with
 |nil=>exact True.intro| @cons p q ps qs h t ih=>
  obtain⟨h1,h2⟩:=h
  by_cases e:p.1=k
  ·have e':q.1=k:=h1.symm.trans e
   have b:valueAt (q::qs) k=some q.2:=by simp[valueAt,ybH,e']
   rw[zdn e,b];exact h2
  ·have e':¬ q.1=k:=fun z=>e (h1.trans z)
   have b:valueAt (q::qs) k=valueAt qs k:=by simp[valueAt,ybH,e']
   rw[zdo e,b];exact ih
theorem KV.any{kvs:List (κ×V)}{vs:List (κ×Value)}(r:KV kvs vs)(k:κ):(kvs.any fun kv=>decide (kv.1=k))=vs.any fun kv=>decide (kv.1=k):=by
 unfold KV at r
 induction r with
 |nil=>rfl|cons h t ih=>rw[yc2,yc2,ih,h.1]
def KV.repl{kvs:List (κ×V)}{vs:List (κ×Value)}(r:KV kvs vs)(k:κ){y:V}{u:Value}(ry:zaV y u):
  KV (kvs.map fun kv=>if kv.1=k then(kv.1,y)else kv) (vs.map fun kv=>if kv.1=k then(kv.1,u)else kv):=by
 unfold KV at r ⊢
 induction r with
 |nil=>exact .nil| @cons p q ps qs h t ih=>
  rw[yaw,yaw];refine .cons ?_ ih;obtain⟨h1,h2⟩:=h
  by_cases e:p.1=k
  ·rw[if_pos e,if_pos (h1.symm.trans e)];exact⟨h1,ry⟩
  ·rw[if_neg e,if_neg (fun z=>e (h1.trans z))];exact⟨h1,h2⟩
def KV.put{kvs:List (κ×V)}{vs:List (κ×Value)}(r:KV kvs vs)(k:κ){y:V}{u:Value}(ry:zaV y u):KV (ze1 kvs k y) (stored vs k u):=by
 unfold ze1 stored;rw[r.any k]
 by_cases e:(vs.any fun kv=>decide (kv.1=k))=true
 ·rw[if_pos e,if_pos e];exact r.repl k ry
 ·rw[if_neg e,if_neg e];exact Paired.snoc r ⟨rfl,ry⟩
def KV.drop{kvs:List (κ×V)}{vs:List (κ×Value)}(r:KV kvs vs)(k:κ):KV (zfu kvs k) (without vs k):=by
 unfold KV at r ⊢;unfold zfu without
 induction r with
 |nil=>exact .nil| @cons p q ps qs h t ih=>
  obtain⟨h1,h2⟩:=h;rw[ybV,ybV]
  by_cases e:p.1=k
  ·have a:¬ decide (p.1≠k)=true:=by simp[e]
   have b:¬ decide (q.1≠k)=true:=by simp[h1.symm.trans e]
   rw[if_neg a,if_neg b];exact ih
  ·have e':¬ q.1=k:=fun z=>e (h1.trans z)
   have a:decide (p.1≠k)=true:=by simp[e]
   have b:decide (q.1≠k)=true:=by simp[e']
   rw[if_pos a,if_pos b];exact .cons ⟨h1,h2⟩ ih
def KV.keys{kvs:List (κ×V)}{vs:List (κ×Value)}(r:KV kvs vs):kvs.map (·.1)=vs.map (·.1):=by
 unfold KV at r
 induction r with
 |nil=>rfl|cons h t ih=>rw[yaw,yaw,ih,h.1]
theorem KV.length{kvs:List (κ×V)}{vs:List (κ×Value)}(r:KV kvs vs):kvs.length=vs.length:=Paired.length r
def zn5(kvs:List (κ×V))(k:κ):(zfu kvs k).length<=kvs.length:=List.length_filter_le _ _
end
def zfb{P:Program}{w:World}{k:Key}{u:Value}(r:zaV (kV k) u):(zax P w).is k u=true:=by
 cases k with
 |inl i=>obtain⟨t,e⟩:=(show ∃t,u=Value.int i t from r);subst e;exact zii P w i t|inr x=>obtain⟨t,e⟩:=(show ∃t,u=Value.str x t from r);subst e;exact zih P w x t
theorem zhv{P:Program}{w:World}:∀{ks:List Key}{us:List Value},Vals (ks.map kV) us->ItemsAre (zax P w) ks us
 |[],_,r=>by rw[List.map_nil]at r;cases r;exact .nil
 |k::ks,_,r=>by
  rw[yaw]at r
  cases r with
  |cons h t=>exact .cons (zfb h) (zhv t)
noncomputable abbrev KT(H:Hp):List (List Key×V)->List (List Key×Addr×Value)->Prop:=Paired fun p q=>p.1=q.1/\H q.2.1=some (.tup (p.1.map kV))/\zaV p.2 q.2.2
def KT.val{H:Hp}{kvs:List (List Key×V)}{xs:List (List Key×Addr×Value)}(r:KT H kvs xs)(k:List Key):zf9 (zeT kvs k) ((atKey xs k).map (·.2)):=by
 induction r with
 |nil=>exact True.intro| @cons p q ps qs h t ih=>
  obtain⟨h1,_,h2⟩:=h
  by_cases e:p.1=k
  ·have e':q.1=k:=h1.symm.trans e
   have b:atKey (q::qs) k=some q.2:=by simp[atKey,ybH,e']
   rw[zdn e,b];exact h2
  ·have e':¬ q.1=k:=fun z=>e (h1.trans z)
   have b:atKey (q::qs) k=atKey qs k:=by simp[atKey,ybH,e']
   rw[zdo e,b];exact ih
def KT.repl{H:Hp}{kvs:List (List Key×V)}{xs:List (List Key×Addr×Value)}(r:KT H kvs xs)(k:List Key){y:V}{u:Value}(ry:zaV y u):
  KT H (kvs.map fun kv=>if kv.1=k then(kv.1,y)else kv) (xs.map (putAt k u)):=by
 induction r with
 |nil=>exact .nil| @cons p q ps qs h t ih=>
  rw[yaw,yaw];refine .cons ?_ ih;obtain⟨h1,h2,h3⟩:=h;unfold putAt
  by_cases e:p.1=k
  ·rw[if_pos e,if_pos (h1.symm.trans e)];exact⟨h1,h2,ry⟩
  ·rw[if_neg e,if_neg (fun z=>e (h1.trans z))];exact⟨h1,h2,h3⟩
def KT.put{H:Hp}{kvs:List (List Key×V)}{xs:List (List Key×Addr×Value)}(r:KT H kvs xs)(k:List Key){b:Addr}{y:V}{u:Value}(hb:H b=some (.tup (k.map kV)))(ry:zaV y u):
  KT H (ze1 kvs k y) (storedH xs k b u):=by
 have e:(kvs.any fun kv=>decide (kv.1=k))=(atKey xs k).isSome:=by
  rw[zeM,(r.val k).isSome_eq,ycW]
 unfold ze1 storedH;rw[e]
 by_cases q:(atKey xs k).isSome=true
 ·rw[if_pos q,if_pos q];exact r.repl k ry
 ·rw[if_neg q,if_neg q];exact Paired.snoc r ⟨rfl,hb,ry⟩
def KT.keeps{H H':Hp}{kvs:List (List Key×V)}{xs:List (List Key×Addr×Value)}(r:KT H kvs xs)(ht:∀b ys,H b=some (.tup ys)->H' b=some (.tup ys)):KT H' kvs xs:=
 Paired.mapP r fun _ _ z=>⟨z.1,ht _ _ z.2.1,z.2.2⟩
section
variable{P:Program}{w:World}{H:Hp}{h:Heap}{a:Addr}
def zsb{u:HO}(ok:HOk P w H h)(e:Rd H a u):za3 P w H h a u:=e.ok ok
def zfv{kvs:List (Key×V)}(ok:HOk P w H h)(e:Rd H a (.dK kvs)):kvs.length<=sizeLine/\(a==sysModules)=false/\∃vs,KV kvs vs/\h.DictOf (zax P w) a vs:=
 show za3 P w H h a (.dK kvs)from zsb ok e
def zn6{kvs:List (Key×V)}(ok:HOk P w H h)(e:H a=some (.dK kvs)):kvs.length<=sizeLine/\(a==sysModules)=false/\∃vs,KV kvs vs/\h.DictOf (zax P w) a vs:=zfv ok (.inl e)
def ze9{ks:List Key}(ok:HOk P w H h)(e:H a=some (.tup (ks.map kV))):(tupleKind (zax P w)).is h ks a:=by
 obtain⟨_,its,r,o,h1,h2,n,h3,_⟩:=(show za3 P w H h a (.tup (ks.map kV))from ok a _ e);exact⟨o,its.toArray,n,h1,h2,h3,by simpa using zhv r⟩
def zhF{kvs:List (List Key×V)}(ok:HOk P w H h)(e:Rd H a (.dT kvs)):kvs.length<=sizeLine/\(a==sysModules)=false ∧
  ∃xs,KT H kvs xs/\h.DictOfH (tupleKind (zax P w)) a xs:=by
 obtain⟨z,y,xs,r,o,es,ep,h1,h2,h3,h4,h5⟩:=(show za3 P w H h a (.dT kvs)from zsb ok e);refine⟨z,y,xs,r,o,es,ep,h1,h2,h3,h4,fun x hx=>?_,h5⟩
 have all:∀{l:List (List Key×V)}{m:List (List Key×Addr×Value)},KT H l m->∀x∈m,(tupleKind (zax P w)).is h x.1 x.2.1:=by
  intro l m q
  induction q with
  |nil=>intro x hx;exact nomatch hx| @cons p q ps qs hq t ih=>
   intro x hx
   rcases yat.mp hx with e|hx
   ·subst e;exact ze9 ok (by rw[<-hq.1];exact hq.2.1)
   ·exact ih x hx
 exact all r x hx
def zvW{kvs:List (List Key×V)}(ok:HOk P w H h)(e:H a=some (.dT kvs)):kvs.length<=sizeLine/\(a==sysModules)=false ∧
  ∃xs,KT H kvs xs/\h.DictOfH (tupleKind (zax P w)) a xs:=zhF ok (.inl e)
end
noncomputable def zhZ(H:Hp)(a:Addr)(y:V)(r:Option V):Prop:=
 (∃kvs k,Rd H a (.dK kvs)/\y=kV k/\r=zeT kvs k)\/∃kvs k b,Rd H a (.dT kvs)/\y=.ref b/\H b=some (.tup (k.map kV))/\r=zeT kvs k
noncomputable def zrl(H:Hp)(a:Addr)(y v:V)(H':Hp):Prop:=
 (∃kvs k,H a=some (.dK kvs)/\y=kV k/\kvs.length<sizeLine/\H'=upd H a (.dK (ze1 kvs k v))) ∨
 ∃kvs k b,H a=some (.dT kvs)/\y=.ref b/\H b=some (.tup (k.map kV))/\kvs.length<sizeLine/\H'=upd H a (.dT (ze1 kvs k v))
theorem zhZ.k{H:Hp}{a:Addr}{kvs:List (Key×V)}{k:Key}(e:H a=some (.dK kvs)):zhZ H a (kV k) (zeT kvs k):=.inl ⟨kvs,k,.inl e,rfl,rfl⟩
theorem zrl.k{H:Hp}{a:Addr}{kvs:List (Key×V)}{k:Key}{v:V}(e:H a=some (.dK kvs))(hl:kvs.length<sizeLine):zrl H a (kV k) v (upd H a (.dK (ze1 kvs k v))):=.inl ⟨kvs,k,e,rfl,hl,rfl⟩
section
variable{X:Cx}{pins:Z3}{σ:St}{H:Hp}{s:Shared}{a:Addr}{y v:V}{u r:Value}{o:Option V}{A:Around}{E:Z5}
def Inv.big(I:Inv X pins σ H s):sysModules<s.heap.objs.size:=by
 have h:mainGlobals<s.heap.objs.size:=(I.mod.glob.keeps I.bk).lt;exact Nat.lt_trans (by decide) h
def zhI{Q:Z5}(hu:A.units+1<cLine)(I:Inv X pins σ H s)(g:zhZ H a y (some v))(ry:zaV y u)(h:∀w' s',Inv X pins σ H s'->zaV v w'->Q w' s'):
  wpAny (model X.prog X.w) A (getItem (.ref a) u) Q E s:=by
 rcases g with⟨kvs,k,e,ey,l⟩|⟨kvs,k,b,e,ey,eb,l⟩
 ·subst ey;obtain⟨z,hd,vs,rel,dd⟩:=zfv I.hok e;obtain⟨w',hw,rw'⟩:=zf9.some_of (v:=v) (o:=valueAt vs k) (by rw[l];exact rel.val k);exact wpAny_getItem_of (zfb ry) dd.mapOf hw (h w' _ (I.tok _) rw')
 ·subst ey;cases (show u=Value.ref b from ry);obtain⟨z,hd,xs,rel,dd⟩:=zhF I.hok e;obtain⟨w',hw,rw'⟩:=zf9.some_of (v:=v) (o:=(atKey xs k).map (·.2)) (by rw[l];exact rel.val k);obtain⟨p,hp,hp2⟩:=yaD.mp hw;refine wpAny_getItem_heap (ybm hu) (ze9 I.hok eb) dd hp ?_;rw[hp2];exact h w' _ (I.tok _) rw'
def zxr{Q:Z5}(hu:A.units+1<cLine)(I:Inv X pins σ H s)(g:zhZ H a y o)(ry:zaV y u)(h:∀s',Inv X pins σ H s'->Q (.bool o.isSome) s'):
  wpAny (model X.prog X.w) A (compareOp .In u (.ref a)) Q E s:=by
 rcases g with⟨kvs,k,e,ey,l⟩|⟨kvs,k,b,e,ey,eb,l⟩
 ·subst ey;obtain⟨z,hd,vs,rel,dd⟩:=zfv I.hok e;refine wpAny_in_of (zfb ry) hd dd.mapOf ?_;rw[<-(rel.val k).isSome_eq,<-l];exact h _ (I.tok _)
 ·subst ey;cases (show u=Value.ref b from ry);obtain⟨z,hd,xs,rel,dd⟩:=zhF I.hok e;refine wpAny_in_heap (ybm hu) (ze9 I.hok eb) hd dd ?_;have q:=(rel.val k).isSome_eq;rw[ycW]at q;rw[<-q,<-l];exact h _ (I.tok _)
def zms{Q:Z5}(hu:A.units+1<cLine)(I:Inv X pins σ H s)(g:zhZ H a y o)(ry:zaV y u)(h:∀s',Inv X pins σ H s'->Q (.bool (!o.isSome)) s'):
  wpAny (model X.prog X.w) A (compareOp .NotIn u (.ref a)) Q E s:=by
 rcases g with⟨kvs,k,e,ey,l⟩|⟨kvs,k,b,e,ey,eb,l⟩
 ·subst ey;obtain⟨z,hd,vs,rel,dd⟩:=zfv I.hok e;refine wpAny_notIn_of (zfb ry) hd dd.mapOf ?_;rw[<-(rel.val k).isSome_eq,<-l];exact h _ (I.tok _)
 ·subst ey;cases (show u=Value.ref b from ry);obtain⟨z,hd,xs,rel,dd⟩:=zhF I.hok e;refine wpAny_notIn_heap (ybm hu) (ze9 I.hok eb) hd dd ?_;have q:=(rel.val k).isSome_eq;rw[ycW]at q;rw[<-q,<-l];exact h _ (I.tok _)
def zgG{h':Heap}{t':Nat}{ob:HO}(I:Inv X pins σ H s)(mu:Mut (H a))(hs:Heap.SameBut a s.heap h')(he:∃q,h'.get? a=some q)(new:za3 X.prog X.w (upd H a ob) h' a ob):
  Inv X pins σ (upd H a ob) {s with heap:=h',toks:=t'}:=
 I.write (x:=a) (e:=a) mu (.inl rfl) (fun b q hb z=>(hs.2 b hb).trans z) he new
def zml{P:Program}{w:World}{H':Hp}{h':Heap}{kvs:List (Key×V)}{vs:List (Key×Value)}(z:kvs.length<=sizeLine)(hd:(a==sysModules)=false)(rel:KV kvs vs)(dd:h'.DictOf (zax P w) a vs):
  za3 P w H' h' a (.dK kvs):=⟨z,hd,vs,rel,dd⟩
def zhH{H':Hp}{Q:Unit->Shared->Prop}(hu:A.units+1<cLine)(I:Inv X pins σ H s)(g:zrl H a y v H')(ry:zaV y u)(rv:zaV v r)(h:∀s',Inv X pins σ H' s'->Q () s'):
  wpAny (model X.prog X.w) A (setItem (.ref a) u r) Q E s:=by
 rcases g with⟨kvs,k,e,ey,l,eH⟩|⟨kvs,k,b,e,ey,eb,l,eH⟩
 ·subst ey eH;obtain⟨z,hd,vs,rel,dd⟩:=zn6 I.hok e
  have hz:vs.length<=sizeLine:=by rw[<-rel.length];exact z
  have hl:(ze1 kvs k v).length<=sizeLine:=by have:=zcQ kvs k v;omega
  refine wpAny_setItem_pairs (hsz:=hz) (zfb ry) dd fun h' dd' hs=>h _ ?_
  have he:∃q,h'.get? a=some q:=let ⟨q,_,_,hq,_⟩:=dd';⟨q,hq⟩
  exact zgG I (by rw[e];exact True.intro) hs he (zml hl hd (rel.put k rv) dd')
 ·subst ey eH;cases (show u=Value.ref b from ry);obtain⟨z,hd,xs,rel,dd⟩:=zvW I.hok e
  have hz:xs.length<=sizeLine:=by rw[<-Paired.length rel];exact z
  have hl:(ze1 kvs k v).length<=sizeLine:=by have:=zcQ kvs k v;omega
  refine wpAny_setItem_heap (hsz:=hz) (ybm hu) (ze9 I.hok eb) dd fun h' dd' hs=>h _ ?_
  obtain⟨q,es,ep,hq,h2,h3,h4,_,h5⟩:=dd';refine zgG I (by rw[e];exact True.intro) hs ⟨q,hq⟩ ⟨hl,hd,_,(rel.put k eb rv).keeps fun c ys ec=>?_,q,es,ep,hq,h2,h3,h4,h5⟩;rw[zaf (zvs ec e (fun z=>nomatch z))];exact ec
end
section
variable{X:Cx}{pins:Z3}{σ:St}{H:Hp}{s:Shared}{a:Addr}{kvs:List (Key×V)}{k:Key}{u:Value}{A:Around}{E:Z5}
def zvY{v:V}{more:List Value}{Q:Z5}(I:Inv X pins σ H s)(e:H a=some (.dK kvs))(ry:zaV (kV k) u)(l:zeT kvs k=some v)(hm:more=[]\/∃x,more=[x])
  (h:∀w' s',Inv X pins σ (upd H a (.dK (zfu kvs k))) s'->zaV v w'->Q w' s'):wpAny (model X.prog X.w) A (call (.builtin "dict.pop") (.ref a::u::more)) Q E s:=by
 obtain⟨z,hd,vs,rel,dd⟩:=zn6 I.hok e;obtain⟨w',hw,rw'⟩:=zf9.some_of (v:=v) (o:=valueAt vs k) (by rw[<-l];exact rel.val k)
 have hp:(keyPart u).isSome=true:=by
  cases k with
  |inl i=>obtain⟨t,q⟩:=(show ∃t,u=Value.int i t from ry);subst q;rfl|inr x=>obtain⟨t,q⟩:=(show ∃t,u=Value.str x t from ry);subst q;rfl
 have ha:argsOk "dict.pop" ⟨.ref a::u::more,[]⟩:=by
  rcases hm with q|⟨x,q⟩
  ·subst q;exact PySem.F.args_dict_pop_2 _ _
  ·subst q;exact PySem.F.args_dict_pop_3 _ _ _
 refine ycx ycy dd.typeIs PySem.F.entry_dict_pop ha (meets_dict_pop_there (zax X.prog X.w) a (zfb ry) more hm hp)
  ⟨vs,w',dd,by rw[<-rel.length];exact z,hw,fun h' dd' hs=>h w' _ ?_ rw'⟩
 have he:∃q,h'.get? a=some q:=let ⟨q,_,_,hq,_⟩:=dd';⟨q,hq⟩
 exact zgG I (by rw[e];exact True.intro) hs he (zml (yas (zn5 kvs k) z) hd (rel.drop k) dd')
def ztN{r:Value}{Q:Z5}(I:Inv X pins σ H s)(e:H a=some (.dK kvs))(ry:zaV (kV k) u)(l:zeT kvs k=none)(h:∀s',Inv X pins σ H s'->Q r s'):
  wpAny (model X.prog X.w) A (call (.builtin "dict.pop") [.ref a,u,r]) Q E s:=by
 obtain⟨z,hd,vs,rel,dd⟩:=zn6 I.hok e;have hn:valueAt vs k=none:=zf9.none_of (by rw[<-l];exact rel.val k)
 have hp:(keyPart u).isSome=true:=by
  cases k with
  |inl i=>obtain⟨t,q⟩:=(show ∃t,u=Value.int i t from ry);subst q;rfl|inr x=>obtain⟨t,q⟩:=(show ∃t,u=Value.str x t from ry);subst q;rfl
 exact ycx ycy dd.typeIs PySem.F.entry_dict_pop (PySem.F.args_dict_pop_3 _ _ _) (meets_dict_pop_default (zax X.prog X.w) a (zfb ry) hd hp r) ⟨vs,dd,hn,h _ (I.tok _)⟩
end
noncomputable def zv9(i:Expr):Prop:=∀ov iv,subscripted i false ov iv=operate [ov,iv] (getItem ov iv)
def zpx{prog:Program}{w:World}{A:Around}{E:Z5}{s:Shared}{env:Env}{value slice:Expr}{pos:Pos}{T id:String}{Q:Z5}
  (hl:typeLookup (.type T) "__getitem__"=pure (some (.builtin id))) (hs:zv9 slice)
  (h:wpAny (model prog w) A (eval value env) (fun o s₁=>wpAny (model prog w) A (eval slice env) (fun i s₂=>s₂.TypeIs o T/\wpAny (model prog w) A (getItem o i) Q E s₂) E s₁) E s):
  wpAny (model prog w) A (eval (.Subscript value slice pos) env) Q E s:=by
 refine Subscript_ (yaV h (fun o s₁ h₁=>yaV h₁ (fun i s₂ h₂=>?_) fun _ _ x=>x) fun _ _ x=>x);obtain⟨hT,h₂⟩:=h₂;unfold subscriptTail;refine yac ?_;rw[getitemInPython_of_ne hT.not_modules];refine yac (wpAny_specialOf hT hl ?_)
 have fin:wpAny (model prog w) A (subscripted slice false o i) (fun r s₃=>wpAny (model prog w) A (letTemporaryGo value o r >>= fun _=>pure r) Q E s₃) E s₂:=by
  rw[hs o i];exact wpAny_operating (yaV h₂ (fun r s₃ h₃=>yac (wpAny_letTemporaryGo (yap h₃))) fun _ _ x=>x)
 first
  |exact yap (yac fin)
  |exact yac (yap (yac fin))
  |exact yac fin
def zfw{X:Cx}{pins:Z3}{σ:St}{H:Hp}{s:Shared}{a:Addr}{y:V}{o:Option V}(I:Inv X pins σ H s)(g:zhZ H a y o):s.TypeIs (.ref a) "dict":=by
 rcases g with⟨kvs,k,e,_,_⟩|⟨kvs,k,b,e,_,_,_⟩
 ·obtain⟨_,_,vs,_,dd⟩:=zfv I.hok e;exact dd.typeIs
 ·obtain⟨_,_,xs,_,dd⟩:=zhF I.hok e;exact dd.typeIs
noncomputable def zuW(td ty:TE):TE:=fun σ H Q=>td σ H fun x H1=>ty σ H1 fun y H2=>∃a v,x=.ref a/\zhZ H2 a y (some v)/\Q v H2
noncomputable def zwE(ty td:TE):TE:=fun σ H Q=>ty σ H fun y H1=>td σ H1 fun x H2=>∃a o,x=.ref a/\zhZ H2 a y o/\Q (.bl o.isSome) H2
noncomputable def zkJ(ty td:TE):TE:=fun σ H Q=>ty σ H fun y H1=>td σ H1 fun x H2=>∃a o,x=.ref a/\zhZ H2 a y o/\Q (.bl (!o.isSome)) H2
noncomputable def zu7(td ty tv:TE):TS:=fun D σ H=>tv σ H fun v H1=>td σ H1 fun x H2=>ty σ H2 fun y H3=>∃a H4,x=.ref a/\zrl H3 a y v H4/\D.nx σ H4
section
variable{X:Cx}{o i e value:Expr}{pos pos' tpos:Pos}{td ty tv:TE}
def zqo(hu:X.A.units+1<cLine)(ho:PE X o td)(hi:PE X i ty)(hs:zv9 i):PE X (.Subscript o i pos) (zuW td ty):=by
 intro pins s σ H Q I h;refine zpx PySem.F.slot_dict_getitem.lookup hs (thn (ho pins s σ H _ I h) fun u s1 ⟨x,H1,I1,rx,q1⟩=>thn (hi pins s1 σ H1 _ I1 q1) fun iv s2 ⟨y,H2,I2,ry,a,v,ex,g,q2⟩=>?_);subst ex;obtain rfl:u=Value.ref a:=rx;exact⟨zfw I2 g,zhI hu I2 g ry fun w' s3 I3 rw'=>⟨v,H2,I3,rw',q2⟩⟩
def zoO(hu:X.A.units+1<cLine)(hi:PE X i ty)(ho:PE X o td):PC X .In i o (zwE ty td):=by
 intro pins s σ H Q I h;refine thn (hi pins s σ H _ I h) fun iv s1 ⟨y,H1,I1,ry,q1⟩=>thn (ho pins s1 σ H1 _ I1 q1) fun u s2 ⟨x,H2,I2,rx,a,ov,ex,g,q2⟩=>?_
 subst ex;obtain rfl:u=Value.ref a:=rx;exact zxr hu I2 g ry fun s3 I3=>⟨.bl ov.isSome,H2,I3,rfl,q2⟩
def zhk(hu:X.A.units+1<cLine)(hi:PE X i ty)(ho:PE X o td):PC X .NotIn i o (zkJ ty td):=by
 intro pins s σ H Q I h;refine thn (hi pins s σ H _ I h) fun iv s1 ⟨y,H1,I1,ry,q1⟩=>thn (ho pins s1 σ H1 _ I1 q1) fun u s2 ⟨x,H2,I2,rx,a,ov,ex,g,q2⟩=>?_
 subst ex;obtain rfl:u=Value.ref a:=rx;exact zms hu I2 g ry fun s3 I3=>⟨.bl (!ov.isSome),H2,I3,rfl,q2⟩
def zqc(hu:X.A.units+1<cLine)(ho:PE X o td)(hi:PE X i ty)(hv:PE X value tv)(hs:swapsWith value (some (.Subscript o i pos')) pos.line X.env=pure false):
  PS X (.Assign [.Subscript o i pos'] value pos) (zu7 td ty tv):=by
 intro pins s σ H D I h;refine wpAny_Assign_Subscript (thn (hv pins s σ H _ I h) fun r s1 ⟨v,H1,I1,rv,q1⟩=>thn (ho pins s1 σ H1 _ I1 q1) fun u s2 ⟨x,H2,I2,rx,q2⟩=>thn (hi pins s2 σ H2 _ I2 q2) fun iv s3 ⟨y,H3,I3,ry,a,H4,ex,g,q3⟩=>?_) hs;subst ex;obtain rfl:u=Value.ref a:=rx;exact zhH hu I3 g ry rv fun s4 I4=>⟨σ,H4,I4,q3⟩
end
def zjy{P:Program}{w:World}{H:Hp}(h:Heap)(hb:sysModules<h.objs.size):za3 P w H (h.push {cls:=.type "dict",data:=.dict #[]}) h.objs.size (.dK []):=
 ⟨yaM _,ya4.mpr (Ne.symm (yay hb)),[],.nil,Heap.DictOf.new h⟩
noncomputable def zrE:TE:=fun _ H Q=>∀p,H p=none->Q (.ref p) (upd H p (.dK []))
section
variable{X:Cx}{pos:Pos}
def zjc:PE X (.Dict [] [] pos) zrE:=fun pins s σ H Q I h=>
 wpAny_Dict_empty ⟨.ref s.heap.objs.size,_,I.laid (a:=s.heap.objs.size) (o:=.dK []) (t':=s.toks) (fun _ _ q=>yaf _ q) (yal _) (zjy s.heap I.big),rfl,h _ (I.hok.fresh (yal _))⟩
end
noncomputable def zkG:List (TE×TE)->St->Hp->(List (V×V)->Hp->Prop)->Prop
 |[],_,H,Q=>Q [] H|(tk,tv)::r,σ,H,Q=>tk σ H fun x H1=>tv σ H1 fun y H2=>zkG r σ H2 fun ps H3=>Q ((x,y)::ps) H3
noncomputable abbrev VV:List (V×V)->List (Value×Value)->Prop:=Paired fun p q=>zaV p.1 q.1/\zaV p.2 q.2
noncomputable def PPs(X:Cx)(pos:Pos)(keys:List (Option Expr))(values:List Expr)(trs:List (TE×TE)):Prop:=
 ∀(pins:Z3) (s:Shared) (σ:St) (H:Hp) (Q:List (V×V)->Hp->Prop),Inv X pins σ H s->zkG trs σ H Q →
  wpAny (model X.prog X.w) X.A (evalPairs (pairTrees keys values X.env pos)) (fun vs s'=>∃ps H',Inv X pins σ H' s'/\VV ps vs/\Q ps H') X.xe s
def zqe{X:Cx}{pos:Pos}:PPs X pos [] [] []:=fun pins s σ H Q I h=>pairTrees_nil_walk ⟨[],H,I,.nil,h⟩
def znk{X:Cx}{pos:Pos}{k v:Expr}{ks:List (Option Expr)}{vs:List Expr}{tk tv:TE}{trs:List (TE×TE)}(hk:PE X k tk)(hv:PE X v tv)(hr:PPs X pos ks vs trs):
  PPs X pos (some k::ks) (v::vs) ((tk,tv)::trs):=fun pins s σ H Q I h=>
 pairTrees_cons_walk (thn (hk pins s σ H _ I h) fun u s1 ⟨x,H1,I1,rx,q1⟩=>thn (hv pins s1 σ H1 _ I1 q1) fun w2 s2 ⟨y,H2,I2,ry,q2⟩=>
  thn (hr pins s2 σ H2 _ I2 q2) fun ws s3 ⟨ps,H3,I3,rel,q3⟩=>⟨(x,y)::ps,H3,I3,.cons ⟨rx,ry⟩ rel,q3⟩)
noncomputable def zfP(kvs more:List (Key×V)):List (Key×V):=more.foldl (fun acc kv=>ze1 acc kv.1 kv.2) kvs
def KV.merge:∀{more:List (Key×V)}{rs:List (Key×Value)}{kvs:List (Key×V)}{vs:List (Key×Value)},KV more rs->KV kvs vs->KV (zfP kvs more) (merged vs rs):=by
 intro more rs kvs vs r;unfold KV at r
 induction r generalizing kvs vs with
 |nil=>intro q;exact q| @cons p q ps qs h t ih=>
  intro r0
  have e:KV (ze1 kvs p.1 p.2) (stored vs q.1 q.2):=by
   have:=r0.put p.1 h.2;rw[<-h.1];exact this
  exact ih e
theorem zd4:∀(more kvs:List (Key×V)),(zfP kvs more).length<=kvs.length+more.length
 |[],kvs=>by show kvs.length<=kvs.length+0;omega
 |p::r,kvs=>by
  have h1:=zd4 r (ze1 kvs p.1 p.2);have h2:=zcQ kvs p.1 p.2;show(zfP (ze1 kvs p.1 p.2) r).length<=_;rw[yae];omega
theorem zf7{P:Program}{w:World}:∀{kvs:List (Key×V)}{ws:List (Value×Value)},VV (kvs.map fun kv=>(kV kv.1,kv.2)) ws->∃rs,Carries (zax P w) ws rs/\KV kvs rs
 |[],_,r=>by rw[List.map_nil]at r;cases r;exact⟨[],True.intro,.nil⟩
 |p::kvs,_,r=>by
  rw[yaw]at r
  cases r with
  | @cons a b as bs h t=>
   obtain⟨rs,c,q⟩:=zf7 (P:=P) (w:=w) t;obtain⟨b1,b2⟩:=b;exact⟨(p.1,b2)::rs,⟨zfb h.1,rfl,c⟩,.cons ⟨rfl,h.2⟩ q⟩
noncomputable def zuV(trs:List (TE×TE)):TE:=fun σ H Q=>∀p,H p=none->zkG trs σ (upd H p (.dK [])) fun ps H2=>H2 p=some (.dK [])/\∃kvs:List (Key×V),ps=kvs.map (fun kv=>(kV kv.1,kv.2))/\kvs.length<=15/\Q (.ref p) (upd H2 p (.dK (zfP [] kvs)))
def zqn{X:Cx}{pos:Pos}{keys:List (Option Expr)}{values:List Expr}{trs:List (TE×TE)}(h:PPs X pos keys values trs)(hall:keys.all (·.isSome)=true)(hl:keys.length=values.length)(h0:keys≠[])
  (h15:keys.length<=15):PE X (.Dict keys values pos) (zuV trs):=by
 intro pins s σ H Q I q;have hn:=I.hok.fresh (yal s.heap.objs.size);have I1:=I.laid (a:=s.heap.objs.size) (o:=.dK []) (h':=s.heap.push {cls:=.type "dict",data:=.dict #[]}) (t':=s.toks) (fun _ _ q=>yaf _ q) (yal _) (zjy s.heap I.big);refine wpAny_Dict_walk (knd:=zax X.prog X.w) hall hl h0 h15 (thn (h pins _ σ _ _ I1 (q _ hn)) fun ws s2 ⟨ps,H2,I2,rel,e,kvs,ep,lk,q2⟩=>?_);subst ep;obtain⟨rs,c,rk⟩:=zf7 (P:=X.prog) (w:=X.w) rel;obtain⟨z,hd,vs0,r0,dd⟩:=zn6 I2.hok e;cases r0;refine⟨rs,c,dd,fun h' dd' hs=>⟨.ref s.heap.objs.size,_,?_,rfl,q2⟩⟩
 have hz:(zfP [] kvs).length<=sizeLine:=by
  have h1:=zd4 kvs [];rw[ycb]at h1;rw[ycK];omega
 have he:∃q,h'.get? s.heap.objs.size=some q:=let ⟨q,_,_,hq,_⟩:=dd';⟨q,hq⟩
 exact zgG I2 (by rw[e];exact True.intro) hs he (zml hz hd (rk.merge .nil) dd')
structure M1(X:Cx)(o:Expr)(m:Str)(apos:Pos)(e:Expr)(cpos:Pos):Prop where
 base:attributeBase o m X.env (eval o X.env)=eval o X.env
 few:((backTo cpos (starEach [e] X.env)).all (fun x=>!x.1)&&(backToKw cpos (keywordEach [] X.env)).all (fun x=>x.1.isSome)
  && decide (([e]:List Expr).length+([]:List Keyword).length+(if([]:List Keyword).isEmpty then 0 else 1)<30))=true
 line:(apos.endLine==cpos.line)=true
 trees:backTo cpos (starEach [e] X.env)=[(false,eval e X.env)]
structure M2(X:Cx)(o:Expr)(m:Str)(apos:Pos)(e f:Expr)(cpos:Pos):Prop where
 base:attributeBase o m X.env (eval o X.env)=eval o X.env
 few:((backTo cpos (starEach [e,f] X.env)).all (fun x=>!x.1)&&(backToKw cpos (keywordEach [] X.env)).all (fun x=>x.1.isSome)
  && decide (([e,f]:List Expr).length+([]:List Keyword).length+(if([]:List Keyword).isEmpty then 0 else 1)<30))=true
 line:(apos.endLine==cpos.line)=true
 trees:backTo cpos (starEach [e,f] X.env)=[(false,eval e X.env),(false,eval f X.env)]
noncomputable def IsD(H:Hp)(a:Addr):Prop:=(∃kvs,Rd H a (.dK kvs))\/∃kvs,Rd H a (.dT kvs)
def zlV{X:Cx}{pins:Z3}{σ:St}{H:Hp}{s:Shared}{a:Addr}(I:Inv X pins σ H s)(d:IsD H a):
  s.TypeIs (.ref a) "dict" /\ (∀b,Value.ref a=.ref b->∃ob,s.heap.get? b=some ob/\ob.dict=none)/\(a==sysModules)=false:=by
 rcases d with⟨kvs,e⟩|⟨kvs,e⟩
 ·obtain⟨_,hd,vs,_,dd⟩:=zfv I.hok e;refine⟨dd.typeIs,fun b q=>?_,hd⟩;cases q;obtain⟨ob,_,_,h1,h2,_⟩:=dd;exact⟨ob,h1,h2.2.1⟩
 ·obtain⟨_,hd,xs,_,dd⟩:=zhF I.hok e;refine⟨dd.typeIs,fun b q=>?_,hd⟩;cases q;obtain⟨ob,_,_,h1,h2,_⟩:=dd;exact⟨ob,h1,h2.2.1⟩
section
variable{X:Cx}{pins:Z3}{σ:St}{H:Hp}{s:Shared}{a:Addr}{y d:V}{u r:Value}{o:Option V}{A:Around}{E:Z5}
def ztP{Q:Z5}(hu:A.units+1<cLine)(I:Inv X pins σ H s)(g:zhZ H a y o)(ry:zaV y u)(h:∀w' s',Inv X pins σ H s'->zaV (o.getD .non) w'->Q w' s'):
  wpAny (model X.prog X.w) A (call (.builtin "dict.get") [.ref a,u]) Q E s:=by
 rcases g with⟨kvs,k,e,ey,l⟩|⟨kvs,k,b,e,ey,eb,l⟩
 ·subst ey;obtain⟨z,hd,vs,rel,dd⟩:=zfv I.hok e;refine ycx ya9 dd.typeIs ybA (PySem.F.args_dict_get_2 _ _) (meets_dict_get (zax X.prog X.w) a (zfb ry) hd) ⟨_,dd.mapOf,h _ _ (I.tok _) ?_⟩;rw[l];exact(rel.val k).getD rfl
 ·subst ey;cases (show u=Value.ref b from ry);obtain⟨z,hd,xs,rel,dd⟩:=zhF I.hok e;refine ycx ya9 dd.typeIs ybA (PySem.F.args_dict_get_2 _ _) (meetsH_dict_get (tupleKind (zax X.prog X.w)) a b hd) ⟨ybm hu,k,xs,ze9 I.hok eb,dd,h _ _ (I.tok _) ?_⟩;rw[l];exact(rel.val k).getD rfl
def ztO{Q:Z5}(hu:A.units+1<cLine)(I:Inv X pins σ H s)(g:zhZ H a y o)(ry:zaV y u)(rd:zaV d r)(h:∀w' s',Inv X pins σ H s'->zaV (o.getD d) w'->Q w' s'):
  wpAny (model X.prog X.w) A (call (.builtin "dict.get") [.ref a,u,r]) Q E s:=by
 rcases g with⟨kvs,k,e,ey,l⟩|⟨kvs,k,b,e,ey,eb,l⟩
 ·subst ey;obtain⟨z,hd,vs,rel,dd⟩:=zfv I.hok e;refine ycx ya9 dd.typeIs ybA (PySem.F.args_dict_get_3 _ _ _) (meets_dict_get_default (zax X.prog X.w) a (zfb ry) hd r) ⟨_,dd.mapOf,h _ _ (I.tok _) ?_⟩;rw[l];exact(rel.val k).getD rd
 ·subst ey;cases (show u=Value.ref b from ry);obtain⟨z,hd,xs,rel,dd⟩:=zhF I.hok e;refine ycx ya9 dd.typeIs ybA (PySem.F.args_dict_get_3 _ _ _) (meetsH_dict_get_default (tupleKind (zax X.prog X.w)) a b hd r) ⟨ybm hu,k,xs,ze9 I.hok eb,dd,h _ _ (I.tok _) ?_⟩;rw[l];exact(rel.val k).getD rd
end
noncomputable def zrG(td ty:TE):TE:=fun σ H Q=>td σ H fun x H1=>∃a,x=.ref a/\IsD H1 a/\ty σ H1 fun y H2=>∃o,zhZ H2 a y o/\Q (o.getD .non) H2
noncomputable def zrF(td ty tx:TE):TE:=fun σ H Q=>td σ H fun x H1=>∃a,x=.ref a/\IsD H1 a/\ty σ H1 fun y H2=>tx σ H2 fun z H3=>∃o,zhZ H3 a y o/\Q (o.getD z) H3
noncomputable def zrD(td ty tx:TE):TE:=fun σ H Q=>td σ H fun x H1=>∃a,x=.ref a/\IsD H1 a/\ty σ H1 fun y H2=>tx σ H2 fun z H3=>∃kvs k,H3 a=some (.dK kvs)/\y=kV k ∧
 (∀v,zeT kvs k=some v->Q v (upd H3 a (.dK (zfu kvs k))))/\(zeT kvs k=none->Q z H3)
section
variable{X:Cx}{o e f:Expr}{apos cpos:Pos}{td ty tx:TE}
def znt(hu:X.A.units+1<cLine)(ho:PE X o td)(he:PE X e ty)(m:M1 X o "get" apos e cpos):PE X (.Call (.Attribute o "get" apos) [e] [] cpos) (zrG td ty):=by
 intro pins s σ H Q I h;refine ycX m.base m.few m.line ycc ya9 PySem.F.type_dict_get (thn (ho pins s σ H _ I h) fun u s1 ⟨x,H1,I1,rx,a,ex,d,q1⟩=>?_);subst ex;obtain rfl:u=Value.ref a:=rx;obtain⟨t1,t2,_⟩:=zlV I1 d;refine⟨t1,t2,?_⟩;rw[m.trees];refine ybf rfl (ybr (ybk (thn (he pins s1 σ H1 _ I1 q1) fun iv s2 ⟨y,H2,I2,ry,ov,g,q2⟩=>ycq ?_)));exact ztP hu I2 g ry fun w' s3 I3 rw'=>⟨_,H2,I3,rw',q2⟩
def zns(hu:X.A.units+1<cLine)(ho:PE X o td)(he:PE X e ty)(hf:PE X f tx)(m:M2 X o "get" apos e f cpos):PE X (.Call (.Attribute o "get" apos) [e,f] [] cpos) (zrF td ty tx):=by
 intro pins s σ H Q I h;refine ycX m.base m.few m.line ycc ya9 PySem.F.type_dict_get (thn (ho pins s σ H _ I h) fun u s1 ⟨x,H1,I1,rx,a,ex,d,q1⟩=>?_);subst ex;obtain rfl:u=Value.ref a:=rx;obtain⟨t1,t2,_⟩:=zlV I1 d;refine⟨t1,t2,?_⟩;rw[m.trees]
 refine ybf rfl (ybr (ybk (thn (he pins s1 σ H1 _ I1 q1) fun iv s2 ⟨y,H2,I2,ry,q2⟩=>
  ybk (thn (hf pins s2 σ H2 _ I2 q2) fun fv s3 ⟨z,H3,I3,rz,ov,g,q3⟩=>ycq ?_))))
 exact ztO hu I3 g ry rz fun w' s4 I4 rw'=>⟨_,H3,I4,rw',q3⟩
def znr(ho:PE X o td)(he:PE X e ty)(hf:PE X f tx)(m:M2 X o "pop" apos e f cpos):PE X (.Call (.Attribute o "pop" apos) [e,f] [] cpos) (zrD td ty tx):=by
 intro pins s σ H Q I h;refine ycX m.base m.few m.line ycc ycy PySem.F.type_dict_pop (thn (ho pins s σ H _ I h) fun u s1 ⟨x,H1,I1,rx,a,ex,d,q1⟩=>?_);subst ex;obtain rfl:u=Value.ref a:=rx;obtain⟨t1,t2,_⟩:=zlV I1 d;refine⟨t1,t2,?_⟩;rw[m.trees]
 refine ybf rfl (ybr (ybk (thn (he pins s1 σ H1 _ I1 q1) fun iv s2 ⟨y,H2,I2,ry,q2⟩=>
  ybk (thn (hf pins s2 σ H2 _ I2 q2) fun fv s3 ⟨z,H3,I3,rz,kvs,k,ea,ey,q3,q4⟩=>ycq ?_))))
 subst ey
 cases l:zeT kvs k with
 |some v=>exact zvY I3 ea ry l (.inr ⟨fv,rfl⟩) fun w' s4 I4 rw'=>⟨v,_,I4,rw',q3 v l⟩|none=>exact ztN I3 ea ry l fun s4 I4=>⟨z,H3,I4,rz,q4 l⟩
end
noncomputable def zhJ(CX:CXT)(P:Program)(w:World)(K:PySem.W.Frag)(mg:Z6)(base:Heap)(N:List Str)(qual:Str)(scope:Scope)(f:Addr)(cd:Value)(clos:List (Str×Addr))(A:Around)(outer:List Env)(s:Shared)(H:Hp)(E:XK):Cx where
 prog:=P
 w:=w
 K:=K
 mg:=mg
 base:=base
 A:=A.deeper (PySem.W.envX qual scope s.heap.objs.size f cd clos)
 N:=N
 s₀:=s
 H₀:=H
 env:=PySem.W.envX qual scope s.heap.objs.size f cd clos
 outer:=outer
 stack:=PySem.W.envX qual scope s.heap.objs.size f cd clos::outer
 ex:=[]
 calm:=true
 fn:=fun _=>false
 pn:=[]
 xe:=fun e s'=>wpAny (model P w) (A.deeper (PySem.W.envX qual scope s.heap.objs.size f cd clos)) (leaving (PySem.W.envX qual scope s.heap.objs.size f cd clos) e) (fun _ s''=>CX outer H s E e s'') (fun e' s''=>CX outer H s E e' s'') s'
structure LamSc(N:List Str)(sc:Scope):Prop where
 kind:sc.kind=.function
 co:sc.isCoroutine=false
 gen:sc.isGenerator=false
 nocell:∀y∈sc.names,y.2≠.cell
 free:∀x∈N,sc.names.lookup x=some .free
structure LamAt(h:Heap)(H:Hp)(f:Addr)(params:Arguments)(qual:Str)(body:Expr)(sc:Scope)(N:List Str)(vs:List V)(clos:List (Str×Addr))(c:Addr)(pm ctv:Value):Prop where
 fn:h.get? f=some (PySem.W.kla_obj "<lambda>" qual params body sc clos pm c ctv)
 code:h.CodeRec (.ref c) qual
 inj:∀x y a,clos.lookup x=some a->clos.lookup y=some a->x=y
 has:∀x,sc.names.lookup x=some .free->∃a,clos.lookup x=some a
 cell:∀x a,clos.lookup x=some a->H a=none/\∃v,h.IsCell a v
 val:∀(i:Nat) (x:Str) (v:V),N[i]?=some x->vs[i]?=some v->∃u a,zaV v u/\clos.lookup x=some a/\h.IsCell a (some u)
 len:vs.length=N.length
def LamAt.keep{h h':Heap}{H H':Hp}{f:Addr}{params:Arguments}{qual:Str}{body:Expr}{sc:Scope}{N:List Str}{vs:List V}{clos:List (Str×Addr)}{c:Addr}{pm ctv:Value}
  (L:LamAt h H f params qual body sc N vs clos c pm ctv) (kf:∀o,h.get? f=some o->h'.get? f=some o) (kc:∀o,h.get? c=some o->h'.get? c=some o) (k:∀x a o,clos.lookup x=some a->h.get? a=some o->h'.get? a=some o/\H' a=none):LamAt h' H' f params qual body sc N vs clos c pm ctv:=by
 obtain⟨f1,⟨c',oc,us,t,ec,c1,c2⟩,i,hs,ce,vl,ln⟩:=L;cases ec;refine⟨kf _ f1,⟨_,oc,us,t,rfl,kc _ c1,c2⟩,i,hs,fun x a e=>?_,fun j x v e1 e2=>?_,ln⟩
 ·obtain⟨h1,v,o,h3,h4⟩:=ce x a e;exact⟨(k _ _ _ e h3).2,v,o,(k _ _ _ e h3).1,h4⟩
 ·obtain⟨u,a,r,e,o,h3,h4⟩:=vl j x v e1 e2;exact⟨u,a,r,e,o,(k _ _ _ e h3).1,h4⟩
def zlI{CX:CXT}{P:Program}{w:World}{K:PySem.W.Frag}{mg:Z6}{base:Heap}{N:List Str}{qual:Str}{params:Arguments}{body:Expr}{sc:Scope}{f c:Addr}{clos:List (Str×Addr)}{A:Around}{outer:List Env}{s:Shared}{h1:Heap}{tk:Nat}{H:Hp}{E:XK}{vs:List V}{pm ctv:Value}
  (S:LamSc N sc) (hd:A.handled=none) (e0:Env0 P w K mg base A outer s H) (L:LamAt s.heap H f params qual body sc N vs clos c pm ctv) (hn:h1.Ns s.heap.objs.size (fun _=>none)) (hk:∀b o,s.heap.get? b=some o->h1.get? b=some o):
  Inv (zhJ CX P w K mg base N qual sc f (.ref c) clos A outer s H E) [] (vs.map some) H {s with heap:=h1,toks:=tk}:=by
 have noA:∀b:Addr,b ∉ (zhJ CX P w K mg base N qual sc f (.ref c) clos A outer s H E).ex:=fun b z=>absurd (show b∈([]:List Addr)from z) (by simp)
 refine⟨⟨e0.mod,S.kind,rfl,rfl,yal _,fun y z a h1 h2=>L.inj y z a h1 h2,fun y hy=>?_,(fun y a h _=>by cases h),fun _=>hd,Around.frames_deeper e0.frames,.inr ⟨rfl,rfl⟩,fun b z=>absurd z (noA b),e0.bs,e0.bsz,fun b _ _=>noA b,fun b z=>absurd z (noA b),e0.funs,e0.frf⟩,
  rfl,e0.bare,Un.kept hk,⟨_,hn,fun i y v h1 h2 h3=>?_⟩,fun y a h=>?_,e0.hok.fresh (yal _),fun y a h=>(L.cell y a h).1,fun p hp=>absurd (show p∈([]:Z3)from hp) (by simp),e0.hok.kept hk,?_⟩
 ·rcases(hy:sc.names.lookup y=some .cell\/sc.names.lookup y=some .free)with hy|hy
  ·exact absurd rfl (S.nocell _ (yaA hy))
  ·exact L.has y hy
 ·rw[yau]at h2
  cases e:vs[i]? with
  |none=>rw[e]at h2;cases h2|some x=>
   rw[e]at h2;cases h2;obtain⟨u,a,r,e1,o,h3,h4⟩:=L.val i y v h1 e;exact⟨u,r,.inr ⟨.inr (S.free y (yaY h1)),a,e1,o,hk _ _ h3,h4⟩⟩
 ·obtain⟨_,v,o,h3,h4⟩:=L.cell y a h;exact⟨v,o,hk _ _ h3,h4⟩
 ·show(vs.map some).length=N.length;rw[yab,L.len]
def zqE{CX:CXT}{P:Program}{w:World}{K:PySem.W.Frag}{mg:Z6}{base:Heap}{k:Nat}{N:List Str}{qual:Str}{params:Arguments}{body:Expr}{sc:Scope}{f c:Addr}{clos:List (Str×Addr)}{A:Around}{outer:List Env}{s:Shared}{H:Hp}{E:XK}{Q:VK}{vs:List V}{pm ctv:Value}{te:TE}
  (S:LamSc N sc) (hr:Room (k+1) A) (e0:Env0 P w K mg base A outer s H) (L:LamAt s.heap H f params qual body sc N vs clos c pm ctv) (hb:bindArgs (PySem.W.kla_fn "<lambda>" qual params body sc clos pm (.ref c) ctv) ⟨[],[]⟩=pure [])
  (hp:Room k (A.deeper (PySem.W.envX qual sc s.heap.objs.size f (.ref c) clos))->PE (zhJ CX P w K mg base N qual sc f (.ref c) clos A outer s H E) body te) (hq:te (vs.map some) H Q):
  codeAny (model P w) A (.call (.ref f) ⟨[],[]⟩) (CR CX outer P w H s Q E) s:=by
 have lim:s.heap.NoLimit:=e0.mod.nolimit.keeps fun b o e=>(e0.bs b o e).1
 refine PySem.W.kla_callFunE hr.depth L.fn rfl S.co S.gen rfl L.code ?_;rw[hb];refine yap (wpAny_newFunctionEnv S.nocell (fun _ z=>by cases z) (fun h₁ hns hsb=>⟨lim.fresh _ hsb,?_⟩) S.kind);have hk:∀b o,s.heap.get? b=some o->h₁.get? b=some o:=fun b o e=>hsb.extBut b o (yay (yao e)) (yaf _ e)
 show codeAny _ _ (.expr body (PySem.W.envX qual sc s.heap.objs.size f (.ref c) clos)) _ _;have I:=zlI (CX:=CX) (E:=E) (tk:=s.toks+0) S hr.hd e0 L hns hk;refine PySem.W.kla_codeExpr (yaV (hp (hr.deeper _) [] _ _ H Q I hq) (fun u s' ⟨v,H',J,rv,q⟩=>?_) fun e s' hs=>hs);exact⟨v,H',J.os,J.bare,J.base,J.hok,rv,q⟩
section
variable{X:Cx}{CX:CXT}{k:Nat}{N:List Str}{qual x:Str}{params:Arguments}{body:Expr}{sc:Scope}{f c:Addr}{clos:List (Str×Addr)}{E:XK}{vs:List V}{pm ctv:Value}{of oc:Obj}{uf uc:HO}{te:TE}{p pos:Pos}{i:Nat}
def Inv.lamAt{pins:Z3}{σ:St}{H:Hp}{s:Shared}(I:Inv X pins σ H s)(L:LamAt X.s₀.heap X.H₀ f params qual body sc N vs clos c pm ctv)(hf:X.H₀ f=some (.frz of uf))(hc:X.H₀ c=some (.frz oc uc))(h0:HOk X.prog X.w X.H₀ X.s₀.heap)
  (hx:∀x a,clos.lookup x=some a->a ∉ X.fs/\a ∉ X.ex):LamAt s.heap H f params qual body sc N vs clos c pm ctv:=by
 have fz:∀b ob u,X.H₀ b=some (.frz ob u)->∀o,X.s₀.heap.get? b=some o->s.heap.get? b=some o:=fun b ob u e o g=>by
  have e1:=(h0 b _ e).1;have e2:=(I.hok b _ (I.base.frzs b ob u e)).1;rw[e1]at g;cases g;exact e2
 exact L.keep (fz f of uf hf) (fz c oc uc hc) fun y a o e g=>⟨I.base.keep a o g (L.cell y a e).1 (hx y a e).1 (hx y a e).2,I.base.free a o g (L.cell y a e).1 (hx y a e).2⟩
end
section
variable{X:Cx}{pins:Z3}{σ:St}{H:Hp}{s:Shared}{P c:Addr}{ps more:Array Value}{h':Heap}{t':Nat}
def Inv.tblUp(I:Inv X pins σ H s)(hP:H P=some (.tbl ps))(hx:Heap.ExtBut P s.heap h')(ht:h'.get? P=some (PySem.W.tabObj (ps++more))):Inv X pins σ (upd H P (.tbl (ps++more))) {s with heap:=h',toks:=t'}:=by
 have ne:∀b,H b=none->b≠P:=fun b e z=>by rw[z,hP]at e;cases e
 refine I.un ⟨fun b o e n _ _=>hx b o (ne b n) e,fun b o e n _ _=>⟨o.slots,hx b o (ne b n) e⟩,fun b o e n _=>by rw[zaf (ne b n)];exact n,fun b o e _=>?_,fun b xs e=>?_,fun b o u e=>?_,fun b qs e=>?_⟩ fun b u q=>?_
 ·by_cases hb:b=P
  ·exact⟨_,hb ▸ ht⟩
  ·exact⟨o,hx b o hb e⟩
 ·rw[zaf (fun z=>by rw[z,hP]at e;cases e)];exact e
 ·rw[zaf (fun z=>by rw[z,hP]at e;cases e)];exact e
 ·by_cases hb:b=P
  ·subst hb;rw[hP]at e;cases e;exact⟨more,zaq⟩
  ·exact⟨#[],by rw[zaf hb,e];simp⟩
 ·by_cases hb:b=P
  ·subst hb;rw[zaq]at q;cases q;exact ht
  ·rw[zaf hb]at q
   refine(I.hok b u q).stay (fun d v hd r=>hx d v ?_ r) (fun d r=>by rw[zaf (fun z=>by rw[z,hP]at r;cases r)];exact r) fun d xs r=>by rw[zaf (fun z=>by rw[z,hP]at r;cases r)];exact r
   rcases hd with rfl|hd
   ·exact hb
   ·exact fun z=>by rw[z,hP]at hd;cases hd
end
noncomputable def zjF(qual:Str)(oc:Obj):Prop:=∃us t,oc.data=.fields us/\us[1]?=some (.str qual t)
noncomputable def zoo(mg:Z6)(h:Heap):Prop:=∃bm ob,mg "__builtins__"=some (.ref bm)/\bm≠builtinsNs/\h.get? bm=some ob/\ob.cls=.type "module" /\ ob.dict=some builtinsNs/\ob.data=.plain
noncomputable def zx4(P:Addr)(pos:Pos)(fo:Addr->Value->Obj)(qual:Str):TE:=fun σ H Q=>∃ps,H P=some (.tbl ps)/\TriplesOk ps.toList ∧
 (codeAmong pos ps.toList=none->∀f c oc ctv,H f=none->H c=none->f≠c->zjF qual oc →
  Q (.ref f) (upd (upd (upd H P (.tbl (ps++#[rawInt pos.line,rawInt pos.col,.ref c]))) c (.frz oc (.own c))) f (.frz (fo c ctv) (.own f)))) ∧
 ∀cv,codeAmong pos ps.toList=some cv->∃c oc,cv=.ref c/\H c=some (.frz oc (.own c))/\zjF qual oc/\∀f ctv,H f=none->Q (.ref f) (upd H f (.frz (fo c ctv) (.own f)))
def zsv{X:Cx}{params:Arguments}{body:Expr}{sc:Scope}{pos:Pos}{cd P:Addr}{clos:List (Str×Addr)}(hcd:X.env.code=.ref cd)(hC:PySem.W.CodeHd X.base cd P)(hB:zoo X.mg X.base)(hcl:closureFor sc X.env=pure clos)(hdef:defaultsOf params X.env=([],[])):
  PE X (.Lambda params body sc pos) (zx4 P pos (fun c ctv=>PySem.W.kla_obj "<lambda>" (X.env.qual ++ "<lambda>") params body sc clos ((X.mg "__name__").getD .none) c ctv) (X.env.qual ++ "<lambda>")):=by
 intro pins s σ H Q I h;obtain⟨ps,hP,ht,hmiss,hhit⟩:=h;have gP:s.heap.get? P=some (PySem.W.tabObj ps):=I.hok P _ hP;have hg:s.heap.Ns mainGlobals X.mg:=I.mod.glob.keeps I.bk;obtain⟨bm,ob,b1,b2,b3,b4,b5,b6⟩:=hB
 have hgP:mainGlobals≠P:=fun q=>by
  obtain⟨o,es,ep,e,hd,_⟩:=hg;rw[q,gP]at e;cases e;cases hd
 have hbP:bm≠P:=fun q=>by
  have e:=I.bk _ _ b3;rw[q,gP]at e;cases e;cases b4
 have hbG:bm≠mainGlobals:=fun q=>by
  obtain⟨o,es,ep,e,hd,_⟩:=hg;have e':=I.bk _ _ b3;rw[q,e]at e';cases e';rw[hd]at b6;cases b6
 have bb:s.heap.BuiltinsAt X.mg P:=⟨bm,ob,b1,b2,hbG,hbP,I.bk _ _ b3,b4,b5,b6⟩;refine PySem.W.kla_eval hdef ?_
 cases hca:codeAmong pos ps.toList with
 |none=>
  refine PySem.W.kla_makeFunction (mg:=X.mg) hcl I.ok.glob hg hcd (hC.keeps I.bk) gP ht hca hgP bb fun c' ctv h1 tk hx hge hlt hrec htb=>?_
  obtain⟨c2,oc,vs,t,e2,hoc,hd,hv⟩:=hrec;cases e2;have I1:=I.tblUp (t':=tk) hP hx htb;have hcP:c'≠P:=fun z=>absurd (yai (yao gP) hge) (by rw[z];exact yaR _)
  have hcN:H c'=none:=I.hok.fresh hge
  have hcN1:upd H P (.tbl (ps++#[rawInt pos.line,rawInt pos.col,.ref c'])) c'=none:=by rw[zaf hcP];exact hcN
  have I2:=I1.track (D:=c') (o:=.frz oc (.own c')) hcN1 (yas I.sz hge) (fun z=>absurd (yai I.lt hge) (by rw[z];exact yaR _)) (fun x a e z=>by
    obtain⟨v,q⟩:=I.cell x a e
    exact absurd (yai q.lt hge) (by rw[z];exact yaR _)) (fun p hp z=>absurd (yai (yao (I.pin p hp).1) hge) (by rw[z];exact yaR _)) ⟨hoc,oc,hoc⟩
  have fne:h1.objs.size≠c':=yaU hlt;have fP:h1.objs.size≠P:=yaU (yao htb);refine⟨.ref h1.objs.size,_,I2.laid (t':=tk) (a:=h1.objs.size) (o:=.frz (PySem.W.kla_obj "<lambda>" (X.env.qual ++ "<lambda>") params body sc clos ((X.mg "__name__").getD .none) c' ctv) (.own h1.objs.size)) (fun b u e=>yaf _ e) (yal _) ⟨yar _ rfl,_,yar _ rfl⟩,rfl,?_⟩;refine hmiss hca _ c' oc ctv ?_ hcN fne ⟨vs,t,hd,hv⟩;have:=I2.hok.fresh (a:=h1.objs.size) (yal _);rwa[zaf fne,zaf fP]at this
 |some cv=>
  obtain⟨c,oc,rfl,hc,⟨us,t,hd,hv⟩,hq⟩:=hhit cv hca;refine PySem.W.kla_makeFunctionHit (mg:=X.mg) hcl I.ok.glob hg hcd (hC.keeps I.bk) gP ht hca bb fun ctv h1 tk hk hsz=>?_
  have I1:=I.kept (t':=tk) hk;refine⟨.ref h1.objs.size,_,I1.laid (t':=tk) (a:=h1.objs.size) (o:=.frz (PySem.W.kla_obj "<lambda>" (X.env.qual ++ "<lambda>") params body sc clos ((X.mg "__name__").getD .none) c ctv) (.own h1.objs.size)) (fun b u e=>yaf _ e) (yal _) ⟨yar _ rfl,_,yar _ rfl⟩,rfl,?_⟩;exact hq _ ctv (I1.hok.fresh (a:=h1.objs.size) (yal _))
def zmP{H:Hp}{a:Addr}{o:HO}(h:H a=some o):upd H a o=H:=by
 funext b
 by_cases e:b=a
 ·rw[e,zaq,h]
 ·rw[zaf e]
def Inv.fz{X:Cx}{pins:Z3}{σ:List (Option V)}{H:Hp}{s:Shared}{a:Addr}{kvs:List (Key×V)}(I:Inv X pins σ H s)(e:H a=some (.dK kvs)):∃ob,Inv X pins σ (upd H a (.frz ob (.dK kvs))) s:=by
 have x:za3 X.prog X.w H s.heap a (.dK kvs):=I.hok a _ e;obtain⟨z,y,vs,r,ob,es,ep,g,c⟩:=id x
 have ne:∀(b:Addr) (u:HO),H b=some u->u≠.dK kvs->upd H a (.frz ob (.dK kvs)) b=some u:=fun b u hb hn=>by
  rw[zaf (fun q=>hn (by rw[q,e]at hb;cases hb;rfl))];exact hb
 refine⟨ob,I.un (t':=s.toks) ⟨fun _ _ g _ _ _=>g,fun _ o g _ _ _=>⟨o.slots,g⟩,fun b o _ n _=>?_,fun _ o g _=>⟨o,g⟩,fun b xs h=>ne b _ h (by simp),fun b o u h=>ne b _ h (by simp),fun b ps h=>⟨#[],by rw[Array.append_empty];exact ne b _ h (by simp)⟩⟩
  (HOk.write I.hok (x:=a) (by rw[e];trivial) (.inl rfl) (fun _ _ _ g=>g) ⟨ob,g⟩ ⟨g,?_⟩)⟩
 ·rw[zaf (fun q=>by rw[q,e]at n;cases n)];exact n
 ·exact x.stay (fun _ _ _ g=>g) (fun b h=>ne b _ h (by simp)) fun b xs h=>ne b _ h (by simp)
end L2
namespace S2
open PySem PySem.Spec PyProof.Rows L2
noncomputable abbrev St:=L2.St
inductive D where
 |non|bl (b:Bool)|int (i:Int)|str (x:Str)|tup (l:List D)|lst (l:List D)|dic (l:List (D×D))|ref (n:Nat)|exc (c:Str)|scr (l:List Int)
inductive Root where
 |slot (i:Nat)|fld (n:Nat) (f:Str)|obj (n:Nat)|far|tab
 deriving DecidableEq
noncomputable abbrev Ow:=Addr->Option Root
structure Cf where
 ad:Str->Addr
 K:PySem.W.Frag
 P:Program
 wo:PySem.World
 tabs:Addr->Option Str:=fun _=>none
noncomputable instance:CoeFun Cf (fun _=>Str->Addr):=⟨Cf.ad⟩
structure Wd where
 H:Hp
 ow:Ow
 mu:List Addr
mutual
inductive Shd(cl:Cf)(w:Wd):V->D->Prop
 |non:Shd cl w .non .non
 |bl (b:Bool):Shd cl w (.bl b) (.bl b)
 |int (i:Int):Shd cl w (.int i) (.int i)
 |str (x:Str):Shd cl w (.str x) (.str x)
 |tup {a:Addr}{xs:List V}{ds:List D}:w.H a=some (.tup xs)->w.ow a=none->Shds cl w xs ds->Shd cl w (.ref a) (.tup ds)
 |lst {a:Addr}{xs:List V}{ds:List D}:w.H a=some (.lst xs)->w.ow a=none->Shds cl w xs ds->Shd cl w (.ref a) (.lst ds)
 |dicK {a:Addr}{ob:Obj}{kvs:List (Key×V)}{ds:List (D×D)}:w.H a=some (.frz ob (.dK kvs))->w.ow a=none->ShdK cl w kvs ds->Shd cl w (.ref a) (.dic ds)
 |ref {n:Nat}{a:Addr}:w.mu[n]?=some a->Shd cl w (.ref a) (.ref n)
 |scr {a:Addr}{o:Obj}{l:List Int}:w.H a=some (.frz o (.lst (l.map V.int)))->w.ow a=none->Shd cl w (.ref a) (.scr l)
 |scrK {a:Addr}{l:List Int}:(∀H:Hp,SqL cl.K H a (l.map V.int))->Shd cl w (.ref a) (.scr l)
 |exc {a:Addr}{c:Str}{ob:Obj}:w.H a=some (.frz ob (.own a))->w.ow a=none->ob.cls=.ref (cl c)->Shd cl w (.ref a) (.exc c)
inductive Shds(cl:Cf)(w:Wd):List V->List D->Prop
 |nil:Shds cl w [] []
 |cons {v:V}{d:D}{vs:List V}{ds:List D}:Shd cl w v d->Shds cl w vs ds->Shds cl w (v::vs) (d::ds)
inductive ShdK(cl:Cf)(w:Wd):List (Key×V)->List (D×D)->Prop
 |nil:ShdK cl w [] []
 |consI {i:Int}{v:V}{d:D}{vs:List (Key×V)}{ds:List (D×D)}:Shd cl w v d->ShdK cl w vs ds->ShdK cl w ((.inl i,v)::vs) ((.int i,d)::ds)
 |consS {x:Str}{v:V}{d:D}{vs:List (Key×V)}{ds:List (D×D)}:Shd cl w v d->ShdK cl w vs ds->ShdK cl w ((.inr x,v)::vs) ((.str x,d)::ds)
end
structure Fut(w w':Wd):Prop where
 keep:∀a o,w.H a=some o->w.ow a=none->w'.H a=some o/\w'.ow a=none
 mu:∀(n:Nat) (a:Addr),w.mu[n]?=some a->w'.mu[n]?=some a
def Fut.refl(w:Wd):Fut w w:=⟨fun _ _ h k=>⟨h,k⟩,fun _ _ h=>h⟩
def Fut.trans(a:Fut w w1)(b:Fut w1 w2):Fut w w2:=⟨fun c o h k=>b.keep c o (a.keep c o h k).1 (a.keep c o h k).2,fun n c h=>b.mu n c (a.mu n c h)⟩
mutual
theorem Shd.up{cl:Cf}{w w':Wd}(f:Fut w w'):∀{v:V}{d:D},Shd cl w v d->Shd cl w' v d
 |_,_,.non=>.non|_,_,.bl b=>.bl b|_,_,.int i=>.int i|_,_,.str x=>.str x|_,_,.tup e k r=>.tup (f.keep _ _ e k).1 (f.keep _ _ e k).2 (Shds.up f r)|_,_,.lst e k r=>.lst (f.keep _ _ e k).1 (f.keep _ _ e k).2 (Shds.up f r)|_,_,.dicK e k r=>.dicK (f.keep _ _ e k).1 (f.keep _ _ e k).2 (ShdK.up f r)|_,_,.ref e=>.ref (f.mu _ _ e)|_,_,.scr e k=>.scr (f.keep _ _ e k).1 (f.keep _ _ e k).2|_,_,.scrK h=>.scrK h|_,_,.exc e k h=>.exc (f.keep _ _ e k).1 (f.keep _ _ e k).2 h
theorem Shds.up{cl:Cf}{w w':Wd}(f:Fut w w'):∀{vs:List V}{ds:List D},Shds cl w vs ds->Shds cl w' vs ds
 |_,_,.nil=>.nil|_,_,.cons r t=>.cons (Shd.up f r) (Shds.up f t)
theorem ShdK.up{cl:Cf}{w w':Wd}(f:Fut w w'):∀{vs:List (Key×V)}{ds:List (D×D)},ShdK cl w vs ds->ShdK cl w' vs ds
 |_,_,.nil=>.nil|_,_,.consI r t=>.consI (Shd.up f r) (ShdK.up f t)|_,_,.consS r t=>.consS (Shd.up f r) (ShdK.up f t)
end
section
variable{cl:Cf}{w:Wd}
theorem Shds.length:∀{vs:List V}{ds:List D},Shds cl w vs ds->vs.length=ds.length
 |_,_,.nil=>rfl|_,_,.cons _ t=>by rw[yae,yae,Shds.length t]
theorem Shds.get:∀{vs:List V}{ds:List D},Shds cl w vs ds->∀{i:Nat}{v:V},vs[i]?=some v->∃d,ds[i]?=some d/\Shd cl w v d
 |_,_,.nil,i,v,e=>by simp at e
 |_,_,.cons r _,0,v,e=>by simp at e;subst e;exact⟨_,rfl,r⟩
 |_,_,.cons _ t,i+1,v,e=>by
  obtain⟨d,h1,h2⟩:=Shds.get t (i:=i) (v:=v) (by simpa using e);exact⟨d,by simpa using h1,h2⟩
theorem Shds.at:∀{vs:List V}{ds:List D},Shds cl w vs ds->∀{i:Nat}{d:D},ds[i]?=some d->∃v,vs[i]?=some v/\Shd cl w v d
 |_,_,.nil,i,v,e=>by simp at e
 |_,_,.cons r _,0,v,e=>by simp at e;subst e;exact⟨_,rfl,r⟩
 |_,_,.cons _ t,i+1,v,e=>by
  obtain⟨d,h1,h2⟩:=Shds.at t (i:=i) (d:=v) (by simpa using e);exact⟨d,by simpa using h1,h2⟩
theorem Shds.append:∀{vs ws:List V}{ds es:List D},Shds cl w vs ds->Shds cl w ws es->Shds cl w (vs++ws) (ds++es)
 |_,_,_,_,.nil,s=>s|_,_,_,_,.cons r t,s=>.cons r (Shds.append t s)
theorem Shds.take:∀{vs:List V}{ds:List D} (n:Nat),Shds cl w vs ds->Shds cl w (vs.take n) (ds.take n)
 |_,_,0,_=>.nil|_,_,_+1,.nil=>.nil|_,_,n+1,.cons r t=>.cons r (Shds.take n t)
theorem Shds.drop:∀{vs:List V}{ds:List D} (n:Nat),Shds cl w vs ds->Shds cl w (vs.drop n) (ds.drop n)
 |_,_,0,s=>s|_,_,_+1,.nil=>.nil|_,_,n+1,.cons _ t=>Shds.drop n t
end
inductive Top(cl:Cf)(w:Wd):HO->D->Prop
 |lst {xs:List V}{ds:List D}:Shds cl w xs ds->Top cl w (.lst xs) (.lst ds)
 |dicK {kvs:List (Key×V)}{ds:List (D×D)}:ShdK cl w kvs ds->Top cl w (.dK kvs) (.dic ds)
theorem Top.up(f:Fut w w'):Top cl w o d->Top cl w' o d
 |.lst h=>.lst (h.up f)|.dicK h=>.dicK (h.up f)
noncomputable def zhX(cl:Cf)(w:Wd)(r:Root):Bool->V->D->Prop
 |false,v,d=>Shd cl w v d|true,v,d=>∃a o,v=.ref a/\w.ow a=some r/\w.H a=some o/\Top cl w o d
theorem zhX.keep(f:Fut w w')(k:∀a o,w.H a=some o->w.ow a=some r->w'.H a=some o/\w'.ow a=some r):∀{b:Bool}{v:V}{d:D},zhX cl w r b v d->zhX cl w' r b v d
 |false,_,_,h=>Shd.up f h|true,_,_,⟨a,o,e,h1,h2,t⟩=>⟨a,o,e,(k a o h2 h1).2,(k a o h2 h1).1,t.up f⟩
noncomputable def ziG(cl:Cf)(w:Wd)(r:Root)(own:Bool)(v:V)(d:D):Prop:=(own=false/\Shd cl w v d)\/(own=true/\∃d0,d=.tup [d0]/\zhX cl w r true v d0)
theorem ziG.keep(f:Fut w w')(k:∀a o,w.H a=some o->w.ow a=some r->w'.H a=some o/\w'.ow a=some r)(h:ziG cl w r b v d):ziG cl w' r b v d:=by
 rcases h with⟨e,h⟩|⟨e,d0,e1,h⟩
 ·exact .inl ⟨e,h.up f⟩
 ·exact .inr ⟨e,d0,e1,h.keep f k⟩
structure Ob where
 cls:Str
 fs:List (Str×Bool×D)
noncomputable abbrev Sto:=List Ob
noncomputable def zc2(cl:Cf)(w:Wd)(n:Nat):List (Str×V)->List (Str×Bool×D)->Prop:=Paired fun p q=>p.1=q.1/\ziG cl w (.fld n q.1) q.2.1 p.2 q.2.2
noncomputable def zuc(cl:Cf)(w:Wd)(n:Nat)(a:Addr)(ob:Ob):Prop:=w.ow a=some (.obj n)/\∃dx fs,w.H a=some (.ins (cl ob.cls) dx fs)/\zc2 cl w n fs ob.fs
noncomputable def zsH(n:Nat):Option Root->Prop|some (.obj m)=>m=n|some (.fld m _)=>m=n|_=>False
theorem zc2.keep(f:Fut w w')(k:∀a o,w.H a=some o->zsH n (w.ow a)->w'.H a=some o/\w'.ow a=w.ow a):∀{fs:List (Str×V)}{gs:List (Str×Bool×D)},zc2 cl w n fs gs->zc2 cl w' n fs gs
 |_,_,.nil=>.nil|_,_,.cons ⟨e,h⟩ t=>.cons ⟨e,h.keep f fun a o ha hr=>by
   have:=k a o ha (by rw[hr];rfl)
   exact⟨this.1,this.2.trans hr⟩⟩ (zc2.keep f k t)
theorem zuc.keep(f:Fut w w')(k:∀a o,w.H a=some o->zsH n (w.ow a)->w'.H a=some o/\w'.ow a=w.ow a)(h:zuc cl w n a ob):zuc cl w' n a ob:=by
 obtain⟨h1,dx,fs,h2,h3⟩:=h;have:=k a _ h2 (by rw[h1];rfl);exact⟨this.2.trans h1,dx,fs,this.1,h3.keep f k⟩
noncomputable def zmF(w:Wd)(qual:Str)(ps:Array Value):Prop:=TriplesOk ps.toList/\∀pos cv,codeAmong pos ps.toList=some cv->∃c oc,cv=.ref c/\(w.H c=some (.frz oc (.own c))/\w.ow c=none)/\zjF qual oc
def zmF.up{w w':Wd}(f:Fut w w'){q:Str}{ps:Array Value}(h:zmF w q ps):zmF w' q ps:=
 ⟨h.1,fun pos cv e=>let ⟨c,oc,h1,h2,h3⟩:=h.2 pos cv e;⟨c,oc,h1,f.keep _ _ h2.1 h2.2,h3⟩⟩
noncomputable def zok(cl:Cf)(w:Wd):Prop:=∀P q,cl.tabs P=some q->∃ps,w.H P=some (.tbl ps)/\w.ow P=some .tab/\zmF w q ps
def zok.keep{cl:Cf}{w w':Wd}(h:zok cl w)(f:Fut w w')(k:∀P ps,w.H P=some (.tbl ps)->w.ow P=some .tab->w'.H P=some (.tbl ps)/\w'.ow P=some .tab):zok cl w':=fun P q e=>
 let ⟨ps,h1,h2,h3⟩:=h P q e;⟨ps,(k P ps h1 h2).1,(k P ps h1 h2).2,h3.up f⟩
structure Base where
 Fr:Hp
 fw:Ow
structure World'(cl:Cf)(B:Base)(w:Wd)(S:Sto):Prop where
 fr:∀a o,B.Fr a=some o->w.H a=some o/\w.ow a=B.fw a
 own:∀a r,w.ow a=some r->r=.far\/B.Fr a=none
 len:w.mu.length=S.length
 obj:∀(n:Nat) (ob:Ob),S[n]?=some ob->∃a,w.mu[n]?=some a/\zuc cl w n a ob
 tab:zok cl w
noncomputable abbrev Env:=List (Option (Bool×D))
structure Rel(cl:Cf)(B:Base)(σ:St)(w:Wd)(ρ:Env)(S:Sto):Prop where
 wd:World' cl B w S
 len:σ.length=ρ.length
 slots:∀(i:Nat) (o:Bool) (d:D),ρ[i]?=some (some (o,d))->∃v,σ[i]?=some (some v)/\zhX cl w (.slot i) o v d
structure Grow(w w':Wd):Prop where
 keep:∀a o,w.H a=some o->w'.H a=some o/\w'.ow a=w.ow a
 new:∀a r,w'.ow a=some r->w.H a=none->w.ow a=some r\/r=.far
 mu:w'.mu=w.mu
def Grow.refl(w:Wd):Grow w w:=⟨fun _ _ h=>⟨h,rfl⟩,fun _ _ h _=>.inl h,rfl⟩
def Grow.fut(g:Grow w w'):Fut w w':=⟨fun a o h k=>⟨(g.keep a o h).1,(g.keep a o h).2.trans k⟩,fun n a h=>by rw[g.mu];exact h⟩
def World'.grow(W:World' cl B w S)(g:Grow w w'):World' cl B w' S where
 fr:=fun a o h=>by
  obtain⟨h1,h2⟩:=W.fr a o h;exact⟨(g.keep a o h1).1,(g.keep a o h1).2.trans h2⟩
 own:=fun a r h=>by
  cases e:w.H a with
  |none=>exact(g.new a r h e).elim (W.own a r) .inl|some o=>exact W.own a r (by rw[<-(g.keep a o e).2];exact h)
 len:=by rw[g.mu];exact W.len
 obj:=fun n ob h=>by
  obtain⟨a,e,x⟩:=W.obj n ob h;exact⟨a,by rw[g.mu];exact e,x.keep g.fut fun a o ha _=>g.keep a o ha⟩
 tab:=W.tab.keep g.fut fun P ps h1 h2=>⟨(g.keep P _ h1).1,(g.keep P _ h1).2.trans h2⟩
theorem Rel.grow(R:Rel cl B σ w ρ S)(g:Grow w w'):Rel cl B σ w' ρ S where
 wd:=R.wd.grow g
 len:=R.len
 slots:=fun i o d h=>by
  obtain⟨v,e,x⟩:=R.slots i o d h;exact⟨v,e,x.keep g.fut fun a o ha hr=>⟨(g.keep a o ha).1,(g.keep a o ha).2.trans hr⟩⟩
def Wd.add(w:Wd)(p:Addr)(o:HO):Wd:=⟨upd w.H p o,fun a=>if a=p then none else w.ow a,w.mu⟩
def zaB(h:w.H p=none)(o:HO):Grow w (w.add p o)where
 keep:=fun a u ha=>by
  have n:a≠p:=zav ha h;refine⟨?_,?_⟩
  ·show upd w.H p o a=_;rw[zaf n];exact ha
  ·show(if a=p then none else w.ow a)=_;rw[if_neg n]
 new:=fun a r h1 h2=>by
  have h1':(if a=p then none else w.ow a)=some r:=h1;split at h1'
  ·cases h1'
  ·exact .inl h1'
 mu:=rfl
def zhW{w:Wd}:(w.add p o).ow p=none:=if_pos rfl
def zkf{w:Wd}:(w.add p o).H p=some o:=zaq
def Shd.newT(h:w.H p=none)(r:Shds cl w xs ds):Shd cl (w.add p (.tup xs)) (.ref p) (.tup ds):=.tup zkf zhW (r.up (zaB h _).fut)
def Shd.newL(h:w.H p=none)(r:Shds cl w xs ds):Shd cl (w.add p (.lst xs)) (.ref p) (.lst ds):=.lst zkf zhW (r.up (zaB h _).fut)
theorem Top.fz{X:Cx}{pins:Z3}{σ:List (Option V)}{H:Hp}{s:Shared}{cl:Cf}{w:Wd}{a:Addr}{o:HO}{d:D}(t:Top cl w o d)(I:Inv X pins σ H s)(h:H a=some o):∃o',Inv X pins σ (upd H a o') s/\∀w',Fut w w'->w'.H a=some o'->w'.ow a=none->Shd cl w' (.ref a) d:=by
 cases t with
 |lst t=>exact⟨_,by rw[zmP h];exact I,fun w' f e k=>.lst e k (t.up f)⟩
 |dicK t=>
  obtain⟨ob,I'⟩:=I.fz h;exact⟨_,I',fun w' f e k=>.dicK e k (t.up f)⟩
inductive Out(α:Type)where
 |ok (a:α) (S:Sto)|exc (c:Str) (S:Sto)|bad
noncomputable abbrev Fe:=Env->Sto->Out D
inductive Fo where
 |nx (ρ:Env) (S:Sto)|rt (d:D) (S:Sto)|bk (ρ:Env) (S:Sto)|ct (ρ:Env) (S:Sto)|ex (c:Str) (ρ:Env) (S:Sto)|bad
noncomputable abbrev Fs:=Env->Sto->Fo
noncomputable def tE(cl:Cf)(E:St->XK)(f:Fe):TE:=fun σ H Q=>∃B w ρ S,w.H=H/\Rel cl B σ w ρ S/\match f ρ S with
 |.ok d S'=>∀v w',Rel cl B σ w' ρ S'->Fut w w'->Shd cl w' v d->Q v w'.H|.exc c S'=>∀w',Rel cl B σ w' ρ S'->Fut w w'->E σ (.ref (cl c)) none w'.H|.bad=>False
noncomputable def tN(cl:Cf)(E:St->XK)(f:Fe):TE:=fun σ H Q=>∃B w ρ S,w.H=H/\Rel cl B σ w ρ S/\match f ρ S with
 |.ok d S'=>∀p o w',Rel cl B σ w' ρ S'->Fut w w'->w'.H p=none->Top cl w' o d->Q (.ref p) (upd w'.H p o)|.exc c S'=>∀w',Rel cl B σ w' ρ S'->Fut w w'->E σ (.ref (cl c)) none w'.H|.bad=>False
noncomputable def Hd(cl:Cf)(σ:St)(ρ:Env)(w:Wd)(v:V)(d:D):Prop:=Shd cl w v d\/∃i:Nat,ρ[i]?=some (some (true,d))/\σ[i]?=some (some v)
noncomputable def tH(cl:Cf)(E:St->XK)(f:Fe):TE:=fun σ H Q=>∃B w ρ S,w.H=H/\Rel cl B σ w ρ S/\match f ρ S with
 |.ok d S'=>∀v w',Rel cl B σ w' ρ S'->Fut w w'->Hd cl σ ρ w' v d->Q v w'.H|.exc c S'=>∀w',Rel cl B σ w' ρ S'->Fut w w'->E σ (.ref (cl c)) none w'.H|.bad=>False
inductive TopV(cl:Cf)(w:Wd):V->D->Prop
 |sh {v:V}{d:D}:Shd cl w v d->TopV cl w v d
 |ow {a:Addr}{o:HO}{d:D}:w.H a=some o->Top cl w o d->TopV cl w (.ref a) d
def Hd.top(h:Hd cl σ ρ w v d)(R:Rel cl B σ w ρ S):TopV cl w v d:=by
 rcases h with h|⟨i,h1,h2⟩
 ·exact .sh h
 ·obtain⟨v',e,a,o,rfl,_,h3,t⟩:=R.slots i true d h1;rw[h2]at e;cases e;exact .ow h3 t
theorem Hd.up(f:Fut w w')(h:Hd cl σ ρ w v d):Hd cl σ ρ w' v d:=by
 rcases h with h|h
 ·exact .inl (h.up f)
 ·exact .inr h
def PE.imp(h:PE X e t)(i:∀σ H Q,t' σ H Q->t σ H Q):PE X e t':=fun pins s σ H Q I q=>h pins s σ H Q I (i _ _ _ q)
def zuR(h:tH cl E f σ H Q):tE cl E f σ H Q:=by
 obtain⟨B,w,ρ,S,e,R,h⟩:=h;refine⟨B,w,ρ,S,e,R,?_⟩
 cases hf:f ρ S with
 |ok d S'=>
  rw[hf]at h;intro v w' R' F' t;exact h v w' R' F' (.inl t)
 |exc c S'=>rwa[hf]at h|bad=>rwa[hf]at h
noncomputable def Out.bind{α β:Type}(o:Out α)(k:α->Sto->Out β):Out β:=match o with|.ok a S=>k a S|.exc c S=>.exc c S|.bad=>.bad
noncomputable def Out.of{α:Type}(o:Option α)(S:Sto):Out α:=match o with|some a=>.ok a S|none=>.bad
@[simp] def Out.bind_ok{α β:Type}(a:α)(S:Sto)(k:α->Sto->Out β):(Out.ok a S).bind k=k a S:=rfl
@[simp] def Out.bind_exc{α β:Type}(c:Str)(S:Sto)(k:α->Sto->Out β):(Out.exc c S:Out α).bind k=.exc c S:=rfl
@[simp] def Out.bind_bad{α β:Type}(k:α->Sto->Out β):(Out.bad:Out α).bind k=.bad:=rfl
@[simp] def Out.of_some{α:Type}(a:α)(S:Sto):Out.of (some a) S=.ok a S:=rfl
noncomputable def zae(i:Nat):Fe:=fun ρ S=>match ρ[i]? with|some (some (false,d))=>.ok d S|_=>.bad
noncomputable def zai(i:Nat):Fe:=fun ρ S=>match ρ[i]? with|some (some (_,d))=>.ok d S|_=>.bad
noncomputable def zad(d:D):Fe:=fun _ S=>.ok d S
def eUn(g:D->Option D)(f:Fe):Fe:=fun ρ S=>(f ρ S).bind fun a S1=>Out.of (g a) S1
def zaj(g:D->D->Option D)(f h:Fe):Fe:=fun ρ S=>(f ρ S).bind fun a S1=>(h ρ S1).bind fun b S2=>Out.of (g a b) S2
noncomputable def isB:D->Option Bool|.bl b=>some b|_=>none
def eIf(c f h:Fe):Fe:=fun ρ S=>(c ρ S).bind fun d S1=>match isB d with|some true=>f ρ S1|some false=>h ρ S1|none=>.bad
def zgQ(f h:Fe):Fe:=fun ρ S=>(f ρ S).bind fun d S1=>match isB d with|some true=>h ρ S1|some false=>.ok (.bl false) S1|none=>.bad
def eOr(f h:Fe):Fe:=fun ρ S=>(f ρ S).bind fun d S1=>match isB d with|some true=>.ok (.bl true) S1|some false=>h ρ S1|none=>.bad
noncomputable def zcl:D->Option D|.bl b=>some (.bl (!b))|_=>none
def zas:List Fe->Env->Sto->Out (List D)
 |[],_,S=>.ok [] S|f::fs,ρ,S=>(f ρ S).bind fun d S1=>(zas fs ρ S1).bind fun ds S2=>.ok (d::ds) S2
noncomputable def zaD(n:Nat):Bool:=decide (n<=100000)
def zeJ(fs:List Fe):Fe:=fun ρ S=>(zas fs ρ S).bind fun ds S1=>if zaD ds.length then .ok (.tup ds) S1 else .bad
def zj7(fs:List Fe):Fe:=fun ρ S=>(zas fs ρ S).bind fun ds S1=>if zaD ds.length then .ok (.lst ds) S1 else .bad
def zaz(g:List D->Option D)(fs:List Fe):Fe:=fun ρ S=>(zas fs ρ S).bind fun ds S1=>Out.of (g ds) S1
def zaQ(h:zaD n=true):n<=sizeLine:=yas (yaj h) (by decide)
noncomputable def zbx:Expr->Bool|.Starred _ _=>false|_=>true
def zbd(h:zbx e=true):starEach (e::es) env=(false,eval e env)::starEach es env:=by
 cases e<;>first|rfl|cases h
theorem zbN:∀{es:List Expr},es.all zbx=true->(backTo pos (starEach es env)).any (·.1)=false
 |[],_=>rfl|e::es,h=>by
  rw[ya3,yaa]at h;rw[zbd h.1];show(false||(backTo pos (starEach es env)).any (·.1))=false;rw[zbN h.2];rfl
theorem zhi:∀{es:List Expr},es.all zbx=true->(backTo pos (starEach es env)).all (fun x=>!x.1)=true
 |[],_=>rfl|e::es,h=>by
  rw[ya3,yaa]at h;rw[zbd h.1];show(true&&(backTo pos (starEach es env)).all (fun x=>!x.1))=true;rw[zhi h.2];rfl
def zfX(h:es.all zbx=true)(hl:es.length<30):((backTo pos (starEach es env)).all (fun x=>!x.1)&&(backToKw pos (keywordEach [] env)).all (fun x=>x.1.isSome)
   && decide (es.length+([]:List Keyword).length+(if([]:List Keyword).isEmpty then 0 else 1)<30))=true:=by
 rw[zhi h];show(true&&true&&decide (es.length+0+0<30))=true;simpa using hl
noncomputable def Hds(cl:Cf)(σ:St)(ρ:Env)(w:Wd):List V->List D->Prop:=Paired (Hd cl σ ρ w)
noncomputable def zmE(cl:Cf)(w:Wd):List V->List D->Prop:=Paired (TopV cl w)
theorem Hds.top(R:Rel cl B σ w ρ S):∀{vs:List V}{ds:List D},Hds cl σ ρ w vs ds->zmE cl w vs ds
 |_,_,.nil=>.nil|_,_,.cons h t=>.cons (h.top R) (Hds.top R t)
noncomputable def tAs(cl:Cf)(E:St->XK)(fs:List Fe):TA:=fun σ H Q=>∃B w ρ S,w.H=H/\Rel cl B σ w ρ S/\match zas fs ρ S with
 |.ok ds S'=>∀vs w',Rel cl B σ w' ρ S'->Fut w w'->Shds cl w' vs ds->Q vs w'.H|.exc c S'=>∀w',Rel cl B σ w' ρ S'->Fut w w'->E σ (.ref (cl c)) none w'.H|.bad=>False
noncomputable def tHs(cl:Cf)(E:St->XK)(fs:List Fe):TA:=fun σ H Q=>∃B w ρ S,w.H=H/\Rel cl B σ w ρ S/\match zas fs ρ S with
 |.ok ds S'=>∀vs w',Rel cl B σ w' ρ S'->Fut w w'->Hds cl σ ρ w' vs ds->Q vs w'.H|.exc c S'=>∀w',Rel cl B σ w' ρ S'->Fut w w'->E σ (.ref (cl c)) none w'.H|.bad=>False
def PA.imp(h:PA X es t)(i:∀σ H Q,t' σ H Q->t σ H Q):PA X es t':=fun pos pins s σ H Q I q=>h pos pins s σ H Q I (i _ _ _ q)
def PT.imp(h:PT X e t)(i:∀σ H Q,t' σ H Q->t σ H Q):PT X e t':=fun pins s σ H Q I q=>h pins s σ H Q I (i _ _ _ q)
section
variable{X:Cx}{cl:Cf}{E:St->XK}{a b c e:Expr}{f h g:Fe}{pos:Pos}
def zr2(hN:X.N[i]?=some x)(hv:Vis X.env.scope x)(hd:(x==("__debug__":Str))=false)(hcd:(x==("__classdict__":Str))=false):PE X (.Name x pos) (tE cl E (zae i)):=by
 refine PE.imp (za0 hN hv hd hcd) ?_;rintro σ H Q ⟨B,w,ρ,S,rfl,R,q⟩;unfold zae at q;split at q
 ·rename_i o d S' hm;split at hm
  ·rename_i d' he;cases hm;obtain⟨v,e,r⟩:=R.slots i false d he;exact⟨v,e,q v w R (Fut.refl _) r⟩
  ·cases hm
 ·rename_i hm;split at hm<;>cases hm
 ·exact q.elim
def zkY(hN:X.N[i]?=some x)(hv:Vis X.env.scope x)(hd:(x==("__debug__":Str))=false)(hcd:(x==("__classdict__":Str))=false):PE X (.Name x pos) (tH cl E (zai i)):=by
 refine PE.imp (za0 hN hv hd hcd) ?_;rintro σ H Q ⟨B,w,ρ,S,rfl,R,q⟩;unfold zai at q;split at q
 ·rename_i o d S' hm;split at hm
  ·rename_i b d' he;cases hm;obtain⟨v,e,r⟩:=R.slots i b d he;refine⟨v,e,q v w R (Fut.refl _) ?_⟩
   cases b with
   |false=>exact .inl r|true=>exact .inr ⟨i,he,e⟩
  ·cases hm
 ·rename_i hm;split at hm<;>cases hm
 ·exact q.elim
def zgg(h:PE X e (tC v))(hd:∀w,Shd cl w v d):PE X e (tE cl E (zad d)):=by
 refine PE.imp h ?_;rintro σ H Q ⟨B,w,ρ,S,rfl,R,q⟩;exact q v w R (Fut.refl _) (hd w)
def zc4(h:PE X e (tE cl E f)):PE X e (tH cl E f):=PE.imp h fun _ _ _=>zuR
def zez(h:PE X e (tN cl E f)):PE X e (tE cl E f):=by
 intro pins s σ H Q I q;obtain⟨B,w,ρ,S,rfl,R,q⟩:=q;refine yaV (h pins s σ w.H (fun v H'=>∀s',Inv X pins σ H' s'->∃H'',Inv X pins σ H'' s'/\Q v H'') I ⟨B,w,ρ,S,rfl,R,?_⟩) (fun v s' hv=>?_) (fun _ _ x=>x)
 ·cases hf:f ρ S with
  |ok d S'=>
   rw[hf]at q;intro p o w' R' F' hp t s' I';obtain⟨o',I2,hs⟩:=t.fz I' zaq;rw[zpl]at I2;exact⟨_,I2,q (.ref p) (w'.add p o') (R'.grow (zaB hp o')) (F'.trans (zaB hp o').fut) (hs _ (zaB hp o').fut zkf zhW)⟩
  |exc c S'=>rwa[hf]at q|bad=>rwa[hf]at q
 ·obtain⟨x,H',I',r,q'⟩:=hv;obtain⟨H2,I2,q2⟩:=q' _ I';exact⟨x,H2,I2,r,q2⟩
noncomputable def OpD(X:Cx)(cl:Cf)(op:Value->Value->Sem Value)(g:D->D->Option D):Prop:=OpR X op fun x y H Q=>∃w d e r,w.H=H/\TopV cl w x d/\TopV cl w y e/\g d e=some r/\∀v w',Grow w w'->Shd cl w' v r->Q v w'.H
noncomputable def UnD(X:Cx)(cl:Cf)(op:Value->Sem Value)(g:D->Option D):Prop:=UnR X op fun x H Q=>∃w d r,w.H=H/\TopV cl w x d/\g d=some r/\∀v w',Grow w w'->Shd cl w' v r->Q v w'.H
noncomputable def zki(X:Cx)(cl:Cf)(fv:Value)(g:List D->Option D):Prop:=zdS X fv fun xs H Q=>∃w ds r,w.H=H/\zmE cl w xs ds/\g ds=some r/\∀v w',Grow w w'->Shd cl w' v r->Q v w'.H
noncomputable def zon(X:Cx)(cl:Cf)(fv:Value)(g:List D->Option D):Prop:=zdS X fv fun xs H Q=>∃w ds r,w.H=H/\zmE cl w xs ds/\g ds=some r/\∀p o w',Grow w w'->w'.H p=none->Top cl w' o r->Q (.ref p) (upd w'.H p o)
noncomputable def IxD(X:Cx)(cl:Cf)(g:D->D->Option D):Prop:=IxR X fun x y H Q=>∃w d e r,w.H=H/\TopV cl w x d/\TopV cl w y e/\g d e=some r/\∀v w',Grow w w'->Shd cl w' v r->Q v w'.H
def two(hr:∀x y H Q,(∃w d e r,w.H=H/\TopV cl w x d/\TopV cl w y e/\gg d e=some r/\∀v w',Grow w w'->Shd cl w' v r->Q v w'.H)->r2 x y H Q)(σ:St)(H:Hp)(Q:VK)(q:tE cl E (zaj gg f h) σ H Q):tOp r2 (tH cl E f) (tH cl E h) σ H Q:=by
 obtain⟨B,w,ρ,S,rfl,R,q⟩:=q;refine⟨B,w,ρ,S,rfl,R,?_⟩;unfold zaj at q
 cases hf:f ρ S with
 |bad=>rwa[hf]at q|exc c S1=>rwa[hf]at q|ok d S1=>
  rw[hf]at q;intro v w1 R1 F1 h1;refine⟨B,w1,ρ,S1,rfl,R1,?_⟩;dsimp only[Out.bind]at q
  cases hh:h ρ S1 with
  |bad=>rwa[hh]at q|exc c S2=>rw[hh]at q;exact fun w2 R2 F2=>q w2 R2 (F1.trans F2)|ok e S2=>
   rw[hh]at q;intro y w2 R2 F2 h2;dsimp only at q
   cases hg:gg d e with
   |none=>rw[hg]at q;exact q.elim|some r=>
    rw[hg]at q;exact hr _ _ _ _ ⟨w2,d,e,r,rfl,(h1.up F2).top R2,h2.top R2,hg,fun v' w' gr sh=>q v' w' (R2.grow gr) (F1.trans (F2.trans gr.fut)) sh⟩
def zoz(ho:OpD X cl (binaryOp op) gg)(ha:PE X a (tH cl E f))(hb:PE X b (tH cl E h)):PE X (.BinOp a op b pos) (tE cl E (zaj gg f h)):=
 PE.imp (zvg ho ha hb) (two fun _ _ _ _ z=>z)
def zr6(ho:IxD X cl gg)(ha:PE X a (tH cl E f))(hb:PE X b (tH cl E h))(hs:ziF b):PE X (.Subscript a b pos) (tE cl E (zaj gg f h)):=
 PE.imp (zvh ho ha hb hs) (two fun _ _ _ _ z=>z)
def zr8(ho:OpD X cl (compareOp op) gg)(ha:PE X a (tH cl E f))(hb:PE X b (tH cl E h))(hm:behindInMarks op b=false):PE X (.Compare a [op] [b] pos) (tE cl E (zaj gg f h)):=
 PE.imp (zqp ho ha hb hm) (two fun _ _ _ _ z=>z)
def zu0(ho:UnD X cl (unaryOp op) gg)(ha:PE X a (tH cl E f)):PE X (.UnaryOp op a pos) (tE cl E (eUn gg f)):=by
 refine PE.imp (zve ho ha) ?_;rintro σ H Q ⟨B,w,ρ,S,rfl,R,q⟩;refine⟨B,w,ρ,S,rfl,R,?_⟩;unfold eUn at q
 cases hf:f ρ S with
 |bad=>rwa[hf]at q|exc c S1=>rwa[hf]at q|ok d S1=>
  rw[hf]at q;intro v w1 R1 F1 h1;dsimp only[Out.bind]at q
  cases hg:gg d with
  |none=>rw[hg]at q;exact q.elim|some r=>
   rw[hg]at q;exact⟨w1,d,r,rfl,h1.top R1,hg,fun v' w' gr sh=>q v' w' (R1.grow gr) (F1.trans gr.fut) sh⟩
noncomputable def tTr(cl:Cf)(E:St->XK)(f:Fe):TT:=fun σ H Q=>∃B w ρ S,w.H=H/\Rel cl B σ w ρ S/\match f ρ S with
 |.ok d S'=>match isB d with
  |some b=>∀w',Rel cl B σ w' ρ S'->Fut w w'->Q b w'.H|none=>False
 |.exc c S'=>∀w',Rel cl B σ w' ρ S'->Fut w w'->E σ (.ref (cl c)) none w'.H|.bad=>False
def zdx{d:D}{b:Bool}(h:isB d=some b):d=.bl b:=by
 cases d<;>simp[isB]at h
 subst h;rfl
def zg4{w:Wd}{v:V}{b:Bool}(h:Shd cl w v (.bl b)):v=.bl b:=by cases h;rfl
def zgV(q:tTr cl E f σ H Q):tB (tE cl E f) σ H Q:=by
 obtain⟨B,w,ρ,S,rfl,R,q⟩:=q;refine⟨B,w,ρ,S,rfl,R,?_⟩
 cases hf:f ρ S with
 |bad=>rwa[hf]at q|exc c S1=>rwa[hf]at q|ok d S1=>
  rw[hf]at q;intro v w1 R1 F1 h1;dsimp only at q
  cases hb:isB d with
  |none=>rw[hb]at q;exact q.elim|some b=>
   rw[hb]at q;rw[zdx hb]at h1;exact⟨b,zg4 h1,q w1 R1 F1⟩
def zg0(h:PE X e (tE cl E f))(he:∀whole,isTrue e X.env whole=(do let v ← whole;standAt e.pos;holding [v] (truthy v))):PT X e (tTr cl E f):=
 PT.imp (zsk h he) fun _ _ _ q=>zgV q
def zkF(hr:∀x y H Q,(∃w d e r,w.H=H/\TopV cl w x d/\TopV cl w y e/\gg d e=some r/\∀v w',Grow w w'->Shd cl w' v r->Q v w'.H)->r2 x y H Q)(q:tTr cl E (zaj gg f h) σ H Q):zps (tOp r2 (tH cl E f) (tH cl E h)) σ H Q:=
 two hr σ H _ (zgV q)
def zou(ho:OpD X cl (compareOp op) gg)(ha:PE X a (tH cl E f))(hb:PE X b (tH cl E h))(hm:behindInMarks op b=false):PT X (.Compare a [op] [b] pos) (tTr cl E (zaj gg f h)):=
 PT.imp (zp9 ho ha hb hm) fun _ _ _ q=>zkF (fun _ _ _ _ z=>z) q
def PW.imp(h:PW X e t)(i:∀σ H Q,t' σ H Q->t σ H Q):PW X e t':=fun whole pins s σ H Q I q=>h whole pins s σ H Q I (i _ _ _ q)
def zpr(q:tTr cl E (zgQ f h) σ H Q):zwF (tTr cl E f) (tTr cl E h) σ H Q:=by
 obtain⟨B,w,ρ,S,rfl,R,q⟩:=q;refine⟨B,w,ρ,S,rfl,R,?_⟩;unfold zgQ at q
 cases hf:f ρ S with
 |bad=>rwa[hf]at q|exc c S1=>rwa[hf]at q|ok d S1=>
  rw[hf]at q;dsimp only[Out.bind]at q ⊢
  cases hb:isB d with
  |none=>rw[hb]at q;exact q.elim|some b=>
   rw[hb]at q;intro w1 R1 F1
   cases b with
   |false=>exact zoX (q w1 R1 F1)|true=>
    refine zoW ⟨B,w1,ρ,S1,rfl,R1,?_⟩;dsimp only at q
    cases hh:h ρ S1 with
    |bad=>rwa[hh]at q|exc c S2=>rw[hh]at q;exact fun w2 R2 F2=>q w2 R2 (F1.trans F2)|ok e S2=>
     rw[hh]at q;dsimp only at q ⊢
     cases hb2:isB e with
     |none=>rw[hb2]at q;exact q.elim|some b2=>rw[hb2]at q;exact fun w2 R2 F2=>q w2 R2 (F1.trans F2)
def zrz(q:tTr cl E (eOr f h) σ H Q):tOr (tTr cl E f) (tTr cl E h) σ H Q:=by
 obtain⟨B,w,ρ,S,rfl,R,q⟩:=q;refine⟨B,w,ρ,S,rfl,R,?_⟩;unfold eOr at q
 cases hf:f ρ S with
 |bad=>rwa[hf]at q|exc c S1=>rwa[hf]at q|ok d S1=>
  rw[hf]at q;dsimp only[Out.bind]at q ⊢
  cases hb:isB d with
  |none=>rw[hb]at q;exact q.elim|some b=>
   rw[hb]at q;intro w1 R1 F1
   cases b with
   |true=>exact zoW (q w1 R1 F1)|false=>
    refine zoX ⟨B,w1,ρ,S1,rfl,R1,?_⟩;dsimp only at q
    cases hh:h ρ S1 with
    |bad=>rwa[hh]at q|exc c S2=>rw[hh]at q;exact fun w2 R2 F2=>q w2 R2 (F1.trans F2)|ok e S2=>
     rw[hh]at q;dsimp only at q ⊢
     cases hb2:isB e with
     |none=>rw[hb2]at q;exact q.elim|some b2=>rw[hb2]at q;exact fun w2 R2 F2=>q w2 R2 (F1.trans F2)
def zpq(q:tTr cl E (eUn zcl f) σ H Q):zwD (tTr cl E f) σ H Q:=by
 obtain⟨B,w,ρ,S,rfl,R,q⟩:=q;refine⟨B,w,ρ,S,rfl,R,?_⟩;unfold eUn at q
 cases hf:f ρ S with
 |bad=>rwa[hf]at q|exc c S1=>rwa[hf]at q|ok d S1=>
  rw[hf]at q;dsimp only[Out.bind]at q ⊢
  cases hb:isB d with
  |none=>
   have:zcl d=none:=by cases d<;>simp[isB]at hb<;>rfl
   rw[this]at q;exact q.elim
  |some b=>
   rwa[zdx hb]at q
def zot(ha:PT X a (tTr cl E f)):PT X (.UnaryOp .Not a pos) (tTr cl E (eUn zcl f)):=PT.imp (zsl ha) fun _ _ _ q=>zpq q
def zrM{zbR:List Expr}(ha:PT X a (tTr cl E f))(hb:PW X (.BoolOp .And (b::zbR) pos) (tTr cl E h)):PW X (.BoolOp .And (a::b::zbR) pos) (tTr cl E (zgQ f h)):=PW.imp (zsj ha hb) fun _ _ _ q=>zpr q
def zrL{zbR:List Expr}(ha:PT X a (tTr cl E f))(hb:PW X (.BoolOp .Or (b::zbR) pos) (tTr cl E h)):PW X (.BoolOp .Or (a::b::zbR) pos) (tTr cl E (eOr f h)):=PW.imp (zvb ha hb) fun _ _ _ q=>zrz q
def zr9{zbR:List Expr}(ha:PE X a (tE cl E f))(hb:PE X (.BoolOp .And (b::zbR) pos) (tE cl E h)):PE X (.BoolOp .And (a::b::zbR) pos) (tE cl E (zgQ f h)):=by
 refine PE.imp (zsx ha hb) ?_;rintro σ H Q ⟨B,w,ρ,S,rfl,R,q⟩;refine⟨B,w,ρ,S,rfl,R,?_⟩;unfold zgQ at q
 cases hf:f ρ S with
 |bad=>rwa[hf]at q|exc c S1=>rwa[hf]at q|ok d S1=>
  rw[hf]at q;intro v w1 R1 F1 h1;dsimp only[Out.bind]at q
  cases hb:isB d with
  |none=>rw[hb]at q;exact q.elim|some b=>
   rw[hb]at q;rw[zdx hb]at h1;refine⟨b,zg4 h1,?_⟩
   cases b with
   |false=>exact zoX (q _ w1 R1 F1 (.bl false))|true=>
    refine zoW ⟨B,w1,ρ,S1,rfl,R1,?_⟩;dsimp only at q
    cases hh:h ρ S1 with
    |bad=>rwa[hh]at q|exc c S2=>rw[hh]at q;exact fun w2 R2 F2=>q w2 R2 (F1.trans F2)|ok e S2=>rw[hh]at q;exact fun v w2 R2 F2=>q v w2 R2 (F1.trans F2)
def zu3{zbR:List Expr}(ha:PE X a (tE cl E f))(hb:PE X (.BoolOp .Or (b::zbR) pos) (tE cl E h)):PE X (.BoolOp .Or (a::b::zbR) pos) (tE cl E (eOr f h)):=by
 refine PE.imp (zvf ha hb) ?_;rintro σ H Q ⟨B,w,ρ,S,rfl,R,q⟩;refine⟨B,w,ρ,S,rfl,R,?_⟩;unfold eOr at q
 cases hf:f ρ S with
 |bad=>rwa[hf]at q|exc c S1=>rwa[hf]at q|ok d S1=>
  rw[hf]at q;intro v w1 R1 F1 h1;dsimp only[Out.bind]at q
  cases hb:isB d with
  |none=>rw[hb]at q;exact q.elim|some b=>
   rw[hb]at q;rw[zdx hb]at h1;refine⟨b,zg4 h1,?_⟩
   cases b with
   |true=>exact zoW (q _ w1 R1 F1 (.bl true))|false=>
    refine zoX ⟨B,w1,ρ,S1,rfl,R1,?_⟩;dsimp only at q
    cases hh:h ρ S1 with
    |bad=>rwa[hh]at q|exc c S2=>rw[hh]at q;exact fun w2 R2 F2=>q w2 R2 (F1.trans F2)|ok e S2=>rw[hh]at q;exact fun v w2 R2 F2=>q v w2 R2 (F1.trans F2)
def zr4(ha:PE X a (tE cl E f)):PE X (.UnaryOp .Not a pos) (tE cl E (eUn zcl f)):=by
 refine PE.imp (zsu ha) ?_;rintro σ H Q ⟨B,w,ρ,S,rfl,R,q⟩;refine⟨B,w,ρ,S,rfl,R,?_⟩;unfold eUn at q
 cases hf:f ρ S with
 |bad=>rwa[hf]at q|exc c S1=>rwa[hf]at q|ok d S1=>
  rw[hf]at q;intro v w1 R1 F1 h1;dsimp only[Out.bind]at q
  cases hb:isB d with
  |none=>
   have:zcl d=none:=by cases d<;>simp[isB]at hb<;>rfl
   rw[this]at q;exact q.elim
  |some b=>
   rw[zdx hb]at q h1;exact⟨b,zg4 h1,q _ w1 R1 F1 (.bl _)⟩
def zuT(q:tE cl E (eIf g f h) σ H Q):tIf (tTr cl E g) (tE cl E f) (tE cl E h) σ H Q:=by
 obtain⟨B,w,ρ,S,rfl,R,q⟩:=q;refine⟨B,w,ρ,S,rfl,R,?_⟩;unfold eIf at q
 cases hg:g ρ S with
 |bad=>rwa[hg]at q|exc c S1=>rwa[hg]at q|ok d S1=>
  rw[hg]at q;dsimp only[Out.bind]at q ⊢
  cases hb:isB d with
  |none=>rw[hb]at q;exact q.elim|some b=>
   rw[hb]at q;intro w1 R1 F1
   cases b with
   |true=>
    refine zoW ⟨B,w1,ρ,S1,rfl,R1,?_⟩;dsimp only at q
    cases hh:f ρ S1 with
    |bad=>rwa[hh]at q|exc c S2=>rw[hh]at q;exact fun w2 R2 F2=>q w2 R2 (F1.trans F2)|ok e S2=>rw[hh]at q;exact fun v w2 R2 F2=>q v w2 R2 (F1.trans F2)
   |false=>
    refine zoX ⟨B,w1,ρ,S1,rfl,R1,?_⟩;dsimp only at q
    cases hh:h ρ S1 with
    |bad=>rwa[hh]at q|exc c S2=>rw[hh]at q;exact fun w2 R2 F2=>q w2 R2 (F1.trans F2)|ok e S2=>rw[hh]at q;exact fun v w2 R2 F2=>q v w2 R2 (F1.trans F2)
def zu4(hc:PT X c (tTr cl E g))(ha:PE X a (tE cl E f))(hb:PE X b (tE cl E h)):PE X (.IfExp c a b pos) (tE cl E (eIf g f h)):=PE.imp (znq hc ha hb) fun _ _ _ q=>zuT q
def zeB:PA X [] (tAs cl E []):=by
 refine PA.imp zcg ?_;rintro σ H Q ⟨B,w,ρ,S,rfl,R,q⟩;exact q [] w R (Fut.refl _) .nil
def zaR(ha:PE X e (tE cl E f))(hr:PA X es (tAs cl E fs))(hs:starEach (e::es) X.env=(false,eval e X.env)::starEach es X.env):PA X (e::es) (tAs cl E (f::fs)):=by
 refine PA.imp (zba ha hr hs) ?_;rintro σ H Q ⟨B,w,ρ,S,rfl,R,q⟩;refine⟨B,w,ρ,S,rfl,R,?_⟩;unfold zas at q
 cases hf:f ρ S with
 |bad=>rwa[hf]at q|exc c S1=>rwa[hf]at q|ok d S1=>
  rw[hf]at q;intro v w1 R1 F1 h1;refine⟨B,w1,ρ,S1,rfl,R1,?_⟩;dsimp only[Out.bind]at q
  cases hh:zas fs ρ S1 with
  |bad=>rwa[hh]at q|exc c S2=>rw[hh]at q;exact fun w2 R2 F2=>q w2 R2 (F1.trans F2)|ok ds S2=>
   rw[hh]at q;exact fun vs w2 R2 F2 h2=>q _ w2 R2 (F1.trans F2) (.cons (h1.up F2) h2)
def zow:PA X [] (tHs cl E []):=by
 refine PA.imp zcg ?_;rintro σ H Q ⟨B,w,ρ,S,rfl,R,q⟩;exact q [] w R (Fut.refl _) .nil
def zkQ(ha:PE X e (tH cl E f))(hr:PA X es (tHs cl E fs))(hs:starEach (e::es) X.env=(false,eval e X.env)::starEach es X.env):PA X (e::es) (tHs cl E (f::fs)):=by
 refine PA.imp (zba ha hr hs) ?_;rintro σ H Q ⟨B,w,ρ,S,rfl,R,q⟩;refine⟨B,w,ρ,S,rfl,R,?_⟩;unfold zas at q
 cases hf:f ρ S with
 |bad=>rwa[hf]at q|exc c S1=>rwa[hf]at q|ok d S1=>
  rw[hf]at q;intro v w1 R1 F1 h1;refine⟨B,w1,ρ,S1,rfl,R1,?_⟩;dsimp only[Out.bind]at q
  cases hh:zas fs ρ S1 with
  |bad=>rwa[hh]at q|exc c S2=>rw[hh]at q;exact fun w2 R2 F2=>q w2 R2 (F1.trans F2)|ok ds S2=>
   rw[hh]at q;exact fun vs w2 R2 F2 h2=>q _ w2 R2 (F1.trans F2) (.cons (h1.up F2) h2)
def zr3(h:PA X es (tAs cl E fs)):PE X (.Tuple es k pos) (tE cl E (zeJ fs)):=by
 refine PE.imp (zoI h) ?_;rintro σ H Q ⟨B,w,ρ,S,rfl,R,q⟩;refine⟨B,w,ρ,S,rfl,R,?_⟩;unfold zeJ at q
 cases hf:zas fs ρ S with
 |bad=>rwa[hf]at q|exc c S1=>rwa[hf]at q|ok ds S1=>
  rw[hf]at q;intro vs w1 R1 F1 h1;dsimp only[Out.bind]at q
  cases hz:zaD ds.length with
  |false=>rw[hz,if_neg (by decide)]at q;exact q.elim
  |true=>
   rw[hz,if_pos rfl]at q;refine⟨by rw[h1.length];exact zaQ hz,fun p hp=>?_⟩;exact q _ (w1.add p (.tup vs)) (R1.grow (zaB hp _)) (F1.trans (zaB hp _).fut) (Shd.newT hp h1)
def zi4(h:PA X es (tAs cl E fs)):PE X (.List es pos) (tN cl E (zj7 fs)):=by
 refine PE.imp (zoL h) ?_;rintro σ H Q ⟨B,w,ρ,S,rfl,R,q⟩;refine⟨B,w,ρ,S,rfl,R,?_⟩;unfold zj7 at q
 cases hf:zas fs ρ S with
 |bad=>rwa[hf]at q|exc c S1=>rwa[hf]at q|ok ds S1=>
  rw[hf]at q;intro vs w1 R1 F1 h1;dsimp only[Out.bind]at q
  cases hz:zaD ds.length with
  |false=>rw[hz,if_neg (by decide)]at q;exact q.elim
  |true=>
   rw[hz,if_pos rfl]at q;refine⟨by rw[h1.length];exact zaQ hz,fun p hp=>?_⟩;exact q _ (.lst vs) w1 R1 F1 hp (.lst h1)
def zrI(hr:∀xs H Q,(∃w ds r,w.H=H/\zmE cl w xs ds/\gg ds=some r/\∀v w',Grow w w'->Shd cl w' v r->Q v w'.H)->r xs H Q)(q:tE cl E (zaz gg fs) σ H Q):tCB r (tHs cl E fs) σ H Q:=by
 obtain⟨B,w,ρ,S,rfl,R,q⟩:=q;refine⟨B,w,ρ,S,rfl,R,?_⟩;unfold zaz at q
 cases hf:zas fs ρ S with
 |bad=>rwa[hf]at q|exc c S1=>rwa[hf]at q|ok ds S1=>
  rw[hf]at q;intro vs w1 R1 F1 h1;dsimp only[Out.bind]at q
  cases hg:gg ds with
  |none=>rw[hg]at q;exact q.elim|some d=>
   rw[hg]at q;exact hr _ _ _ ⟨w1,ds,d,rfl,h1.top R1,hg,fun v w' gr sh=>q v w' (R1.grow gr) (F1.trans gr.fut) sh⟩
def zrH(hr:∀xs H Q,(∃w ds r,w.H=H/\zmE cl w xs ds/\gg ds=some r/\∀p o w',Grow w w'->w'.H p=none->Top cl w' o r->Q (.ref p) (upd w'.H p o))->r xs H Q)(q:tN cl E (zaz gg fs) σ H Q):tCB r (tHs cl E fs) σ H Q:=by
 obtain⟨B,w,ρ,S,rfl,R,q⟩:=q;refine⟨B,w,ρ,S,rfl,R,?_⟩;unfold zaz at q
 cases hf:zas fs ρ S with
 |bad=>rwa[hf]at q|exc c S1=>rwa[hf]at q|ok ds S1=>
  rw[hf]at q;intro vs w1 R1 F1 h1;dsimp only[Out.bind]at q
  cases hg:gg ds with
  |none=>rw[hg]at q;exact q.elim|some d=>
   rw[hg]at q;exact hr _ _ _ ⟨w1,ds,d,rfl,h1.top R1,hg,fun p o w' gr hp t=>q p o w' (R1.grow gr) (F1.trans gr.fut) hp t⟩
end
noncomputable def Root.out:Option Root->Option Root|some (.slot _)=>some .far|o=>o
def Root.out_none:Root.out o=none↔o=none:=by
 cases o with
 |none=>exact⟨fun h=>h,fun h=>h⟩|some r=>cases r<;>simp[Root.out]
noncomputable def zd6:Option Root->Bool|some (.fld _ _)=>true|some (.obj _)=>true|some .tab=>true|_=>false
def Wd.inn(w:Wd):Wd:=⟨w.H,fun a=>Root.out (w.ow a),w.mu⟩
def Wd.base(w:Wd):Base:=⟨fun a=>if zd6 (w.ow a)=true then none else w.H a,fun a=>Root.out (w.ow a)⟩
def Wd.back(w w':Wd):Wd:=⟨w'.H,fun a=>if(w.base.Fr a).isSome=true then w.ow a else Root.out (w'.ow a),w'.mu⟩
def zbT(w:Wd):Fut w w.inn:=⟨fun a o h k=>⟨h,by show Root.out (w.ow a)=none;rw[k];rfl⟩,fun _ _ h=>h⟩
def zhV{w:Wd}(h:w.H a=some o)(k:zd6 (w.ow a)=false):w.base.Fr a=some o:=by
 show(if zd6 (w.ow a)=true then none else w.H a)=_;rw[k,if_neg (by decide)];exact h
def zqv{w:Wd}(h:w.base.Fr a=some o):w.H a=some o/\zd6 (w.ow a)=false:=by
 have h':(if zd6 (w.ow a)=true then none else w.H a)=some o:=h;split at h'
 ·cases h'
 ·rename_i z;exact⟨h',by simpa using z⟩
section
variable{cl:Cf}{B:Base}{σ:St}{w w':Wd}{ρ:Env}{S S':Sto}
def World'.enter(W:World' cl B w S):World' cl w.base w.inn S where
 fr:=fun a o h=>⟨(zqv h).1,rfl⟩
 own:=fun a r h=>by
  have h':Root.out (w.ow a)=some r:=h
  cases e:w.ow a with
  |none=>rw[e]at h';cases h'|some q=>
   cases q with
   |slot i=>rw[e]at h';cases h';exact .inl rfl|far=>rw[e]at h';cases h';exact .inl rfl|fld n f=>exact .inr (by show(if zd6 (w.ow a)=true then none else w.H a)=none;rw[e];rfl)
   |obj n=>exact .inr (by show(if zd6 (w.ow a)=true then none else w.H a)=none;rw[e];rfl)
   |tab=>exact .inr (by show(if zd6 (w.ow a)=true then none else w.H a)=none;rw[e];rfl)
 len:=W.len
 obj:=fun n ob h=>by
  obtain⟨a,e,x⟩:=W.obj n ob h;refine⟨a,e,x.keep (zbT w) fun a o ha hn=>⟨ha,?_⟩⟩;show Root.out (w.ow a)=w.ow a
  cases e:w.ow a with
  |none=>rfl|some q=>cases q with
   |slot i=>rw[e]at hn;exact hn.elim|_=>rfl
 tab:=W.tab.keep (zbT w) fun P ps h1 h2=>⟨h1,by show Root.out (w.ow P)=_;rw[h2];rfl⟩
def zcW(W:World' cl B w S)(h:B.Fr a=some o):w.base.Fr a=some o:=by
 refine zhV (W.fr a o h).1 ?_
 cases e:w.ow a with
 |none=>rfl|some q=>
  rcases W.own a q e with rfl|z
  ·rfl
  ·rw[h]at z;cases z
def zct(W':World' cl w.base w' S'):Fut w' (w.back w')where
 keep:=fun a o h k=>by
  refine⟨h,?_⟩;show(if(w.base.Fr a).isSome=true then w.ow a else Root.out (w'.ow a))=none;split
  ·rename_i z;obtain⟨u,hu⟩:=Option.isSome_iff_exists.mp z;have:=(W'.fr a u hu).2;rw[k]at this;exact Root.out_none.mp this.symm
  ·rw[k];rfl
 mu:=fun _ _ h=>h
def Rel.leave(R:Rel cl B σ w ρ S)(W':World' cl w.base w' S')(F:Fut w.inn w'):Rel cl B σ (w.back w') ρ S'/\Fut w (w.back w'):=by
 have fb:=zct W';have ff:Fut w (w.back w'):=(zbT w).trans (F.trans fb)
 have in_:∀a o,w.base.Fr a=some o->(w.back w').H a=some o/\(w.back w').ow a=w.ow a:=fun a o h=>by
  refine⟨(W'.fr a o h).1,?_⟩;show(if(w.base.Fr a).isSome=true then w.ow a else _)=_;rw[h];rfl
 refine⟨⟨⟨fun a o h=>?_,fun a r h=>?_,W'.len,fun n ob h=>?_,fun P q h=>?_⟩,R.len,fun i o d h=>?_⟩,ff⟩
 ·have:=in_ a o (zcW R.wd h);exact⟨this.1,this.2.trans (R.wd.fr a o h).2⟩
 ·cases hb:B.Fr a with
  |none=>exact .inr rfl|some o=>
   have:=(in_ a o (zcW R.wd hb)).2;rw[h]at this
   rcases R.wd.own a r this.symm with z|z
   ·exact .inl z
   ·rw[hb]at z;cases z
 ·obtain⟨a,e,x⟩:=W'.obj n ob h;refine⟨a,e,x.keep fb fun a o ha hn=>⟨ha,?_⟩⟩;show(if(w.base.Fr a).isSome=true then w.ow a else Root.out (w'.ow a))=_
  cases e:w'.ow a with
  |none=>rw[e]at hn;exact hn.elim|some q=>
   rcases W'.own a q e with rfl|z
   ·rw[e]at hn;exact hn.elim
   ·rw[z]
    cases q with
    |slot i=>rw[e]at hn;exact hn.elim|_=>rfl
 ·obtain⟨ps,h1,h2,h3⟩:=W'.tab P q h;obtain⟨_,_,g2,_⟩:=R.wd.tab P q h;refine⟨ps,h1,?_,h3.up fb⟩
  have hb:w.base.Fr P=none:=by show(if zd6 (w.ow P)=true then none else w.H P)=none;rw[g2];rfl
  show(if(w.base.Fr P).isSome=true then w.ow P else Root.out (w'.ow P))=_;rw[hb,h2];rfl
 ·obtain⟨v,e,x⟩:=R.slots i o d h;refine⟨v,e,x.keep ff fun a u ha hr=>?_⟩;have:=in_ a u (zhV ha (by rw[hr];rfl));exact⟨this.1,this.2.trans hr⟩
noncomputable def Wd.del(w:Wd)(a:Addr):Wd:=⟨fun b=>if b=a then none else w.H b,w.ow,w.mu⟩
def zgz(k:w.ow a≠none):Fut w (w.del a)where
 keep:=fun b o h e=>⟨by
  show(if b=a then none else w.H b)=_
  rw[if_neg (fun z=>k (by rw[<-z];exact e))];exact h,e⟩
 mu:=fun _ _ h=>h
def zkt(h:w.H a=some o):upd (w.del a).H a o=w.H:=by
 funext b
 by_cases e:b=a
 ·rw[e,zaq,h]
 ·rw[zaf e];show(if b=a then none else w.H b)=_;rw[if_neg e]
theorem Rel.del(R:Rel cl B σ w ρ S)(k:w.ow a=some .far)(hb:B.Fr a=none):Rel cl B σ (w.del a) ρ S:=by
 have fd:Fut w (w.del a):=zgz (by rw[k];exact yaF _)
 have kp:∀b o,w.H b=some o->b≠a->(w.del a).H b=some o:=fun b o h n=>by
  show(if b=a then none else w.H b)=_;rw[if_neg n];exact h
 refine⟨⟨fun b o h=>⟨kp b o (R.wd.fr b o h).1 (fun z=>by rw[z,hb]at h;cases h),(R.wd.fr b o h).2⟩,R.wd.own,R.wd.len,fun n ob h=>?_,R.wd.tab.keep fd fun P ps h1 h2=>⟨kp P _ h1 (fun z=>by rw[z,k]at h2;cases h2),h2⟩⟩,R.len,fun i o d h=>?_⟩
 ·obtain⟨c,e,x⟩:=R.wd.obj n ob h;exact⟨c,e,x.keep fd fun b o hb' hn=>⟨kp b o hb' (fun z=>by rw[z,k]at hn;exact hn.elim),rfl⟩⟩
 ·obtain⟨v,e,x⟩:=R.slots i o d h;exact⟨v,e,x.keep fd fun b o hb' hr=>⟨kp b o hb' (fun z=>by rw[z,k]at hr;cases hr),hr⟩⟩
end
noncomputable def zxt(cl:Cf)(w:Wd):Bool->V->D->Prop
 |false,v,d=>Shd cl w v d|true,v,d=>∃a o i,v=.ref a/\w.ow a=some (.slot i)/\w.H a=some o/\Top cl w o d
noncomputable def zgP(cl:Cf)(n:Nat)(own:Bool)(G:List D->Sto->Out D):Sp:=fun vs H Q E=>vs.length=n/\∃B w ds S,w.H=H/\World' cl B w S/\Shds cl w vs ds/\match G ds S with
 |.ok d S'=>∀v w',World' cl B w' S'->Fut w w'->zxt cl w' own v d->Q v w'.H|.exc c S'=>∀w',World' cl B w' S'->Fut w w'->E (.ref (cl c)) none w'.H|.bad=>False
noncomputable def zdm(CX:CXT)(X:Cx)(E:St->XK):Prop:=∀(pins:Z3) (σ:St) (H:Hp) (s:Shared) (e:Value) (s':Shared),Inv X pins σ H s->CX X.stack H s (E σ) e s'->X.xe e s'
noncomputable def zgX(sp:Sp)(dvs:List V)(E:St->XK)(t:TA):TE:=fun σ H Q=>t σ H fun vs H1=>sp (vs++dvs) H1 Q (E σ)
section
variable{X:Cx}{CX:CXT}{k:Nat}{f C:Addr}{fd:FuncData}{ps:List Str}{sp:Sp}{dvs:List V}{ds:List Value}{E:St->XK}{x m:Str}{p pos apos:Pos}{e o:Expr}{es:List Expr}{ta:TE}{t:TA}
def zgj(F:FnOk X.prog X.w X.K X.mg X.base CX k f fd ps sp)(hr:Room k X.A)(hb:zcZ X.K fd ps ds)(hd:Vals dvs ds)(hx:zdm CX X E)
  (I:Inv X pins σ H s) (r:Vals vs us) (h:sp (vs++dvs) H Q (E σ)):wpAny (model X.prog X.w) X.A (call (.ref f) us) (EP X pins σ Q) X.xe s:=by
 have r2:Vals (vs++dvs) (us++ds):=r.append hd
 have hl:(us++ds).length=ps.length:=by rw[<-r2.length];exact F.len _ _ _ _ h
 refine ycY (ybu (F.run X.A X.stack s H ⟨us,[]⟩ (us++ds) (vs++dvs) Q (E σ) hr I.env0 (hb s us I.kIn hl) r2 h) fun r s' hq=>?_)
 cases r with
 |error e=>exact hx pins σ H s e s' I hq|ok fl=>
  cases fl with
  |ret u=>exact I.after hq|next=>exact False.elim hq|brk=>exact False.elim hq|cont=>exact False.elim hq
def znx(F:FnOk X.prog X.w X.K X.mg X.base CX k f fd ps sp)(hr:Room k X.A)(hg:Gl X x)(hm:X.mg x=some (.ref f))(hk:PySem.W.keepIn X.K (.ref f)=true)(hb:zcZ X.K fd ps ds)(hd:Vals dvs ds)(hx:zdm CX X E)
  (ha:PA X (e::es) t) (hdb:(x==("__debug__":Str))=false) (he:starEach (e::es) X.env=(false,eval e X.env)::starEach es X.env) (hpl:(backTo pos (starEach es X.env)).any (·.1)=false):
  PE X (.Call (.Name x p) (e::es) [] pos) (zgX sp dvs E t):=by
 intro pins s σ H Q I h;refine ya2 (zda I hg hm ?_ hdb);refine ybC (h₀:=X.base) I.ok.mod.kin hk (thn (ha pos pins s σ H _ I h) fun us s1 ⟨vs,H1,I1,r,q⟩=>⟨I1.kIn,?_⟩) he hpl;exact zgj F hr hb hd hx I1 r q
def zln(F:FnOk X.prog X.w X.K X.mg X.base CX k f fd ps sp)(hr:Room k X.A)(hg:Gl X x)(hm:X.mg x=some (.ref f))(hk:PySem.W.keepIn X.K (.ref f)=true)(hb:zcZ X.K fd ps ds)(hd:Vals dvs ds)(hx:zdm CX X E)
  (hdb:(x==("__debug__":Str))=false):PE X (.Call (.Name x p) [] [] pos) (zgX sp dvs E zuj):=by
 intro pins s σ H Q I h;refine ya2 (zda I hg hm ?_ hdb);exact PySem.W.callWith_K0 I.kIn hk (zgj (us:=[]) F hr hb hd hx I .nil h)
end
def eFn(G:List D->Sto->Out D)(fs:List Fe):Fe:=fun ρ S=>(zas fs ρ S).bind fun ds S1=>G ds S1
section
variable{cl:Cf}{E:St->XK}{fs:List Fe}{G:List D->Sto->Out D}{σ:St}{H:Hp}{Q:VK}{n:Nat}
def ztY(q:tE cl E (eFn G fs) σ H Q)(hn:fs.length=n):zgX (zgP cl n false G) [] E (tAs cl E fs) σ H Q:=by
 obtain⟨B,w,ρ,S,rfl,R,q⟩:=q;refine⟨B,w,ρ,S,rfl,R,?_⟩;unfold eFn at q
 cases hf:zas fs ρ S with
 |bad=>rwa[hf]at q|exc c S1=>rwa[hf]at q|ok ds S1=>
  rw[hf]at q;intro vs w1 R1 F1 h1;dsimp only[Out.bind]at q
  have hl:∀(fs:List Fe) (S S1:Sto) (ds:List D),zas fs ρ S=.ok ds S1->ds.length=fs.length:=by
   intro fs
   induction fs with
   |nil=>intro S S1 ds h;cases h;rfl|cons f fs ih=>
    intro S S1 ds h;unfold zas at h
    cases h1:f ρ S with
    |bad=>rw[h1]at h;cases h|exc c S2=>rw[h1]at h;cases h|ok d S2=>
     rw[h1]at h;dsimp only[Out.bind]at h
     cases h2:zas fs ρ S2 with
     |bad=>rw[h2]at h;cases h|exc c S3=>rw[h2]at h;cases h|ok es S3=>rw[h2]at h;cases h;rw[yae,yae,ih S2 _ es h2]
  refine⟨by rw[yaP,h1.length,hl fs S S1 ds hf];exact hn,w1.base,w1.inn,ds,S1,rfl,R1.wd.enter,by rw[yaP];exact h1.up (zbT w1),?_⟩
  cases hg:G ds S1 with
  |bad=>rwa[hg]at q|exc c S2=>
   rw[hg]at q;intro w2 W2 F2;obtain⟨R3,F3⟩:=R1.leave W2 F2;exact q (w1.back w2) R3 (F1.trans F3)
  |ok d S2=>
   rw[hg]at q;intro v w2 W2 F2 r2;obtain⟨R3,F3⟩:=R1.leave W2 F2;exact q v (w1.back w2) R3 (F1.trans F3) (Shd.up (zct W2) r2)
def ztX(q:tN cl E (eFn G fs) σ H Q)(hn:fs.length=n):zgX (zgP cl n true G) [] E (tAs cl E fs) σ H Q:=by
 obtain⟨B,w,ρ,S,rfl,R,q⟩:=q;refine⟨B,w,ρ,S,rfl,R,?_⟩;unfold eFn at q
 cases hf:zas fs ρ S with
 |bad=>rwa[hf]at q|exc c S1=>rwa[hf]at q|ok ds S1=>
  rw[hf]at q;intro vs w1 R1 F1 h1;dsimp only[Out.bind]at q
  have hl:∀(fs:List Fe) (S S1:Sto) (ds:List D),zas fs ρ S=.ok ds S1->ds.length=fs.length:=by
   intro fs
   induction fs with
   |nil=>intro S S1 ds h;cases h;rfl|cons f fs ih=>
    intro S S1 ds h;unfold zas at h
    cases h1:f ρ S with
    |bad=>rw[h1]at h;cases h|exc c S2=>rw[h1]at h;cases h|ok d S2=>
     rw[h1]at h;dsimp only[Out.bind]at h
     cases h2:zas fs ρ S2 with
     |bad=>rw[h2]at h;cases h|exc c S3=>rw[h2]at h;cases h|ok es S3=>rw[h2]at h;cases h;rw[yae,yae,ih S2 _ es h2]
  refine⟨by rw[yaP,h1.length,hl fs S S1 ds hf];exact hn,w1.base,w1.inn,ds,S1,rfl,R1.wd.enter,by rw[yaP];exact h1.up (zbT w1),?_⟩
  cases hg:G ds S1 with
  |bad=>rwa[hg]at q|exc c S2=>
   rw[hg]at q;intro w2 W2 F2;obtain⟨R3,F3⟩:=R1.leave W2 F2;exact q (w1.back w2) R3 (F1.trans F3)
  |ok d S2=>
   rw[hg]at q;intro v w2 W2 F2 r2;obtain⟨R3,F3⟩:=R1.leave W2 F2;obtain⟨a,o,i,rfl,k1,k2,t⟩:=r2;have hfr:w1.base.Fr a=none:=(W2.own a _ k1).elim (fun z=>by cases z) fun z=>z
   have k3:(w1.back w2).ow a=some .far:=by
    show(if(w1.base.Fr a).isSome=true then w1.ow a else Root.out (w2.ow a))=_;rw[hfr,k1];rfl
   have hb:B.Fr a=none:=by
    cases z:B.Fr a with
    |none=>rfl|some u=>rw[zcW R1.wd z]at hfr;cases hfr
   have hd:=zgz (w:=w1.back w2) (a:=a) (by rw[k3];exact yaF _);have:=q a o ((w1.back w2).del a) (R3.del k3 hb) (F1.trans (F3.trans hd)) (if_pos rfl) ((t.up (zct W2)).up hd);rwa[zkt (w:=w1.back w2) k2]at this
end
noncomputable def frz1(ρ:Env)(i:Nat):Env:=match ρ[i]? with|some (some (true,d))=>ρ.set i (some (false,d))|_=>ρ
def frz(is:List Nat)(ρ:Env):Env:=is.foldl frz1 ρ
def sFz(is:List Nat)(f:Fs):Fs:=fun ρ S=>f (frz is ρ) S
noncomputable def sNx:Fs:=fun ρ S=>.nx ρ S
noncomputable def zak(f g:Fs):Fs:=fun ρ S=>match f ρ S with|.nx ρ' S'=>g ρ' S'|o=>o
noncomputable def zcc(i:Nat)(own:Bool)(f:Fe):Fs:=fun ρ S=>match f ρ S with|.ok d S'=>.nx (ρ.set i (some (own,d))) S'|.exc c S'=>.ex c ρ S'|.bad=>.bad
noncomputable def zkm(f:Fe):Fs:=fun ρ S=>match f ρ S with|.ok _ S'=>.nx ρ S'|.exc c S'=>.ex c ρ S'|.bad=>.bad
noncomputable def za6(f:Fe):Fs:=fun ρ S=>match f ρ S with|.ok d S'=>.rt d S'|.exc c S'=>.ex c ρ S'|.bad=>.bad
noncomputable def zjM(i:Nat):Fs:=fun ρ S=>match ρ[i]? with|some (some (true,d))=>.rt d S|_=>.bad
def sIf(c:Fe)(f g:Fs):Fs:=fun ρ S=>match c ρ S with|.ok d S'=>(match isB d with|some true=>f ρ S'|some false=>g ρ S'|none=>.bad)|.exc x S'=>.ex x ρ S'|.bad=>.bad
noncomputable def zh0(cl:Cf)(E:St->XK)(own:Bool)(B:Base)(w:Wd)(De:Ends):Fo->Prop
 |.nx ρ' S'=>∀σ' w',Rel cl B σ' w' ρ' S'->Fut w w'->De.nx σ' w'.H|.bk ρ' S'=>∀σ' w',Rel cl B σ' w' ρ' S'->Fut w w'->De.bk σ' w'.H|.ct ρ' S'=>∀σ' w',Rel cl B σ' w' ρ' S'->Fut w w'->De.ct σ' w'.H|.rt d S'=>∀v w',World' cl B w' S'->Fut w w'->zxt cl w' own v d->De.rt v w'.H|.ex c ρ' S'=>∀σ' w',Rel cl B σ' w' ρ' S'->Fut w w'->E σ' (.ref (cl c)) none w'.H|.bad=>False
theorem zh0.up(f:Fut w w1):∀{o:Fo},zh0 cl E own B w De o->zh0 cl E own B w1 De o
 |.nx _ _,h=>fun σ' w' R F=>h σ' w' R (f.trans F)|.bk _ _,h=>fun σ' w' R F=>h σ' w' R (f.trans F)|.ct _ _,h=>fun σ' w' R F=>h σ' w' R (f.trans F)|.rt _ _,h=>fun v w' R F=>h v w' R (f.trans F)|.ex _ _ _,h=>fun σ' w' R F=>h σ' w' R (f.trans F)|.bad,h=>h
noncomputable def tS(cl:Cf)(E:St->XK)(own:Bool)(f:Fs):TS:=fun De σ H=>∃B w ρ S,w.H=H/\Rel cl B σ w ρ S/\zh0 cl E own B w De (f ρ S)
def PS.imp{X:Cx}{st:Stmt}{t t':TS}(h:PS X st t)(i:∀De σ H,t' De σ H->t De σ H):PS X st t':=fun pins s σ H De I q=>h pins s σ H De I (i _ _ _ q)
def PSs.imp{X:Cx}{st:List Stmt}{t t':TS}(h:PSs X st t)(i:∀De σ H,t' De σ H->t De σ H):PSs X st t':=fun pins s σ H De I q=>h pins s σ H De I (i _ _ _ q)
section
variable{cl:Cf}{B:Base}{σ:St}{w:Wd}{ρ:Env}{S:Sto}
def Rel.put(R:Rel cl B σ w ρ S)(h:Shd cl w v d):Rel cl B (σ.set i (some v)) w (ρ.set i (some (false,d))) S where
 wd:=R.wd
 len:=by rw[yaN,yaN];exact R.len
 slots:=fun j o e hj=>by
  by_cases hij:i=j
  ·subst hij
   have hlt:i<ρ.length:=by
    have:=(yan.mp hj).1;rwa[yaN]at this
   rw[yaC hlt]at hj;cases hj;exact⟨v,by rw[yaC (by rw[R.len];exact hlt)],h⟩
  ·rw[yaQ hij]at hj ⊢;exact R.slots j o e hj
def Wd.addAs(w:Wd)(p:Addr)(o:HO)(r:Root):Wd:=⟨upd w.H p o,fun a=>if a=p then some r else if w.ow a=some r then some .far else w.ow a,w.mu⟩
def zbP(h:w.H p=none):Fut w (w.addAs p o r)where
 keep:=fun a u ha hk=>by
  have n:a≠p:=zav ha h;refine⟨?_,?_⟩
  ·show upd w.H p o a=_;rw[zaf n];exact ha
  ·show(if a=p then some r else if w.ow a=some r then some Root.far else w.ow a)=none;rw[if_neg n,if_neg (by rw[hk];exact fun z=>by cases z)];exact hk
 mu:=fun _ _ h=>h
theorem Rel.own(R:Rel cl B σ w ρ S)(hp:w.H p=none)(t:Top cl w o d):Rel cl B (σ.set i (some (.ref p))) (w.addAs p o (.slot i)) (ρ.set i (some (true,d))) S:=by
 have ff:=zbP (w:=w) (p:=p) (o:=o) (r:=.slot i) hp
 have kp:∀a u,w.H a=some u->w.ow a≠some (.slot i)->(w.addAs p o (.slot i)).H a=some u/\(w.addAs p o (.slot i)).ow a=w.ow a:=fun a u ha hk=>by
  have n:a≠p:=zav ha hp;refine⟨?_,?_⟩
  ·show upd w.H p o a=_;rw[zaf n];exact ha
  ·show(if a=p then _ else if w.ow a=some (Root.slot i)then some Root.far else w.ow a)=_;rw[if_neg n,if_neg hk]
 have hBp:B.Fr p=none:=by
  cases z:B.Fr p with
  |none=>rfl|some u=>have:=(R.wd.fr p u z).1;rw[hp]at this;cases this
 refine⟨⟨fun a u h=>?_,fun a r h=>?_,R.wd.len,fun n ob h=>?_,R.wd.tab.keep ff fun P ps h1 h2=>⟨(kp P _ h1 (by rw[h2];simp)).1,(kp P _ h1 (by rw[h2];simp)).2.trans h2⟩⟩,by rw[yaN,yaN];exact R.len,fun j b e hj=>?_⟩
 ·have hne:w.ow a≠some (.slot i):=fun z=>by
   rcases R.wd.own a _ z with y|y
   ·cases y
   ·rw[h]at y;cases y
  have:=kp a u (R.wd.fr a u h).1 hne;exact⟨this.1,this.2.trans (R.wd.fr a u h).2⟩
 ·have h':(if a=p then some (Root.slot i)else if w.ow a=some (Root.slot i)then some Root.far else w.ow a)=some r:=h;split at h'
  ·rename_i e;rw[e];exact .inr hBp
  ·split at h'
   ·cases h';exact .inl rfl
   ·exact R.wd.own a r h'
 ·obtain⟨a,e,x⟩:=R.wd.obj n ob h;exact⟨a,e,x.keep ff fun b u hb hn=>kp b u hb fun z=>by rwa[z]at hn⟩
 ·by_cases hij:i=j
  ·subst hij
   have hlt:i<ρ.length:=by
    have:=(yan.mp hj).1;rwa[yaN]at this
   rw[yaC hlt]at hj;cases hj;exact⟨.ref p,by rw[yaC (by rw[R.len];exact hlt)],p,o,rfl,if_pos rfl,zaq,t.up ff⟩
  ·rw[yaQ hij]at hj ⊢;obtain⟨v,e1,x⟩:=R.slots j b e hj;refine⟨v,e1,x.keep ff fun a u ha hr=>?_⟩;have:=kp a u ha (by rw[hr];exact fun z=>hij (by cases z;rfl));exact⟨this.1,this.2.trans hr⟩
def Wd.mut(w:Wd)(p:Addr)(o:HO):Wd:=⟨upd w.H p o,w.ow,w.mu⟩
def zen(h:w.ow p≠none):Fut w (w.mut p o)where
 keep:=fun a u ha hk=>⟨by
  show upd w.H p o a=_
  rw[zaf (fun z=>h (by rw[<-z];exact hk))];exact ha,hk⟩
 mu:=fun _ _ h=>h
theorem Rel.mut{i:Nat}{p:Addr}{o:HO}{d d0:D}(R:Rel cl B σ w ρ S)(hs:σ[i]?=some (some (.ref p)))(hk:w.ow p=some (.slot i))(t:Top cl w o d):Rel cl B σ (w.mut p o) (ρ.set i (some (true,d))) S:=by
 have ff:=zen (w:=w) (p:=p) (o:=o) (by rw[hk];exact yaF _)
 have kp:∀a u,w.H a=some u->w.ow a≠some (.slot i)->(w.mut p o).H a=some u/\(w.mut p o).ow a=w.ow a:=fun a u ha hn=>⟨by
  show upd w.H p o a=_
  rw[zaf (fun z=>hn (by rw[z];exact hk))];exact ha,rfl⟩
 have hBp:B.Fr p=none:=(R.wd.own p _ hk).elim (fun z=>by cases z) fun z=>z
 refine⟨⟨fun a u h=>?_,R.wd.own,R.wd.len,fun n ob h=>?_,R.wd.tab.keep ff fun P ps h1 h2=>⟨(kp P _ h1 (by rw[h2];simp)).1,(kp P _ h1 (by rw[h2];simp)).2.trans h2⟩⟩,by rw[yaN];exact R.len,fun j b e hj=>?_⟩
 ·have hne:w.ow a≠some (.slot i):=fun z=>by
   rcases R.wd.own a _ z with y|y
   ·cases y
   ·rw[h]at y;cases y
  have:=kp a u (R.wd.fr a u h).1 hne;exact⟨this.1,(R.wd.fr a u h).2⟩
 ·obtain⟨a,e,x⟩:=R.wd.obj n ob h;exact⟨a,e,x.keep ff fun b u hb hn=>kp b u hb fun z=>by rwa[z]at hn⟩
 ·by_cases hij:i=j
  ·subst hij
   have hlt:i<ρ.length:=by
    have:=(yan.mp hj).1;rwa[yaN]at this
   rw[yaC hlt]at hj;cases hj;exact⟨.ref p,hs,p,o,rfl,hk,zaq,t.up ff⟩
  ·rw[yaQ hij]at hj;obtain⟨v,e1,x⟩:=R.slots j b e hj;refine⟨v,e1,x.keep ff fun a u ha hr=>?_⟩;have:=kp a u ha (by rw[hr];exact fun z=>hij (by cases z;rfl));exact⟨this.1,this.2.trans hr⟩
noncomputable def Wd.free(w:Wd)(r:Root):Wd:=⟨w.H,fun a=>if w.ow a=some r then none else w.ow a,w.mu⟩
theorem Rel.frz1{X:Cx}{pins:Z3}{s:Shared}(R:Rel cl B σ w ρ S)(i:Nat)(I:Inv X pins σ w.H s):∃w',Inv X pins σ w'.H s/\Fut w w'/\Rel cl B σ w' (frz1 ρ i) S:=by
 unfold S2.frz1;split
 ·rename_i d hd;obtain⟨v,e1,a,o,rfl,h1,h2,t⟩:=R.slots i true d hd;obtain⟨o',I',hsh⟩:=t.fz I h2;generalize hw:((w.mut a o').free (.slot i):Wd)=w'
  have eH:w'.H=upd w.H a o':=by rw[<-hw];rfl
  have eO:∀b,w'.ow b=if w.ow b=some (.slot i)then none else w.ow b:=fun b=>by rw[<-hw];rfl
  have eM:w'.mu=w.mu:=by rw[<-hw];rfl
  have kp:∀b u,w.H b=some u->w.ow b≠some (.slot i)->w'.H b=some u/\w'.ow b=w.ow b:=fun b u hb hn=>⟨by
   rw[eH,zaf (fun z=>hn (by rw[z];exact h1))];exact hb,by rw[eO,if_neg hn]⟩
  have ff:Fut w w':=⟨fun b u hb hk=>⟨(kp b u hb (by rw[hk];simp)).1,(kp b u hb (by rw[hk];simp)).2.trans hk⟩,fun n b h=>by rw[eM];exact h⟩;refine⟨w',by rw[eH];exact I',ff,⟨fun b u h=>?_,fun b r h=>?_,by rw[eM];exact R.wd.len,fun n ob h=>?_,R.wd.tab.keep ff fun P ps h1 h2=>⟨(kp P _ h1 (by rw[h2];simp)).1,(kp P _ h1 (by rw[h2];simp)).2.trans h2⟩⟩,by rw[yaN];exact R.len,fun j b e hj=>?_⟩
  ·have hne:w.ow b≠some (.slot i):=fun z=>by
    rcases R.wd.own b _ z with y|y
    ·cases y
    ·rw[h]at y;cases y
   have:=kp b u (R.wd.fr b u h).1 hne;exact⟨this.1,this.2.trans (R.wd.fr b u h).2⟩
  ·rw[eO]at h;split at h
   ·cases h
   ·exact R.wd.own b r h
  ·obtain⟨b,e,x⟩:=R.wd.obj n ob h;exact⟨b,by rw[eM];exact e,x.keep ff fun b u hb hn=>kp b u hb fun z=>by rwa[z]at hn⟩
  ·by_cases hij:i=j
   ·subst hij;have hlt:i<ρ.length:=(yan.mp hd).1;rw[yaC hlt]at hj;cases hj;exact⟨.ref a,e1,hsh w' ff (by rw[eH,zaq]) (by rw[eO,if_pos h1])⟩
   ·rw[yaQ hij]at hj;obtain⟨v,e1,x⟩:=R.slots j b e hj;refine⟨v,e1,x.keep ff fun a u ha hr=>?_⟩;have:=kp a u ha (by rw[hr];exact fun z=>hij (by cases z;rfl));exact⟨this.1,this.2.trans hr⟩
 ·exact⟨w,I,Fut.refl _,R⟩
theorem Rel.frz{X:Cx}{pins:Z3}{s:Shared}:∀(is:List Nat) {w:Wd}{ρ:Env},Rel cl B σ w ρ S->Inv X pins σ w.H s->∃w',Inv X pins σ w'.H s/\Fut w w'/\Rel cl B σ w' (frz is ρ) S
 |[],w,ρ,R,I=>⟨w,I,Fut.refl _,R⟩|i::is,w,ρ,R,I=>by
  obtain⟨w1,I1,f1,R1⟩:=R.frz1 i I;obtain⟨w2,I2,f2,R2⟩:=Rel.frz is R1 I1;exact⟨w2,I2,f1.trans f2,R2⟩
end
section
variable{X:Cx}{cl:Cf}{E:St->XK}{own:Bool}{st:Stmt}{zbR:List Stmt}{f g:Fs}{e:Expr}{fe:Fe}{pos pos':Pos}
def zuZ(is:List Nat)(h:PS X st (tS cl E own f)):PS X st (tS cl E own (sFz is f)):=by
 intro pins s σ H De I q;obtain⟨B,w,ρ,S,rfl,R,q⟩:=q;obtain⟨w',I',f',R'⟩:=R.frz is I;exact h pins s σ w'.H De I' ⟨B,w',frz is ρ,S,rfl,R',zh0.up f' q⟩
def ziX:PSs X [] (tS cl E own sNx):=by
 refine PSs.imp zqa ?_;rintro De σ H ⟨B,w,ρ,S,rfl,R,q⟩;exact q σ w R (Fut.refl _)
def zec(h1:PS X st (tS cl E own f))(h2:PSs X zbR (tS cl E own g)):PSs X (st::zbR) (tS cl E own (zak f g)):=by
 refine PSs.imp (znh h1 h2) ?_;rintro De σ H ⟨B,w,ρ,S,rfl,R,q⟩;refine⟨B,w,ρ,S,rfl,R,?_⟩;unfold zak at q
 cases hf:f ρ S with
 |nx ρ' S'=>
  rw[hf]at q;intro σ' w' R' F';exact⟨B,w',ρ',S',rfl,R',zh0.up F' q⟩
 |bk ρ' S'=>rwa[hf]at q|ct ρ' S'=>rwa[hf]at q|rt d S'=>rwa[hf]at q|ex c ρ' S'=>rwa[hf]at q|bad=>rwa[hf]at q
def zv7(q:tS cl E own (zcc i false fe) De σ H):zrm (tE cl E fe) (zl7 i) De σ H:=by
 obtain⟨B,w,ρ,S,rfl,R,q⟩:=q;refine⟨B,w,ρ,S,rfl,R,?_⟩;unfold zcc at q
 cases hf:fe ρ S with
 |bad=>rwa[hf]at q|exc c S1=>rw[hf]at q;exact fun w' R' F'=>q σ w' R' F'|ok d S1=>
  rw[hf]at q;intro v w' R' F' h';exact q _ w' (R'.put h') F'
def zt5(q:tS cl E own (zcc i true fe) De σ H):zrm (tN cl E fe) (zl7 i) De σ H:=by
 obtain⟨B,w,ρ,S,rfl,R,q⟩:=q;refine⟨B,w,ρ,S,rfl,R,?_⟩;unfold zcc at q
 cases hf:fe ρ S with
 |bad=>rwa[hf]at q|exc c S1=>rw[hf]at q;exact fun w' R' F'=>q σ w' R' F'|ok d S1=>
  rw[hf]at q;intro p o w' R' F' hp t;exact q _ (w'.addAs p o (.slot i)) (R'.own hp t) (F'.trans (zbP hp))
def zov(hN:X.N.Nodup)(hi:X.N[i]?=some x)(hx:Loc X.env.scope x)(he:PE X e (tE cl E fe))(hs:swapsWith e (some (.Name x pos')) pos.line X.env=pure false)(hf:X.fn x=true\/X.env.scope.names.lookup x=some .local):PS X (.Assign [.Name x pos'] e pos) (tS cl E own (zcc i false fe)):=
 PS.imp (zoG hN hi hx he hs hf) fun _ _ _ q=>zv7 q
def zh2(hN:X.N.Nodup)(hi:X.N[i]?=some x)(hx:Loc X.env.scope x)(he:PE X e (tN cl E fe))(hs:swapsWith e (some (.Name x pos')) pos.line X.env=pure false)(hf:X.fn x=true\/X.env.scope.names.lookup x=some .local):PS X (.Assign [.Name x pos'] e pos) (tS cl E own (zcc i true fe)):=
 PS.imp (zoG hN hi hx he hs hf) fun _ _ _ q=>zt5 q
def zrS(he:PE X e (tE cl E fe))(hs:swapsWith e none pos.line X.env=pure false):PS X (.Expr e pos) (tS cl E own (zkm fe)):=by
 refine PS.imp (ze2 he hs) ?_;rintro De σ H ⟨B,w,ρ,S,rfl,R,q⟩;refine⟨B,w,ρ,S,rfl,R,?_⟩;unfold zkm at q
 cases hf:fe ρ S with
 |bad=>rwa[hf]at q|exc c S1=>rw[hf]at q;exact fun w' R' F'=>q σ w' R' F'|ok d S1=>rw[hf]at q;exact fun v w' R' F' _=>q σ w' R' F'
def zkM(he:PE X e (tE cl E fe)):PS X (.Return (some e) pos) (tS cl E false (za6 fe)):=by
 refine PS.imp (zhh he) ?_;rintro De σ H ⟨B,w,ρ,S,rfl,R,q⟩;refine⟨B,w,ρ,S,rfl,R,?_⟩;unfold za6 at q
 cases hf:fe ρ S with
 |bad=>rwa[hf]at q|exc c S1=>rw[hf]at q;exact fun w' R' F'=>q σ w' R' F'|ok d S1=>rw[hf]at q;exact fun v w' R' F' h'=>q v w' R'.wd F' h'
def zpz(he:PE X e (tN cl E fe)):PS X (.Return (some e) pos) (tS cl E true (za6 fe)):=by
 refine PS.imp (zhh he) ?_;rintro De σ H ⟨B,w,ρ,S,rfl,R,q⟩;refine⟨B,w,ρ,S,rfl,R,?_⟩;unfold za6 at q
 cases hf:fe ρ S with
 |bad=>rwa[hf]at q|exc c S1=>rw[hf]at q;exact fun w' R' F'=>q σ w' R' F'|ok d S1=>
  rw[hf]at q;intro p o w' R' F' hp t;have ff:=zbP (w:=w') (p:=p) (o:=o) (r:=.slot 0) hp;exact q (.ref p) (w'.addAs p o (.slot 0)) (Rel.own (i:=0) R' hp t).wd (F'.trans ff) ⟨p,o,0,rfl,if_pos rfl,zaq,t.up ff⟩
def zpy(hN:X.N[i]?=some x)(hv:Vis X.env.scope x)(hd:(x==("__debug__":Str))=false)(hcd:(x==("__classdict__":Str))=false):PS X (.Return (some (.Name x pos')) pos) (tS cl E true (zjM i)):=by
 refine PS.imp (zhh (za0 hN hv hd hcd)) ?_;rintro De σ H ⟨B,w,ρ,S,rfl,R,q⟩;unfold zjM at q;split at q
 ·rename_i d hd;obtain⟨v,e1,a,o,rfl,h1,h2,t⟩:=R.slots i true d hd;exact⟨_,e1,q _ w R.wd (Fut.refl _) ⟨a,o,i,rfl,h1,h2,t⟩⟩
 ·exact q.elim
def zrQ(hc:PT X c (tTr cl E fc))(ha:PSs X a (tS cl E own f))(hb:PSs X b (tS cl E own g)):PS X (.If c a b pos) (tS cl E own (sIf fc f g)):=by
 refine PS.imp (zvc hc ha hb) ?_;rintro De σ H ⟨B,w,ρ,S,rfl,R,q⟩;refine⟨B,w,ρ,S,rfl,R,?_⟩;unfold sIf at q
 cases hg:fc ρ S with
 |bad=>rwa[hg]at q|exc c S1=>rw[hg]at q;exact fun w' R' F'=>q σ w' R' F'|ok d S1=>
  rw[hg]at q;dsimp only at q ⊢
  cases hb:isB d with
  |none=>rw[hb]at q;exact q.elim|some b=>
   rw[hb]at q;intro w1 R1 F1
   cases b with
   |true=>exact zoW ⟨B,w1,ρ,S1,rfl,R1,zh0.up F1 q⟩|false=>exact zoX ⟨B,w1,ρ,S1,rfl,R1,zh0.up F1 q⟩
end
def zoA(i:Nat)(fe:Fe):Fs:=fun ρ S=>match ρ[i]? with
 |some (some (true,.lst l))=>(match fe ρ S with
  |.ok d S'=>if zaD l.length then .nx (ρ.set i (some (true,.lst (l++[d])))) S' else .bad
  |.exc c S'=>.ex c ρ S'|.bad=>.bad)
 |_=>.bad
section
variable{X:Cx}{cl:Cf}{E:St->XK}{own:Bool}{e:Expr}{fe:Fe}{pos pos':Pos}
def zdX(h:zaD n=true):n<sizeLine:=Nat.lt_of_le_of_lt (yaj h) (by decide)
def Rel.list(R:Rel cl B σ w ρ S)(h:ρ[i]?=some (some (true,.lst l))):∃a xs,σ[i]?=some (some (.ref a))/\w.ow a=some (.slot i)/\w.H a=some (.lst xs)/\Shds cl w xs l:=by
 obtain⟨v,e1,a,o,rfl,h1,h2,t⟩:=R.slots i true _ h
 cases t with
 |lst t=>exact⟨a,_,e1,h1,h2,t⟩
def zrT(hN:X.N[i]?=some x)(hv:Vis X.env.scope x)(hd:(x==("__debug__":Str))=false)(hcd:(x==("__classdict__":Str))=false)(he:PE X e (tE cl E fe))
  (hpl:zbx e=true) (hln:(ap.endLine==cp.line)=true):PS X (.Expr (.Call (.Attribute (.Name x pos') "append" ap) [e] [] cp) pos) (tS cl E own (zoA i fe)):=by
 refine PS.imp (ze2 (zlo (es:=[]) ybc yb3 yb4 ze5 (za0 hN hv hd hcd) (zba he zcg (zbd hpl)) (hfew:=zfX (by simp[hpl]) (by simp)) (hline:=hln) (hs:=zbd hpl) (hplain:=rfl))) ?_;rintro De σ H ⟨B,w,ρ,S,rfl,R,q⟩;unfold zoA at q;split at q
 ·rename_i l hl;obtain⟨a,xs,e1,h1,h2,t⟩:=R.list hl;refine⟨_,e1,.inl ⟨rfl,_,SqL.of h2⟩,B,w,ρ,S,rfl,R,?_⟩
  cases hf:fe ρ S with
  |bad=>rwa[hf]at q|exc c S1=>rw[hf]at q;exact fun w' R' F'=>q σ w' R' F'|ok d S1=>
   rw[hf]at q;intro v w' R' F' h';dsimp only at q
   cases hz:zaD l.length with
   |false=>rw[hz,if_neg (by decide)]at q;exact q.elim
   |true=>
    rw[hz,if_pos rfl]at q;obtain⟨a',xs',e1',h1',h2',t'⟩:=R'.list hl;rw[e1]at e1';cases e1';refine⟨a,xs',v,rfl,rfl,h2',by rw[t'.length];exact zdX hz,?_⟩;exact q σ (w'.mut a (.lst (xs'++[v]))) (R'.mut (d0:=.non) e1 h1' (.lst (t'.append (.cons h' .nil)))) (F'.trans (zen (by rw[h1'];exact yaF _)))
 ·exact q.elim
end
end S2
namespace L2
open PySem PySem.Spec PyProof.Rows
section
variable{prog:Program}{w:World}{A:Around}{E:Z5}{s:Shared}
def zmT{it t:Addr}{j:Nat}{vs:Array Value}{v:Value}{Q:Z5}(st:s.heap.IsTupleIter it t j)(tp:s.heap.IsTuple t vs)(e:vs[j]?=some v)
  (q:∀h',h'.IsTupleIter it t (j+1)->Heap.SameBut it s.heap h'->Q v {s with heap:=h'}):wpAny (model prog w) A (Builtin.SmallTypes.nextOf (.ref it)) Q E s:=by
 obtain⟨o1,g1,c1,d1⟩:=id st;obtain⟨o2,g2,_,n2,d2⟩:=tp;unfold Builtin.SmallTypes.nextOf;refine yac (ybw (name:=Str.ofString "__next__") st.typeIs ybg (ybW ybg st.typeIs F.entry_tuple_iterator_next ?_ (F.args_tuple_iterator_next_1 _)));show wpAny _ _ (field (.ref it) 0 >>= _) _ _ s;refine yac (yb0 g1 d1 (x:=.ref t) rfl ?_);show wpAny _ _ (if(Value.ref t==Value.none)=true then _ else _) _ _ s;rw[if_neg (show ¬ ((Value.ref t==Value.none)=true)from fun z=>yba z)];show wpAny _ _ (field (.ref it) 1 >>= _) _ _ s;refine yac (yb0 g1 d1 (x:=.int j 0) rfl ?_);show wpAny _ _ (seqItems? (.ref t) >>= _) _ _ s;refine yac (ybo g2 d2 ?_);simp only[ybL,e];refine yac (wpAny_setField g1 d1 (by simp) (yap ⟨v,rfl,yap (q _ ?_ (Heap.SameBut.update ..))⟩));refine⟨_,ycz _ g1 (Obj.isFreed_of_fields (Obj.data_mapFields d1 _)),(Obj.cls_mapFields ..).trans c1,?_⟩;rw[Obj.data_mapFields d1];simp[rawInt]
def zpm{it t:Addr}{j:Nat}{vs:Array Value}{Q:Z5}(hh:A.handled=none)(st:s.heap.IsTupleIter it t j)(tp:s.heap.IsTuple t vs)(e:vs[j]?=none)
  (q:∀h' x,Heap.ExtBut it s.heap h'->(∃o,h'.get? x=some o/\o.cls=.type "StopIteration")->E (.ref x) {s with heap:=h'}):wpAny (model prog w) A (Builtin.SmallTypes.nextOf (.ref it)) Q E s:=by
 obtain⟨o1,g1,c1,d1⟩:=id st;obtain⟨o2,g2,_,n2,d2⟩:=tp;unfold Builtin.SmallTypes.nextOf;refine yac (ybw (name:=Str.ofString "__next__") st.typeIs ybg (ybW ybg st.typeIs F.entry_tuple_iterator_next ?_ (F.args_tuple_iterator_next_1 _)));show wpAny _ _ (field (.ref it) 0 >>= _) _ _ s;refine yac (yb0 g1 d1 (x:=.ref t) rfl ?_);show wpAny _ _ (if(Value.ref t==Value.none)=true then _ else _) _ _ s;rw[if_neg (show ¬ ((Value.ref t==Value.none)=true)from fun z=>yba z)];show wpAny _ _ (field (.ref it) 1 >>= _) _ _ s;refine yac (yb0 g1 d1 (x:=.int j 0) rfl ?_);show wpAny _ _ (seqItems? (.ref t) >>= _) _ _ s;refine yac (ybo g2 d2 ?_);simp only[ybL,e];refine yac (wpAny_rule (yac (wpAny_setField g1 d1 (by simp) ?_)));show wpAny _ _ (newExc (.type "StopIteration") [] >>= _) _ _ _;refine yac ?_;simp only[newExc,newTuple];refine yac (ycp ?_ (by size_fits));refine yac (m:=firstArgMember _ _) (wpAny_of_eq (a:=Value.none) ?_ ?_)
 ·first|rfl|(simp only[firstArgMember];rfl)
 refine ycp ?_ (by size_fits);simp only[raiseNew];refine yac (wpAny_handled ?_)
 first|rw[show A.in1.handled=none from hh]|rw[hh]
 refine yac (yap (wpAny_throw (q _ _ (((Heap.SameBut.update ..).extBut.push _).push _) ⟨_,yar _ rfl,rfl⟩)))
def zmk(hh:A.handled=none)(it t:Addr)(ne:t≠it)(vs:Array Value):Draws prog w A it [it,t] vs.size (fun j v=>vs[j]?=some v) (fun j h=>h.IsTupleIter it t j/\h.IsTuple t vs)where
 live:=fun _ _ st=>by obtain⟨⟨o,ho,_⟩,_⟩:=st;exact⟨o,ho⟩
 frame:=fun _ _ _ st hk=>⟨st.1.at fun o e=>hk it (by simp) o e,by obtain⟨o,ho,r⟩:=st.2;exact⟨o,hk t (by simp) o ho,r⟩⟩
 item:=fun j s Q E hj st hQ=>zmT st.1 st.2 (v:=vs[j]) (by simp[hj]) fun h' st' sb=>hQ _ h' s.toks (by simp[hj]) ⟨st',by obtain⟨o,ho,r⟩:=st.2;exact⟨o,(sb.2 t ne).trans ho,r⟩⟩ sb
 done:=fun s Q E st hE=>zpm hh st.1 st.2 (by simp) hE
end
section
variable{X:Cx}{pins:Z3}{σ:St}{H:Hp}{s:Shared}
def Inv.turnedL{t':Nat}{h':Heap}{ch:List Addr}(I:Inv X pins σ H s)(k:∀b o,b ∉ ch->s.heap.get? b=some o->h'.get? b=some o)(hf:∀b∈ch,zmH X pins H b):Inv X pins σ H {s with heap:=h',toks:=t'}:=by
 have nit:∀b u,H b=some u->b ∉ ch:=fun b u e z=>by rw[(hf b z).1]at e;cases e
 refine I.step (g':=s.gens) (d':=s.drawn) (ch:=ch) (fun b hb=>?_) (fun b o _ _ hc e _=>k b o hc e) (fun b o _ _ hc e _=>⟨o.slots,k b o hc e⟩) (fun _ _ _ _ n=>n) (fun b o hc e=>⟨o,k b o hc e⟩) (fun _ _ e=>e) (fun _ _ _ e=>e) (fun b ps e=>⟨#[],by rw[e];simp⟩) (fun m hm=>?_) (fun b u e=>?_) I.bare
 ·obtain⟨f0,f1,f2,f3,f4,f5⟩:=hf b hb;exact⟨f3,f1,f4,f5⟩
 ·obtain⟨o,es,ep,ho,r⟩:=hm;exact⟨o,es,ep,k _ o (fun z=>(hf _ z).2.1 rfl) ho,r⟩
 ·refine(I.hok b u e).stay (fun c v hc q=>k c v ?_ q) (fun _ q=>q) fun _ _ q=>q
  rcases hc with z|z
  ·rw[z];exact nit b u e
  ·exact nit c _ z
end
end L2
namespace S2
open PySem PySem.Spec PyProof.Rows L2
structure ItOk(cl:Cf)(w:Wd)(J:It)(ds:List D):Prop where
 go:∀w',Fut w w'->∀i,i<ds.length->J.go i w'.H
 stop:∀w',Fut w w'->J.stop ds.length w'.H
 yld:∀w',Fut w w'->∀i d x H',ds[i]?=some d->J.yld i w'.H x H'->∃w'',w''.H=H'/\Grow w' w''/\Shd cl w'' x d
noncomputable abbrev Fi:=Env->Sto->Out (List D)
noncomputable def tI(cl:Cf)(E:St->XK)(f:Fi):TI:=fun σ H R'=>∃B w ρ S,w.H=H/\Rel cl B σ w ρ S/\match f ρ S with
 |.ok ds S'=>∀J w',Rel cl B σ w' ρ S'->Fut w w'->ItOk cl w' J ds->R' J w'.H|.exc c S'=>∀w',Rel cl B σ w' ρ S'->Fut w w'->E σ (.ref (cl c)) none w'.H|.bad=>False
def PI.imp(h:PI X tg it t)(i:∀σ H Q,t' σ H Q->t σ H Q):PI X tg it t':=fun pins s σ H Q I q=>h pins s σ H Q I (i _ _ _ q)
inductive Tg where|one (i:Nat)|tup (is:List Nat)
noncomputable def zeD:List Nat->List D->Env->Option Env
 |[],[],ρ=>some ρ|i::is,d::ds,ρ=>zeD is ds (ρ.set i (some (false,d)))|_,_,_=>none
noncomputable def Tg.put:Tg->Env->D->Option Env
 |.one i,ρ,d=>some (ρ.set i (some (false,d)))|.tup is,ρ,.tup ds=>zeD is ds ρ|.tup _,_,_=>none
noncomputable def tG(cl:Cf)(n:Nat)(tg:Tg):TG:=fun v σ H Q=>∃B w ρ S d ρ',w.H=H/\Rel cl B σ w ρ S/\Shd cl w v d/\tg.put ρ d=some ρ'/\∀σ',σ'.length=σ.length->σ'.drop n=σ.drop n->Rel cl B σ' w ρ' S->Q σ' w.H
def PG.imp(h:PG X tg t)(i:∀v σ H Q,t' v σ H Q->t v σ H Q):PG X tg t':=fun pins s σ H v u Q I r q=>h pins s σ H v u Q I r (i _ _ _ _ q)
def zik(tg:Tg)(body:Fs):List D->Env->Sto->Fo
 |[],ρ,S=>.nx ρ S|d::ds,ρ,S=>match tg.put ρ d with
  |none=>.bad|some ρ1=>match body ρ1 S with
   |.nx ρ' S'=>zik tg body ds ρ' S'|.ct ρ' S'=>zik tg body ds ρ' S'|.bk ρ' S'=>.nx ρ' S'|o=>o
noncomputable def zkl(tg:Tg)(it:Fi)(body:Fs):Fs:=fun ρ S=>match it ρ S with
 |.ok ds S'=>zik tg body ds ρ S'|.exc c S'=>.ex c ρ S'|.bad=>.bad
section
variable{X:Cx}{cl:Cf}{E:St->XK}{own:Bool}{e iter tg:Expr}{body:List Stmt}{fb:Fs}{fi:Fi}{fc:Fe}{t:Tg}{pos:Pos}
theorem zjx{α:Type}{l:List α}{a:α}(h:i<n):(l.set i a).drop n=l.drop n:=by
 refine ycZ fun k=>?_
 rw[ybn,ybn,yaQ (by omega)]
def zr1(hin:i<n)(hN:X.N.Nodup)(hi:X.N[i]?=some x)(hx:Loc X.env.scope x)(hf:X.fn x=true\/X.env.scope.names.lookup x=some .local):PG X (.Name x pos) (tG cl n (.one i)):=by
 refine PG.imp (zll hN hi hx hf) ?_;rintro v σ H Q ⟨B,w,ρ,S,d,ρ',rfl,R,h,hp,q⟩;cases hp;exact q _ (yaN ..) (zjx hin) (R.put h)
noncomputable def tGs(cl:Cf)(n:Nat)(is:List Nat):TGs:=fun vs σ H Q=>∃B w ρ S ds ρ',w.H=H/\Rel cl B σ w ρ S/\Shds cl w vs ds/\zeD is ds ρ=some ρ'/\∀σ',σ'.length=σ.length->σ'.drop n=σ.drop n->Rel cl B σ' w ρ' S->Q σ' w.H
def zpO:PGs X [] (tGs cl n []):=by
 intro pins s σ H vs us Q I r h;obtain⟨B,w,ρ,S,ds,ρ',rfl,R,hs,hp,q⟩:=h
 cases hs with
 |nil=>
  cases hp;exact zqm pins s σ w.H [] us Q I r ⟨rfl,q σ rfl rfl R⟩
 |cons _ _=>cases hp
def zmZ(hin:i<n)(hN:X.N.Nodup)(hi:X.N[i]?=some x)(hx:Loc X.env.scope x)(hf:X.fn x=true\/X.env.scope.names.lookup x=some .local)(h2:PGs X es (tGs cl n is)):PGs X (.Name x pos::es) (tGs cl n (i::is)):=by
 intro pins s σ H vs us Q I r h;obtain⟨B,w,ρ,S,ds,ρ',rfl,R,hs,hp,q⟩:=h;refine znm (zll hN hi hx hf) h2 rfl pins s σ w.H vs us Q I r ?_
 cases hs with
 |nil=>cases hp|cons h t=>
  rename_i v d vs ds;exact⟨v,vs,rfl,B,w,_,S,ds,ρ',rfl,R.put h,t,hp,fun σ' e1 e2=>q σ' (e1.trans (yaN ..)) (e2.trans (zjx hin))⟩
def zr0(hc:X.calm=true)(h:PGs X es (tGs cl n is))(hn:(assignEach es X.env).length=is.length)(hst:(assignEach es X.env).findIdx? (·.1)=none):PG X (.Tuple es k pos) (tG cl n (.tup is)):=by
 refine PG.imp (zsr hc h hn hst) ?_;rintro v σ H Q ⟨B,w,ρ,S,d,ρ',rfl,R,h,hp,q⟩
 cases h with
 |tup e k r=>
  have hl:∀(is:List Nat) (ds:List D) (ρ ρ':Env),zeD is ds ρ=some ρ'->ds.length=is.length:=by
   intro is
   induction is with
   |nil=>intro ds ρ ρ' h;cases ds with
    |nil=>rfl|cons _ _=>cases h
   |cons i is ih=>intro ds ρ ρ' h;cases ds with
    |nil=>cases h|cons d ds=>rw[yae,yae,ih ds _ _ h]
  rename_i a xs ds;refine⟨a,xs,rfl,SqT.of e,by rw[r.length];exact hl is ds ρ ρ' hp,B,w,ρ,S,ds,ρ',rfl,R,r,hp,q⟩
 |_=>cases hp
theorem zrR(hp:PassesOwn (model X.prog X.w) X.A X.env X.xe)(hc:X.calm=true)(hi:PI X tg iter (tI cl E fi))(hg:PG X tg (tG cl n t))(hb:PSs X body (tS cl E own fb))(hs:∀x,foldedSetIterable iter X.env x=pure x):PS X (.For tg iter body [] pos) (tS cl E own (zkl t fi fb)):=by
 refine PS.imp (zsn hp hc hi hg hb hs) ?_;rintro De σ H ⟨B,w,ρ,S,rfl,R,q⟩;refine⟨B,w,ρ,S,rfl,R,?_⟩;unfold zkl at q
 cases hf:fi ρ S with
 |bad=>rwa[hf]at q|exc c S1=>rw[hf]at q;exact fun w' R' F'=>q σ w' R' F'|ok ds S1=>
  rw[hf]at q;intro J w0 R0 F0 hJ;dsimp only at q;refine⟨fun i m σ' H'=>m=ds.length-i/\i<=ds.length/\∃w1 ρ1 S2,w1.H=H'/\Fut w0 w1/\Rel cl B σ' w1 ρ1 S2/\zh0 cl E own B w1 De (zik t fb (ds.drop i) ρ1 S2),⟨ds.length,by simp,yaM _,w0,ρ,S1,rfl,Fut.refl _,R0,by rw[List.drop_zero];exact zh0.up F0 q⟩,?_⟩;rintro i m σ1 H1 ⟨rfl,hi,w1,ρ1,S2,rfl,F1,R1,q1⟩
  by_cases hlt:i<ds.length
  ·obtain⟨d,hd⟩:∃d,ds[i]?=some d:=⟨ds[i],yad hlt⟩
   have hdr:ds.drop i=d::ds.drop (i+1):=by
    rw[List.drop_eq_getElem_cons hlt];rw[yad hlt]at hd;cases hd;rfl
   rw[hdr]at q1;unfold zik at q1
   cases hp1:t.put ρ1 d with
   |none=>rw[hp1]at q1;exact q1.elim|some ρ2=>
    rw[hp1]at q1;dsimp only at q1;refine .inr ⟨hJ.go w1 F1 i hlt,fun σ' H'=>i+1<=ds.length/\∃w1 ρ1 S2,w1.H=H'/\Fut w0 w1/\Rel cl B σ' w1 ρ1 S2/\zh0 cl E own B w1 De (zik t fb (ds.drop (i+1)) ρ1 S2),fun σ' H' h'=>⟨ds.length-(i+1),by omega,rfl,h'.1,h'.2⟩,fun x H' y=>?_⟩;obtain⟨w2,rfl,g2,s2⟩:=hJ.yld w1 F1 i d x H' hd y;refine⟨B,w2,ρ1,S2,d,ρ2,rfl,R1.grow g2,s2,hp1,fun σ2 _ _ R2=>⟨B,w2,ρ2,S2,rfl,R2,?_⟩⟩;have q2:=zh0.up g2.fut q1
    cases hb:fb ρ2 S2 with
    |bad=>rwa[hb]at q2|rt d S3=>rwa[hb]at q2|ex c ρ3 S3=>rwa[hb]at q2|bk ρ3 S3=>rw[hb]at q2;exact fun σ3 w3 R3 F3=>q2 σ3 w3 R3 F3|nx ρ3 S3=>rw[hb]at q2;exact fun σ3 w3 R3 F3=>⟨hlt,w3,ρ3,S3,rfl,F1.trans (g2.fut.trans F3),R3,zh0.up F3 q2⟩|ct ρ3 S3=>rw[hb]at q2;exact fun σ3 w3 R3 F3=>⟨hlt,w3,ρ3,S3,rfl,F1.trans (g2.fut.trans F3),R3,zh0.up F3 q2⟩
  ·have e:i=ds.length:=by omega
   subst e;rw[List.drop_length]at q1;exact .inl ⟨hJ.stop w1 F1,q1 σ1 w1 R1 (Fut.refl _)⟩
def zjw(f:Fe):Fi:=fun ρ S=>(f ρ S).bind fun d S1=>match d with|.lst l=>.ok l S1|_=>.bad
def ziq(f:Fe):Fi:=fun ρ S=>(f ρ S).bind fun d S1=>match d with|.tup l=>.ok l S1|_=>.bad
theorem zkP(he:PE X e (tE cl E fc)):PI X tg e (tI cl E (zjw fc)):=by
 refine PI.imp (zqk he) ?_;rintro σ H Q ⟨B,w,ρ,S,rfl,R,q⟩;refine⟨B,w,ρ,S,rfl,R,?_⟩;unfold zjw at q
 cases hf:fc ρ S with
 |bad=>rwa[hf]at q|exc c S1=>rwa[hf]at q|ok d S1=>
  rw[hf]at q;intro v w' R' F' h';dsimp only[Out.bind]at q
  cases h' with
  |lst e k r=>
   rename_i a xs ds;refine⟨a,rfl,⟨xs,SqL.of e⟩,q _ w' R' F' ?_⟩;have hl:=r.length;refine⟨fun w1 F1 i hi=>⟨xs,xs[i]'(by omega),SqL.of (F1.keep _ _ e k).1,yad (by omega)⟩,fun w1 F1=>⟨xs,SqL.of (F1.keep _ _ e k).1,by omega⟩,fun w1 F1 i d x H1 hd y=>?_⟩;obtain⟨rfl,hy⟩:=y;have hx:=hy xs (SqL.of (F1.keep _ _ e k).1);obtain⟨d',e1,e2⟩:=r.get hx;rw[hd]at e1;cases e1;exact⟨w1,rfl,Grow.refl _,e2.up F1⟩
  |_=>exact q.elim
def zrW(he:PE X e (tE cl E fc)):PI X tg e (tI cl E (ziq fc)):=by
 refine PI.imp (zsp he) ?_;rintro σ H Q ⟨B,w,ρ,S,rfl,R,q⟩;refine⟨B,w,ρ,S,rfl,R,?_⟩;unfold ziq at q
 cases hf:fc ρ S with
 |bad=>rwa[hf]at q|exc c S1=>rwa[hf]at q|ok d S1=>
  rw[hf]at q;intro v w' R' F' h';dsimp only[Out.bind]at q
  cases h' with
  |tup e k r=>
   rename_i a xs ds;refine⟨a,rfl,⟨xs,SqT.of e⟩,q _ w' R' F' ?_⟩;have hl:=r.length;refine⟨fun w1 F1 i hi=>⟨xs,xs[i]'(by omega),SqT.of (F1.keep _ _ e k).1,yad (by omega)⟩,fun w1 F1=>⟨xs,SqT.of (F1.keep _ _ e k).1,by omega⟩,fun w1 F1 i d x H1 hd y=>?_⟩;obtain⟨rfl,hy⟩:=y;have hx:=hy xs (SqT.of (F1.keep _ _ e k).1);obtain⟨d',e1,e2⟩:=r.get hx;rw[hd]at e1;cases e1;exact⟨w1,rfl,Grow.refl _,e2.up F1⟩
  |_=>exact q.elim
noncomputable def za8(lo hi:Int):List D:=(List.range (hi-lo).toNat).map fun(i:Nat)=>.int (lo+i)
def zeu(f:Fe):Fi:=fun ρ S=>(zas [f] ρ S).bind fun ds S1=>match ds with|[.int j]=>if -1000000<=j/\j<=1000000 then .ok (za8 0 j) S1 else .bad|_=>.bad
def ztr{w:Wd}{lo hi:Int}{n:Nat}(hn:n=(hi-lo).toNat):ItOk cl w (Itr lo n) (za8 lo hi):=by
 subst hn
 have hl:(za8 lo hi).length=(hi-lo).toNat:=by unfold za8;rw[yab,ybO]
 refine⟨fun w1 F1 i h=>by rw[hl]at h;exact h,fun w1 F1=>by rw[hl];exact yal _,fun w1 F1 i d x H1 hd y=>?_⟩;obtain⟨rfl,rfl⟩:=y;unfold za8 at hd;rw[yau]at hd
 cases hr:(List.range (hi-lo).toNat)[i]? with
 |none=>rw[hr]at hd;cases hd|some j=>
  rw[hr]at hd;have:=(yan.mp hr).2;rw[List.getElem_range]at this;subst this;cases hd;exact⟨w1,rfl,Grow.refl _,.int _⟩
theorem zpN(hg:Gl X "range")(hm:X.mg "range"=none)(ha:PA X [e] (tAs cl E [fc]))(hs:starEach [e] X.env=[(false,eval e X.env)]):PI X tg (.Call (.Name "range" p) [e] [] pos) (tI cl E (zeu fc)):=by
 refine PI.imp (zlk hg hm ha hs) ?_;rintro σ H Q ⟨B,w,ρ,S,rfl,R,q⟩;refine⟨B,w,ρ,S,rfl,R,?_⟩;unfold zeu at q
 cases hf:zas [fc] ρ S with
 |bad=>rwa[hf]at q|exc c S1=>rwa[hf]at q|ok ds S1=>
  rw[hf]at q;intro vs w' R' F' h';dsimp only[Out.bind]at q;split at q
  ·rename_i ds' S' hm';split at hm'
   ·rename_i j;split at hm'
    ·rename_i hb;cases hm'
     cases h' with
     |cons h1 h2=>
      cases h1;cases h2;exact⟨j,rfl,by omega,by omega,q _ w' R' F' (ztr (by omega))⟩
    ·cases hm'
   ·cases hm'
  ·rename_i hm';split at hm'<;>first|(split at hm'<;>cases hm')|cases hm'
  ·exact q.elim
end
noncomputable def zfC(ρ:Env)(i:Nat):Option (Bool×D):=match ρ[i]? with|some (some (false,d))=>some (false,d)|_=>none
def zbW(n:Nat)(caps:List Nat)(ρ:Env):Env:=List.replicate n none++caps.map (zfC ρ)
def zcJ:Fe:=zad (.bl true)
def zbg(tg:Tg)(c elt:Fe)(ρ0:Env):List D->Sto->Out (List D)
 |[],S=>.ok [] S|d::ds,S=>match tg.put ρ0 d with
  |none=>.bad|some ρ1=>(c ρ1 S).bind fun b S1=>match isB b with
   |some true=>(elt ρ1 S1).bind fun y S2=>(zbg tg c elt ρ0 ds S2).bind fun ys S3=>.ok (y::ys) S3|some false=>zbg tg c elt ρ0 ds S1|none=>.bad
def zbQ(n:Nat)(tg:Tg)(it:Fi)(c elt:Fe)(caps:List Nat):Fe:=fun ρ S=>(it ρ S).bind fun ds S1=>match zbg tg c elt (zbW n caps ρ) ds S1 with
 |.ok ys S2=>if zaD ys.length then .ok (.lst ys) S2 else .bad
 |_=>.bad
noncomputable abbrev noE:St->XK:=fun _ _ _ _=>False
section
variable{cl:Cf}
theorem zlZ{caps:List (Str×Nat)}(R:Rel cl B σ w ρ S)(W1:World' cl B1 w1 S1)(F1:Fut w w1){σ':St}(hσ:σ'.length=n+caps.length)(hc:σ'.drop n=caps.map fun p=>(σ[p.2]?).join):
  Rel cl B1 σ' w1 (zbW n (caps.map (·.2)) ρ) S1 where
 wd:=W1
 len:=by unfold zbW;rw[hσ,yah,yaS,yab,yab]
 slots:=fun i o d h=>by
  unfold zbW at h
  by_cases hi:i<n
  ·rw[yaE (by rw[yaS];exact hi),ybv]at h
   split at h<;>cases h
  ·rw[yax (by rw[yaS];omega),yaS,yav,yau]at h
   cases hp:caps[i-n]? with
   |none=>rw[hp]at h;cases h|some p=>
    rw[hp]at h;have h':zfC ρ p.2=some (o,d):=Option.some.inj h;unfold zfC at h';split at h'
    ·rename_i d' hd;cases h';obtain⟨v,e,x⟩:=R.slots p.2 false d hd;refine⟨v,?_,Shd.up F1 x⟩;have:=congrArg (fun l=>l[i-n]?) hc;rw[ybn,yau,hp]at this;rw[show n+(i-n)=i by omega]at this;rw[this];show some ((σ[p.2]?).join)=_;rw[e];rfl
    ·cases h'
end
section
variable{X:Cx}{cl:Cf}{E:St->XK}
theorem zo9(q:tN cl E (zbQ n t fi fc fe (caps.map (·.2))) σ H Q):
  ziV (tI cl E fi) (tG cl n t) (tTr cl noE fc) (tE cl noE fe) n caps σ H Q:=by
 obtain⟨B,w,ρ,S,rfl,R,q⟩:=q;refine⟨B,w,ρ,S,rfl,R,?_⟩;unfold zbQ at q
 cases hf:fi ρ S with
 |bad=>rwa[hf]at q|exc c S1=>rwa[hf]at q|ok ds S1=>
  rw[hf]at q;dsimp only[Out.bind]at q;intro J w0 R0 F0 hJ
  cases hcd:zbg t fc fe (zbW n (caps.map (·.2)) ρ) ds S1 with
  |bad=>rw[hcd]at q;exact q.elim|exc _ _=>rw[hcd]at q;exact q.elim|ok all Sf=>
   rw[hcd]at q;dsimp only at q
   cases hz:zaD all.length with
   |false=>rw[hz,if_neg (by decide)]at q;exact q.elim
   |true=>
    rw[hz,if_pos rfl]at q;dsimp only at q;refine⟨fun i m ys σ' H'=>m=ds.length-i/\i<=ds.length/\σ'.length=n+caps.length/\σ'.drop n=(caps.map fun p=>(σ[p.2]?).join)/\∃w1 S2 es zbR,w1.H=H'/\Fut w0.inn w1/\World' cl w0.base w1 S2/\Shds cl w1 ys es/\zbg t fc fe (zbW n (caps.map (·.2)) ρ) (ds.drop i) S2=.ok zbR Sf/\es++zbR=all,⟨ds.length,by simp,yaM _,by simp[capσ],by simp[capσ],w0.inn,S1,[],all,rfl,Fut.refl _,R0.wd.enter,.nil,by rw[List.drop_zero];exact hcd,rfl⟩,?_⟩;rintro i m ys σ1 H1 ⟨rfl,hi,hl1,hd1,w1,S2,es,zbR,rfl,F1,W1,sh,hrest,hall⟩;refine⟨?_,?_⟩
    ·rw[sh.length];refine yas ?_ (zaQ hz);rw[<-hall,yah];omega
    have F1':Fut w0 w1:=(zbT w0).trans F1
    by_cases hlt:i<ds.length
    ·obtain⟨d,hdi⟩:∃d,ds[i]?=some d:=⟨ds[i],yad hlt⟩
     have hdr:ds.drop i=d::ds.drop (i+1):=by
      rw[List.drop_eq_getElem_cons hlt];rw[yad hlt]at hdi;cases hdi;rfl
     rw[hdr]at hrest;unfold zbg at hrest;refine .inr ⟨hJ.go w1 F1' i hlt,fun x H' y=>?_⟩;obtain⟨w2,rfl,g2,s2⟩:=hJ.yld w1 F1' i d x H' hdi y;have R1:Rel cl w0.base σ1 w2 (zbW n (caps.map (·.2)) ρ) S2:=zlZ R0 (W1.grow g2) (F1'.trans g2.fut) hl1 hd1
     cases hp:t.put (zbW n (caps.map (·.2)) ρ) d with
     |none=>rw[hp]at hrest;cases hrest|some ρ1=>
      rw[hp]at hrest;dsimp only at hrest;refine⟨w0.base,w2,_,S2,d,ρ1,rfl,R1,s2,hp,fun σ2 hk1 hk2 R2=>⟨w0.base,w2,ρ1,S2,rfl,R2,?_⟩⟩
      cases hc:fc ρ1 S2 with
      |bad=>rw[hc]at hrest;cases hrest|exc _ _=>rw[hc]at hrest;cases hrest|ok b S3=>
       rw[hc]at hrest;dsimp only[Out.bind]at hrest ⊢
       cases hb:isB b with
       |none=>rw[hb]at hrest;cases hrest|some bb=>
        rw[hb]at hrest;intro w3 R3 F3
        cases bb with
        |false=>exact zoX ⟨ds.length-(i+1),by omega,rfl,hlt,hk1.trans hl1,hk2.trans hd1,w3,S3,es,zbR,rfl,F1.trans (g2.fut.trans F3),R3.wd,sh.up (g2.fut.trans F3),hrest,hall⟩
        |true=>
         refine zoW ⟨w0.base,w3,ρ1,S3,rfl,R3,?_⟩;dsimp only at hrest
         cases he:fe ρ1 S3 with
         |bad=>rw[he]at hrest;cases hrest|exc _ _=>rw[he]at hrest;cases hrest|ok yv S4=>
          rw[he]at hrest;dsimp only at hrest
          cases hr:zbg t fc fe (zbW n (caps.map (·.2)) ρ) (ds.drop (i+1)) S4 with
          |bad=>rw[hr]at hrest;cases hrest|exc _ _=>rw[hr]at hrest;cases hrest|ok zs S5=>
           rw[hr]at hrest;cases hrest;intro v w4 R4 F4 h4;have ff:=g2.fut.trans (F3.trans F4);exact⟨ds.length-(i+1),by omega,rfl,hlt,hk1.trans hl1,hk2.trans hd1,w4,S4,es++[yv],zs,rfl,F1.trans ff,R4.wd,(sh.up ff).append (.cons h4 .nil),hr,by rw[<-hall,ybt];rfl⟩
    ·have e:i=ds.length:=by omega
     subst e;rw[List.drop_length]at hrest;cases hrest;rw[yaP]at hall;subst hall;refine .inl ⟨hJ.stop w1 F1',fun p hp=>?_⟩;obtain⟨Rb,Fb⟩:=R0.leave W1 F1;exact q p (.lst ys) (w0.back w1) Rb (F0.trans Fb) hp (.lst (sh.up (zct W1)))
end
noncomputable def zab(k:Str):List (D×D)->Option D
 |(.str x,d)::r=>if x=k then some d else zab k r
 |_=>none
noncomputable def putS(k:Str)(y:D):List (D×D)->List (D×D)
 |(.str x,d)::r=>if x=k then(.str x,y)::r else(.str x,d)::putS k y r
 |_=>[(.str k,y)]
noncomputable def dropS(k:Str):List (D×D)->List (D×D)
 |(.str x,d)::r=>if x=k then r else(.str x,d)::dropS k r
 |_=>[]
def zac:List (D×D)->Bool
 |(.str x,_)::r=>(zab x r).isNone&&zac r|[]=>true|_=>false
noncomputable def zau:List (D×D)->List Str
 |(.str x,_)::r=>x::zau r|_=>[]
section
variable{cl:Cf}{w:Wd}
def zpo{o:HO}{ds:List (D×D)}(h:Top cl w o (.dic ds))(hs:zac ds=true):∃kvs,o=.dK kvs/\ShdK cl w kvs ds:=by
 cases h with
 |dicK h=>exact⟨_,rfl,h⟩
theorem zch(k:Str):∀{kvs:List (Key×V)}{ds:List (D×D)},ShdK cl w kvs ds->zac ds=true->(zeT kvs (.inr k)=none/\zab k ds=none)\/∃v d,zeT kvs (.inr k)=some v/\zab k ds=some d/\Shd cl w v d
 |_,_,.nil,_=>.inl ⟨rfl,rfl⟩|_,_,.consI r t,h=>by cases h
 |_,_,.consS (x:=x) (v:=v) (d:=d) r t,h=>by
  unfold zac at h;rw[yaa]at h;unfold zab
  by_cases e:x=k
  ·subst e;rw[if_pos rfl,zdn rfl];exact .inr ⟨v,d,rfl,rfl,r⟩
  ·rw[if_neg e,zdo (fun z=>e (by cases z;rfl))];exact zch k t h.2
theorem ShdK.snocS{k:Str}{v:V}{d:D}(h:Shd cl w v d):∀{kvs:List (Key×V)}{ds:List (D×D)},ShdK cl w kvs ds->zac ds=true->zab k ds=none->ShdK cl w (kvs++[(.inr k,v)]) (putS k d ds)
 |_,_,.nil,_,_=>.consS h .nil|_,_,.consI r t,ho,_=>by cases ho
 |_,_,.consS (x:=x) r t,ho,hl=>by
  unfold zac at ho;rw[yaa]at ho;unfold zab at hl
  by_cases e:x=k
  ·rw[if_pos e]at hl;cases hl
  ·rw[if_neg e]at hl;unfold putS;rw[if_neg e];exact .consS r (ShdK.snocS h t ho.2 hl)
theorem zjj{k:Key}{y:V}:∀{kvs:List (Key×V)},zeT kvs k=none->(kvs.map fun kv=>if kv.1=k then(kv.1,y)else kv)=kvs
 |[],_=>rfl|p::r,h=>by
  by_cases e:p.1=k
  ·rw[zdn e]at h;cases h
  ·rw[zdo e]at h;rw[yaw,if_neg e,zjj h]
theorem ShdK.replS{k:Str}{v:V}{d:D}(h:Shd cl w v d):∀{kvs:List (Key×V)}{ds:List (D×D)},ShdK cl w kvs ds->zac ds=true->(zab k ds).isSome=true->ShdK cl w (kvs.map fun kv=>if kv.1=.inr k then(kv.1,v)else kv) (putS k d ds)
 |_,_,.nil,_,hl=>by cases hl
 |_,_,.consI r t,ho,_=>by cases ho
 |_,_,.consS (x:=x) (vs:=vs) r t,ho,hl=>by
  unfold zac at ho;rw[yaa]at ho;unfold zab at hl;unfold putS
  by_cases e:x=k
  ·subst e;rw[if_pos rfl,yaw,if_pos rfl]
   have hn:zeT vs (.inr x)=none:=(zch x t ho.2).elim (·.1) fun⟨_,_,_,z,_⟩=>by rw[z]at ho;exact absurd ho.1 (by simp)
   rw[zjj hn];exact .consS h t
  ·rw[if_neg e]at hl;rw[if_neg e,yaw,if_neg (fun z=>e (by cases z;rfl))];exact .consS r (ShdK.replS h t ho.2 hl)
theorem ShdK.putS{k:Str}{v:V}{d:D}{kvs:List (Key×V)}{ds:List (D×D)}(t:ShdK cl w kvs ds)(ho:zac ds=true)(h:Shd cl w v d):ShdK cl w (ze1 kvs (.inr k) v) (putS k d ds):=by
 rcases zch k t ho with⟨h1,h2⟩|⟨v',d',h1,h2,_⟩
 ·rw[znf v h1];exact t.snocS h ho h2
 ·unfold ze1;rw[if_pos (by rw[zeM,h1];rfl)];exact t.replS h ho (by rw[h2];rfl)
theorem zhG{k:Key}:∀{kvs:List (Key×V)},zeT kvs k=none->zfu kvs k=kvs
 |[],_=>rfl|p::r,h=>by
  by_cases e:p.1=k
  ·rw[zdn e]at h;cases h
  ·rw[zdo e]at h;unfold zfu;rw[ybV,if_pos (yaz e)];congr 1;exact zhG h
theorem ShdK.dropS{k:Str}:∀{kvs:List (Key×V)}{ds:List (D×D)},ShdK cl w kvs ds->zac ds=true->ShdK cl w (zfu kvs (.inr k)) (dropS k ds)
 |_,_,.nil,_=>.nil|_,_,.consI r t,ho=>by cases ho
 |_,_,.consS (x:=x) (vs:=vs) r t,ho=>by
  unfold zac at ho;rw[yaa]at ho;unfold S2.dropS
  by_cases e:x=k
  ·subst e
   have hn:zeT vs (.inr x)=none:=(zch x t ho.2).elim (·.1) fun⟨_,_,_,z,_⟩=>by rw[z]at ho;exact absurd ho.1 (by simp)
   rw[if_pos rfl];unfold zfu;rw[ybV,if_neg (by simp)];have:=zhG hn;unfold zfu at this;rw[this];exact t
  ·rw[if_neg e];unfold zfu;rw[ybV];split
   ·exact .consS r (ShdK.dropS t ho.2)
   ·rename_i hz;exact absurd (by simp[e]) hz
def TopV.dicI{v:V}{ds:List (D×D)}(h:TopV cl w v (.dic ds)):∃a kvs,v=.ref a/\Rd w.H a (.dK kvs)/\ShdK cl w kvs ds:=by
 cases h with
 |sh h=>cases h with|dicK e k r=>exact⟨_,_,rfl,.inr ⟨_,e⟩,r⟩
 |ow e t=>cases t with|dicK r=>exact⟨_,_,rfl,.inl e,r⟩
theorem ShdK.length:∀{kvs:List (Key×V)}{ds:List (D×D)},ShdK cl w kvs ds->kvs.length=ds.length
 |_,_,.nil=>rfl|_,_,.consI r t=>by rw[yae,yae,ShdK.length t]
 |_,_,.consS r t=>by rw[yae,yae,ShdK.length t]
theorem zeQ:∀{kvs:List (Key×V)}{ds:List (D×D)},ShdK cl w kvs ds->zac ds=true->kvs.map (·.1)=(zau ds).map Sum.inr/\(zau ds).length=ds.length
 |_,_,.nil,_=>⟨rfl,rfl⟩|_,_,.consI r t,h=>by cases h
 |_,_,.consS r t,h=>by
  unfold zac at h;rw[yaa]at h;obtain⟨h1,h2⟩:=zeQ t h.2;exact⟨by rw[yaw,h1];rfl,by show _+1=_+1;rw[h2]⟩
end
end S2
namespace ST
open PySem PySem.Spec PyProof.Rows PySem.SetTable
noncomputable def pos(m:Nat):Nat->Nat->Nat->Nat
 |0,i,_=>i|n+1,i,p=>pos m n ((i*5+1+p / 32) % (m+1)) (p / 32)
def zze{m:Nat}(hm:m=7\/m=31):∀i,i<m+1->∀j,j<m+1->∃n,n<m+1/\pos m n i 0=j:=by
 rcases hm with rfl|rfl<;>decide +kernel
theorem cov{m:Nat}(hm:m=7\/m=31){j:Nat}(hj:j<m+1):∀k i p,p<32 ^ k->i<m+1->∃n,n<k+(m+1)/\pos m n i p=j
 |0,i,p,hp,hi=>by
  obtain rfl:p=0:=Nat.lt_one_iff.mp hp;rw[Nat.zero_add];exact zze hm i hi j hj
 |k+1,i,p,hp,hi=>by
  obtain⟨n,h1,h2⟩:=cov hm hj k ((i*5+1+p / 32) % (m+1)) (p / 32) (Nat.div_lt_of_lt_mul (by rw[Nat.mul_comm];exact hp)) (Nat.mod_lt _ (Nat.succ_pos m));exact⟨n+1,by omega,h2⟩
def zxs{m:Nat}(hm:m=7\/m=31){j:Nat}(hj:j<m+1)(h:Int):∃n,n<13+(m+1)/\pos m n (bits h % (m+1)) (bits h)=j:=by
 refine cov hm hj 13 _ _ ?_ (Nat.mod_lt _ (Nat.succ_pos m));have h1:=ycM h (show(2 ^ 64:Int)≠0 by decide);have h2:=ycd h (show(0:Int)<2 ^ 64 by decide);refine yai (m:=2 ^ 64) ?_ (by decide);unfold bits;omega
noncomputable def P(i p:Nat):Probe:={j:=i,more:=0,i:=i,perturb:=p,dummy:=none}
def zwG(i:Nat):runEnd 7 i-i=0:=by unfold runEnd;rw[if_neg (by omega)];exact yb5 i
def zzm{t:SetTable}(hm:t.mask=7)(i p:Nat):t.advance (P i p)=P ((i*5+1+p / 32) % 8) (p / 32):=by
 show({j:=_,more:=runEnd t.mask _-_,i:=_,perturb:=_,dummy:=none}:Probe)=_;rw[hm,zwG];rfl
def zrN{t:SetTable}(hm:t.mask=7)(h:Int):t.probeStart h=P (bits h % 8) (bits h):=by
 show({j:=_,more:=runEnd t.mask _-_,i:=_,perturb:=_,dummy:=none}:Probe)=_;rw[hm,zwG];rfl
def zpL{t:SetTable}(hd:t.dummies=#[])(j:Nat):t.slot j=.empty\/∃i,t.slot j=.live i/\t.place[i]?=some j:=by
 unfold slot;rw[hd,show has #[] j=false by unfold has below;rfl];dsimp only;split
 ·rename_i h;exact .inr ⟨_,rfl,eq_of_beq h⟩
 ·exact .inl rfl
theorem ztw{t:SetTable}(hm:t.mask=7)(hd:t.dummies=#[]){F:Nat->Int}{h:Int}:∀(fuel n i p:Nat),n<fuel->pos 7 n i p ∉ t.place.toList →
  (∃j,probe.go t F h fuel (P i p)=some (.empty j none))\/∃j i' n' i1 p1,n'<n/\pos 7 n' i1 p1 ∉ t.place.toList/\t.slot j=.live i'/\t.place[i']?=some j/\probe.go t F h fuel (P i p)=some (.candidate j i' (P i1 p1))
 |0,n,i,p,hn,_=>absurd hn (Nat.not_lt_zero n)|fuel+1,n,i,p,hn,hp=>by
  unfold probe.go
  rcases zpL hd (P i p).j with e|⟨i',e,hi⟩
  ·rw[e];exact .inl ⟨_,rfl⟩
  ·rw[e];dsimp only;rw[zzm hm]
   cases n with
   |zero=>exact absurd (ybq.mpr (Array.mem_of_getElem? hi)) hp|succ n=>
    split
    ·exact .inr ⟨_,i',n,_,_,ybU n,hp,e,hi,rfl⟩
    ·rcases ztw hm hd fuel n _ _ (yco hn) hp with z|⟨j,a,n',b,c,z1,z2⟩
     ·exact .inl z
     ·exact .inr ⟨j,a,n',b,c,ybs z1,z2⟩
section
variable{prog:Program}{w:World}{A:Around}{E:Z5}{s:Shared}
noncomputable abbrev TK(prog:Program)(w:World)(h:Heap)(k:List Int)(a:Addr):Prop:=IsTupleKey (intKind prog w) h k a
noncomputable abbrev th(prog:Program)(w:World)(k:List Int):Int:=tupleKeyHash (intKind prog w) k
def TK.ints{h:Heap}{k:List Int}{a:Addr}(x:TK prog w h k a):∃o its n,h.get? a=some o/\o.cls=.type "tuple" /\ o.data=.seq its n/\∀v∈its.toList,∃i t,v=Value.int i t:=by
 obtain⟨o,its,n,e,c,d,hi⟩:=x;refine⟨o,its,n,e,c,d,?_⟩;generalize its.toList=l at hi
 induction hi with
 |nil=>intro v hv;cases hv| @cons k v ks vs h1 _ ih=>
  intro v' hv
  rcases yat.mp hv with rfl|hv
  ·obtain⟨t,e⟩:=Value.isInt_shape (k:=k) (v:=v') h1;exact⟨k,t,e⟩
  ·exact ih v' hv
def zhx{M:Model}{its:Array Value}{f:Value->Option Bool×Unit->Sem (ForInStep (Option Bool×Unit))}{g:Option Bool×Unit->Sem Bool}{Q:Bool->Shared->Prop}(hv:∀v∈its.toList,∃i t,v=Value.int i t)
  (hf:∀i t Q',Q' (.yield (none,())) s->wpAny M A (f (.int i t) (none,())) Q' E s) (hg:wpAny M A (g (none,())) Q E s):wpAny M A (forIn its (none,()) f >>= g) Q E s:=by
 refine yac ?_;rw[<-Array.forIn_toList];refine wpAny_forIn_list _ (fun zbR r s'=>r=(none,())/\s'=s/\∀v∈zbR,∃i t,v=Value.int i t) _ ?_ ?_ _ _ ⟨rfl,rfl,hv⟩
 ·rintro v zbR _ s' ⟨rfl,rfl,hall⟩;obtain⟨i,t,rfl⟩:=hall v yam;exact hf i t _ ⟨rfl,rfl,fun u hu=>hall u (yak _ hu)⟩
 ·rintro _ s' ⟨rfl,rfl,_⟩;exact hg
def zjf{M:Model}{k:List Int}{a:Addr}{Q:Bool->Shared->Prop}(x:TK prog w s.heap k a)(hQ:Q false s):wpAny M A (ofAClassStatement 8 (.ref a)) Q E s:=by
 obtain⟨o,its,n,e,c,d,hv⟩:=x.ints;unfold ofAClassStatement;refine yac (wpAny_typeOf (T:="tuple") ⟨o,e,c⟩ (yac (yap ?_)));simp only[Bool.not_true,ybD,yc3];refine yac (ybo e d ?_);refine zhx hv (fun i t Q' q=>?_) (yap hQ);rw[show ofAClassStatement 7 (Value.int i t)=pure false by unfold ofAClassStatement;rfl];exact yac (yap (yap q))
def zod{k:List Int}{a:Addr}{Q:Bool->Shared->Prop}(x:TK prog w s.heap k a)(hQ:Q true s):wpAny (model prog w) A (hashByValue 8 (.ref a)) Q E s:=by
 obtain⟨o,its,n,e,c,d,hv⟩:=x.ints;unfold hashByValue;refine yac (wpAny_specialOf x.typeIs F.slot_tuple_hash.lookup (yac (ybo e d ?_)));refine zhx hv (fun i t Q' q=>?_) (yap hQ);rw[show hashByValue 7 (Value.int i t)=pure true by unfold hashByValue;rfl];exact yac (yap (yap q))
def znC{k:List Int}{a:Addr}{Q:Bool->Shared->Prop}(x:TK prog w s.heap k a)(l:List Value)(hl:∀v∈l,∃b k',v=.ref b/\TK prog w s.heap k' b)(hQ:Q false s):wpAny (model prog w) A (searchCouldBeSeen (.ref a) l) Q E s:=by
 unfold searchCouldBeSeen;refine yac (wpAny_forIn_list _ (fun zbR r s'=>r.1=none/\s'=s/\∀v∈zbR,∃b k',v=.ref b/\TK prog w s.heap k' b) _ ?_ ?_ _ _ ⟨rfl,rfl,hl⟩)
 ·rintro v zbR r s' ⟨hr,rfl,hall⟩;obtain⟨b,k',rfl,y⟩:=hall v yam;have tl:∀u∈zbR,∃b k',u=.ref b/\TK prog w s'.heap k' b:=fun u hu=>hall u (yak _ hu)
  dsimp only;split
  ·exact yap ⟨rfl,rfl,tl⟩
  ·exact yac (wpAny_eqIsQuiet_tuple x (yac (wpAny_eqIsQuiet_tuple y (yac (zjf x (yac (zjf y (yap ⟨rfl,rfl,tl⟩))))))))
 ·rintro⟨_,r⟩ s' ⟨rfl,rfl,_⟩;exact yap hQ
def zs5{M:Model}{α:Type}{c:Bool}{m:Sem Bool}{u k:Sem α}{Q:α->Shared->Prop}(hm:∀{Q':Bool->Shared->Prop},Q' false s->wpAny M A m Q' E s)(hk:wpAny M A k Q E s):wpAny M A (if c=true then m >>= fun b=>if b=true then u else k else k) Q E s:=by
 split
 ·exact yac (hm hk)
 ·exact hk
theorem zox{a:Addr}{o:Obj}{es:Array (Int×Value)}{ep:Nat}{t:SetTable}(ho:s.heap.get? a=some o)(hd:o.data=.set es ep t)(hf:t.fits es.size=true)(hm:t.mask=7)(hdm:t.dummies=#[])(hz:t.place.size=es.size)(hu:A.units<cLine)
  {k:List Int}{x:Addr} (hes:∀e∈es.toList,∃b k',k'≠k/\e=(th prog w k',Value.ref b)/\TK prog w s.heap k' b) (hx:TK prog w s.heap k x) {Q:SetFound->Shared->Prop} (hQ:∀j,Q (.free j false) s):
  ∀(fuel n i p:Nat) (stand:Option Probe),n<fuel->n<22->stand.getD (t.probeStart (th prog w k))=P i p->pos 7 n i p ∉ t.place.toList->wpAny (model prog w) A (setSearchFrom a (.ref x) (th prog w k) true fuel stand) Q E s
 |0,n,_,_,_,h1,_,_,_=>absurd h1 (Nat.not_lt_zero n)|fuel+1,n,i,p,stand,h1,h2,hst,hp=>by
  unfold setSearchFrom;refine yac (ybP ho hd hf ?_);dsimp only;rw[show t.gaveWay=false by unfold SetTable.gaveWay;rw[hm];rfl,hst];simp only[ybD,yc3];unfold SetTable.probe
  rcases ztw hm hdm (F:=_) (h:=th prog w k) (10*turns t.mask) n i p (by rw[hm];exact yai h2 (by decide)) hp with⟨j,e⟩|⟨j,i',n',i1,p1,z1,z2,z3,z4,e⟩
  ·rw[e];exact yap (hQ j)
  ·rw[e];have hi:i'<es.size:=hz ▸ (ybh.mp z4).1;have a4:=ybp hi;obtain⟨b,k',hne,eq,hk'⟩:=hes es[i'] (ybq.mpr (Array.getElem_mem hi));refine zs5 (znC hx _ fun v hv=>?_) ?_
   ·obtain⟨e',he',ev⟩:=yag.mp hv;obtain⟨b',k'',_,rfl,hk''⟩:=hes e' (ybq.mpr (Array.mem_filter.mp (ybq.mp he')).1);exact⟨b',k'',ev.symm,hk''⟩
   ·rw[a4,eq];refine yac (ybb (wpAny_eqBool_tuple hu hk' hx (yac (ybP ho hd hf ?_))));dsimp only;rw[yaJ hne,show t.sameMemory t.moves t.mask=some true by unfold SetTable.sameMemory;simp];simp only[Bool.and_false,ybD,yc3,ycT,z3,a4,eq];refine yac (wpAny_isSame_ref_self (yac (yap ?_)));exact zox ho hd hf hm hdm hz hu hes hx hQ fuel n' i1 p1 _ (by omega) (by omega) rfl z2
end
theorem zgv{α:Type}(xs:Array α)(p:Nat)(x:α):(insertAt xs p x).size=xs.size+1:=by
 simp[insertAt];omega
def zlY{α:Type}{xs:Array α}{p:Nat}{x y:α}(h:y∈(insertAt xs p x).toList):y=x\/y∈xs.toList:=by
 have e:(insertAt xs p x).toList=xs.toList.take p++x::xs.toList.drop p:=by simp[insertAt,List.extract_eq_take_drop,List.take_of_length_le]
 rw[e]at h
 rcases yaH.mp h with h|h
 ·exact .inr (List.mem_of_mem_take h)
 ·exact(yat.mp h).imp_right List.mem_of_mem_drop
noncomputable abbrev Ow:=Array (Option Nat)
def zjg{o:Ow}{x:Nat}:(o.getD x (some 0)).isNone=true↔o[x]?=some none:=by
 rw[Array.getD_eq_getD_getElem?]
 rcases o[x]? with _|_|_<;>simp
theorem zl9{o:Ow}:∀(fuel n i p:Nat),n<fuel->o[pos 31 n i p]?=some none->∃j,layClean.free 31 o fuel i p=some j/\o[j]?=some none
 |0,n,i,p,h,_=>absurd h (Nat.not_lt_zero n)|fuel+1,n,i,p,h,hn=>by
  unfold layClean.free
  cases e:(List.range (runEnd 31 i+1-i)).find? fun k=>(o.getD (i+k) (some 0)).isNone with
  |some k=>exact⟨i+k,rfl,zjg.mp (have:=List.find?_some e;this)⟩|none=>
   cases n with
   |zero=>
    have:=List.find?_range_eq_none.mp e 0 (by unfold runEnd;split<;>omega);rw[Nat.add_zero,zjg.mpr (show o[i]?=some none from hn)]at this;cases this
   |succ n=>exact zl9 fuel n _ _ (yco h) hn
noncomputable def cnt(l:List (Option Nat)):List Nat:=l.filterMap id
theorem ziw : ∀ (l : List (Option Nat)) (j k : Nat), l[j]?=some none -> (cnt (l.set j (some k))).length=(cnt l).length + 1
  |[], j, k, h=> by cases h
  | a :: l, 0, k, h => by obtain rfl : a = none := by simpa using h
                          rfl
  |none :: l, j + 1, k, h=> ziw l j k (by simpa using h)
  |some a :: l, j + 1, k, h=> congrArg (· + 1) (ziw l j k (by simpa using h))
theorem zjz:∀(l:List (Option Nat)),(cnt l).length<l.length->∃x:Nat,l[x]?=some none
 |[],h=>absurd h (yaR 0)|none::l,_=>⟨0,rfl⟩|some a::l,h=>let ⟨x,e⟩:=zjz l (yco h);⟨x+1,by simpa using e⟩
structure LC(o:Ow)(k:Nat):Prop where
 size:o.size=32
 len:(cnt o.toList).length=k
 lt:∀x∈cnt o.toList,x<k
def lcF(acc:Option (Ow×Nat))(h:Int):Option (Ow×Nat):=do
  let (owner,k) ← acc
  let j ← layClean.free 31 owner (turns 31) (bits h % (31+1)) (bits h)
  pure (owner.setIfInBounds j (some k),k+1)
theorem zlG:∀(hs:List Int) (k:Nat) (o:Ow),LC o k->k+hs.length<=31->∃o',hs.foldl lcF (some (o,k))=some (o',k+hs.length)/\LC o' (k+hs.length)
 |[],k,o,L,_=>⟨o,rfl,L⟩|h::hs,k,o,L,hl=>by
  rw[yae]at hl;obtain⟨x,hx⟩:=zjz o.toList (by rw[L.len,ya5,L.size];omega);rw[ybl]at hx;have hx':=(ybh.mp hx).1;rw[L.size]at hx';obtain⟨n,hn,en⟩:=zxs (.inr rfl) (show x<31+1 from hx') h;obtain⟨j,hj,hjn⟩:=zl9 (o:=o) (turns 31) n _ _ (yai hn (by decide)) (by rw[en];exact hx)
  have q:o.toList[j]?=some none:=by rw[ybl];exact hjn
  obtain⟨o',e1,e2⟩:=zlG hs (k+1) (o.setIfInBounds j (some k)) ⟨by rw[Array.size_setIfInBounds];exact L.size,by rw[Array.toList_setIfInBounds,ziw _ _ _ q,L.len],fun y hy=>by
   rw[Array.toList_setIfInBounds]at hy;obtain⟨b,hb,eb⟩:=ybj.mp hy;obtain rfl:b=some y:=eb
   rcases List.mem_or_eq_of_mem_set hb with z|z
   ·exact ybs (L.lt y (ybj.mpr ⟨_,z,rfl⟩))
   ·cases z;exact ybU _⟩ (by omega)
  rw[show k+1+hs.length=k+(h::hs).length by rw[yae];omega]at e1 e2;refine⟨o',?_,e2⟩;rw[yce,<-e1];show hs.foldl lcF (layClean.free 31 o (turns 31) (bits h % (31+1)) (bits h) >>= fun j=>pure (o.setIfInBounds j (some k),k+1))=_;rw[hj];rfl
theorem zqG{α:Type}(es:Array (Int×α))(hl:es.size<=31)(f mv:Nat)(led pl:Bool):
  ∃t' order,laid 31 f mv led pl (es.map (·.1))=some (t',order)/\(order.filterMap (es[·]?)).size=es.size/\t'.fits es.size=true:=by
 obtain⟨o,e1,L⟩:=zlG (es.map (·.1)).toList 0 (Array.replicate (31+1) none) ⟨rfl,rfl,fun x hx=>by cases hx⟩ (by simpa using hl);rw[Nat.zero_add,ya5,Array.size_map]at e1 L
 have e0:layClean 31 (es.map (·.1))=some o:=by
  unfold layClean;rw[<-Array.foldl_toList];exact congrArg (Option.map (·.1)) e1
 have ho:o.toList=(List.range 32).map fun j=>o.getD j none:=by
  refine List.ext_getElem (by simp[L.size]) fun i h1 h2=>?_
  have:i<o.size:=by simpa using h1
  simp[Array.getD,this]
 have e2:((List.range 32).filterMap fun j=>(o.getD j none).map (j,·)).map (·.2)=cnt o.toList:=by
  rw[ho];unfold cnt;rw[List.filterMap_map,List.map_filterMap];refine congrArg (List.filterMap · (List.range 32)) (funext fun j=>?_);show Option.map _ (Option.map _ (o.getD j none))=o.getD j none
  cases o.getD j none<;>rfl
 have e3:((List.range 32).filterMap fun j=>(o.getD j none).map (j,·)).length=es.size:=by rw[<-L.len,<-e2,yab]
 refine⟨_,_,by unfold laid;rw[e0];rfl,?_,?_⟩
 ·have key:∀l:List Nat,(∀x∈l,x<es.size)->(l.filterMap (es[·]?)).length=l.length:=fun l=>by
   induction l with
   |nil=>exact fun _=>rfl|cons a l ih=>
    intro h;rw[List.filterMap_cons_some (ybp (h a yam)),yae,yae,ih fun x hx=>h x (yak _ hx)]
  have:=key (cnt o.toList) L.lt;rw[L.len]at this;rw[<-this,<-e2,<-ya5,Array.toList_filterMap]
 ·unfold SetTable.fits SetTable.fill;dsimp only;rw[yaq,yab,e3,ybi];exact yaz hl
section
variable{prog:Program}{w:World}{A:Around}{E:Z5}{s:Shared}
def TK.keep{h h':Heap}{k:List Int}{b:Addr}(x:TK prog w h k b)(e:∀o,h.get? b=some o->(∀es ep t,o.data≠.set es ep t)->(∀vs,o.data≠.fields vs)->h'.get? b=some o):TK prog w h' k b:=by
 obtain⟨o',items,n,ho',hc,hd,hi⟩:=x;exact⟨o',items,n,e _ ho' (fun _ _ _ z=>by rw[hd]at z;cases z) (fun _ z=>by rw[hd]at z;cases z),hc,hd,hi⟩
noncomputable def zkg(prog:Program)(w:World)(h:Heap)(a:Addr)(ks:Z2):Prop:=
 ∃o es ep t,h.get? a=some o/\o.ExactSet/\o.data=.set es ep t/\t.fits es.size=true/\es.size=ks.length ∧
  (ks.length<=4->t.mask=7/\t.dummies=#[]/\∀e∈es.toList,∃b k,k∈ks/\e=(th prog w k,Value.ref b)/\TK prog w h k b)
def putS{h:Heap}{o:Obj}(ho:h.get? a=some o)(hx:o.ExactSet)(hd:o.data=.set es ep t):
  ∃o',(h.update a (Obj.putSet es' t')).get? a=some o'/\o'.ExactSet/\o'.data=.set es' (ep+1) t':=by
 refine⟨{o with data:=.set es' (ep+1) t'},?_,hx,rfl⟩;rw[ycz _ ho (by rw[putSet_of es' t' hd];rfl),putSet_of es' t' hd]
def TK.but{h h':Heap}{k:List Int}{b a:Addr}{o:Obj}{es ep t}(x:TK prog w h k b)(ho:h.get? a=some o)(hd:o.data=.set es ep t)(sb:Heap.SameBut a h h'):TK prog w h' k b:=
 x.keep fun o' q n _=>(sb.2 b (by rintro rfl;rw[ho]at q;cases q;exact n _ _ _ hd)).trans q
def zq5{t:SetTable}{n:Nat}(h:t.fits n=true):t.place.size=n/\t.fill<=t.mask:=by
 unfold SetTable.fits at h;rw[yaa]at h;exact⟨eq_of_beq h.1,yaj h.2⟩
theorem zpQ{a:Addr}{ks:Z2}{k:List Int}{x:Addr}{Q:Bool->Shared->Prop}(S:zkg prog w s.heap a ks)(hx:TK prog w s.heap k x)(hu:A.units<cLine)(hn:ks.length<=4)(hk:k ∉ ks)
  (h:∀h' c,Heap.SameBut a s.heap h'->zkg prog w h' a (ks++[k])->Q c {s with heap:=h',toks:=s.toks+(k.length+1)}):wpAny (model prog w) A (setAdd a (.ref x)) Q E s:=by
 unfold setAdd;refine ybb (yac (wpAny_pyHash_tuple hu hx ?_));obtain⟨o,es,ep,t,ho,hex,hd,hf,hsz,hm⟩:=S;obtain⟨hm,hdm,hes⟩:=hm hn;obtain⟨hz,_⟩:=zq5 hf;generalize hs1:({s with toks:=s.toks+(k.length+1)}:Shared)=s1
 have hh:s1.heap=s.heap:=by rw[<-hs1]
 have ho1:s1.heap.get? a=some o:=hh ▸ ho;unfold setAddHashed;refine ybb ?_;unfold setAddHashedIn;refine yac (ybP ho1 hd hf ?_);dsimp only;rw[show byScan (.ref x) es=false by unfold byScan;rfl];refine yac ?_
 have room:∃j,j<7+1/\j ∉ t.place.toList:=Classical.byContradiction fun hn'=>by
  have:=List.Nodup.length_le_of_subset (List.nodup_range (n:=8)) fun j hj=>Classical.byContradiction fun z=>hn' ⟨j,ybT.mp hj,z⟩
  rw[ybO,ya5,hz,hsz]at this;omega
 obtain⟨j0,hj0,hj1⟩:=room;obtain⟨n0,hn0,en0⟩:=zxs (.inl rfl) hj0 (th prog w k);refine zox ho1 hd hf hm hdm hz hu (fun e he=>?_) (hh ▸ hx) (fun j=>?_) 100000 n0 _ _ none (yai hn0 (by decide)) (yai hn0 (by decide)) (zrN hm _) (by rw[en0];exact hj1)
 ·obtain⟨b,k',m,e2,z⟩:=hes e he;exact⟨b,k',fun q=>hk (q ▸ m),e2,hh ▸ z⟩
 ·have fin:∀(t':SetTable) (es':Array (Int×Value)),t'.mask=7->t'.dummies=#[]->t'.place.size=es.size+1->es'.size=es.size+1->(∀e∈es'.toList,e=(th prog w k,Value.ref x)\/e∈es.toList) →
    wpAny (model prog w) A (do
     storeSet a es' t'
     if(!false&&t'.tooFull)=true then setRelay a (grown (es.size+1))
     return true) Q E s1:=by
   intro t' es' m1 m2 m3 m4 m5
   have hfl:t'.fill=es.size+1:=by unfold SetTable.fill;rw[m2];exact m3
   have F1:t'.fits es'.size=true:=by
    unfold SetTable.fits;rw[hfl,m3,m4,m1,ybi];exact yaz (show es.size+1<=7 by omega)
   refine yac (wpAny_storeSet_of ho1 hd ?_ (yas (show es'.size<=5 by omega) (by decide)));obtain⟨o1,g1,x1,d1⟩:=putS (es':=es') (t':=t') ho hex hd;have sb1:Heap.SameBut a s.heap (s.heap.update a (Obj.putSet es' t')):=Heap.SameBut.update ..
   have hlen:(ks++[k]).length=es.size+1:=by rw[hsz,yah];rfl
   subst hs1
   have tf:t'.tooFull=decide ((es.size+1)*5 ≥ 7*3):=by unfold SetTable.tooFull;rw[hfl,m1]
   rw[tf]
   by_cases h5:es.size+1=5
   ·rw[h5];rw[h5]at m4 hlen;unfold setRelay;refine yac (yac (ybP (s:={s with heap:=s.heap.update a (Obj.putSet es' t'),toks:=s.toks+(k.length+1)}) g1 d1 F1 ?_));obtain⟨t2,order,l1,l3,l4⟩:=zqG es' (by rw[m4];decide) t'.finger (t'.movedTo 31) t'.led t'.plain;dsimp only;rw[if_neg (by decide),show t'.relaid (es'.map (·.1)) (grown 5)=some (t2,order)from l1];refine yac ?_;show wpAny _ _ (if((order.filterMap (es'[·]?)).size != es'.size)=true then _ else _) _ _ _;rw[if_neg (by rw[l3];simp)];refine yap (wpAny_storeSet_of (s:={s with heap:=s.heap.update a (Obj.putSet es' t'),toks:=s.toks+(k.length+1)}) g1 d1 ?_ (by rw[l3,m4];decide));obtain⟨o2,g2,x2,d2⟩:=putS (es':=order.filterMap (es'[·]?)) (t':=t2) g1 x1 d1;exact yap (h _ true (sb1.trans (Heap.SameBut.update ..)) ⟨o2,_,_,t2,g2,x2,d2,by rw[l3];exact l4,by rw[l3,m4,hlen],fun z=>by omega⟩)
   ·rw[yaJ (by omega)];refine yac (yap (yap (h _ true sb1 ⟨o1,es',_,t',g1,x1,d1,F1,by rw[m4,hlen],fun _=>⟨m1,m2,fun e he=>?_⟩⟩)))
    rcases m5 e he with rfl|he
    ·exact⟨x,k,yaH.mpr (.inr (yaK.mpr rfl)),rfl,hx.but ho hd sb1⟩
    ·obtain⟨b,k',m,e2,z⟩:=hes e he;exact⟨b,k',yaH.mpr (.inl m),e2,z.but ho hd sb1⟩
  refine yac (ybP ho1 hd hf ?_)
  have hput:t.put j=({t with place:=insertAt t.place (below t.place j) j},below t.place j):=by
   unfold SetTable.put;rw[hdm,show has #[] j=false by unfold has below;rfl];simp[hdm]
  dsimp only;rw[hput];dsimp only;have hp:=(zgv t.place (below t.place j) j).trans (congrArg (·+1) hz)
  cases hpl:t.plain with
  |true=>exact yac (zod (hh ▸ hx) (fin _ _ hm hdm hp (zgv ..) fun _=>zlY))|false=>exact yac (yap (fin _ _ hm hdm hp (zgv ..) fun _=>zlY))
end
section
variable{prog:Program}{w:World}{A:Around}{R:Result->Shared->Prop}{s:Shared}
theorem zkg.keep{h h':Heap}{a it:Addr}{o:Obj}{vs:Array Value}{ks:Z2}(x:zkg prog w h a ks)(ho:h.get? it=some o)(hd:o.data=.fields vs)(e:∀b o,b≠it->h.get? b=some o->h'.get? b=some o):zkg prog w h' a ks/\a≠it:=by
 obtain⟨o',es,ep,t,e1,e2,e3,e4,e5,e6⟩:=x
 have hne:a≠it:=by rintro rfl;rw[ho]at e1;cases e1;rw[hd]at e3;cases e3
 refine⟨⟨o',es,ep,t,e a o' hne e1,e2,e3,e4,e5,fun z=>?_⟩,hne⟩;obtain⟨q1,q2,q3⟩:=e6 z;refine⟨q1,q2,fun y hy=>?_⟩;obtain⟨b,k,m,q,u⟩:=q3 y hy;exact⟨b,k,m,q,u.keep fun o2 q2 _ n=>e b o2 (by rintro rfl;rw[ho]at q2;cases q2;exact n _ hd) q2⟩
theorem zmQ{S I ax:Addr}{its:Array Value}{keys:Z2}(hh:A.in1.handled=none)(hu:A.in1.units<cLine)(hlen:its.size=keys.length)(h5:keys.length<=5)(nd:keys.Nodup)(hSax:S≠ax)(hIax:ax≠I):
  ∀(k i:Nat) (s:Shared),keys.length-i=k->i<=keys.length->s.heap.IsTupleIter I ax i->s.heap.IsTuple ax its->(∀(j:Nat) (v:Value),its[j]?=some v->∃b,v=.ref b/\TK prog w s.heap (keys.getD j []) b) →
   zkg prog w s.heap S (keys.take i) →
   (∀h' tk,(∀b o,b≠S->b≠I->s.heap.get? b=some o->h'.get? b=some o)->zkg prog w h' S keys->R (.ok (.ret .none)) {s with heap:=h',toks:=tk}) →
   codeAny (model prog w) A (.builtin "set.update.loop" ⟨[.ref S,.ref I],[]⟩) R s:=by
 intro k
 induction k with
 |zero=>
  intro i s hk hi it tp tks ts hR
  have e:i=keys.length:=by omega
  refine ybI F.entry_set_update_loop ?_;rw[ybS ycf _];show wpAny _ A.in1 (pyNext (.ref I) >>= _) _ _ s;refine yac (wpAny_pyNext_tuple_end hh it tp (Array.getElem?_eq_none (by rw[hlen,e];exact yal _)) fun h' eb=>?_);obtain⟨o,e1,e2,e3⟩:=id it;rw[e,ybX]at ts;exact yap (hR h' s.toks (fun b o _ hb q=>eb b o hb q) (ts.keep e1 e3 fun b o hb q=>eb b o hb q).1)
 |succ k ih=>
  intro i s hk hi it tp tks ts hR
  have hlt:i<keys.length:=by omega
  have hlt':i<its.size:=by omega
  refine ybI F.entry_set_update_loop ?_;rw[ybS ycf _];show wpAny _ A.in1 (pyNext (.ref I) >>= _) _ _ s;refine yac (wpAny_pyNext_tuple_item it tp (x:=its[i]) (ybp hlt') fun h1 it1 sb1=>?_);obtain⟨o,e1,e2,e3⟩:=id it;obtain⟨ts1,hSI⟩:=ts.keep (h':=h1) e1 e3 fun b o hb q=>(sb1.2 b hb).trans q
  obtain⟨b,eb,tk0⟩:=tks i its[i] (ybp hlt');have tk1:∀{k' b'},TK prog w s.heap k' b'->TK prog w h1 k' b':=fun {k' b'} z=>z.keep fun o2 q _ n=>(sb1.2 b' (by rintro rfl;rw[e1]at q;cases q;exact n _ e3)).trans q
  rw[eb];show wpAny _ A.in1 (holding [Value.ref b] (setAdd S (.ref b)) >>= _) _ _ _
  have ek:keys.take i++[keys.getD i []]=keys.take (i+1):=by
   rw[List.take_add_one,yad hlt,yaO,yad hlt];rfl
  have nd':(keys.take i++[keys.getD i []]).Nodup:=ek ▸ List.Nodup.sublist (ycr ..) nd;refine yac (ybb (zpQ (s:={s with heap:=h1}) ts1 (tk1 tk0) hu (by rw[List.length_take];omega) (fun z=>(ycs.mp nd').2.2 _ z _ (yaK.mpr rfl) rfl) fun h2 r sb2 ts2=>?_));rw[ek]at ts2;obtain⟨oS,esS,epS,tS,f1,f2,f3,_⟩:=ts1;refine yap ⟨plainId_quiet ycf _,?_⟩
  refine ih (i+1) _ (by omega) hlt (it1.at fun o q=>(sb2.2 I (Ne.symm hSI)).trans q) ((tp.at fun o q=>(sb1.2 ax hIax).trans q).at fun o q=>(sb2.2 ax (Ne.symm hSax)).trans q) (fun j v hv=>?_) ts2 fun h' tk kp ts'=>
   hR h' tk (fun b' o hb1 hb2 q=>kp b' o hb1 hb2 ((sb2.2 b' hb1).trans ((sb1.2 b' hb2).trans q))) ts'
  obtain⟨b',eb',z⟩:=tks j v hv;exact⟨b',eb',(tk1 z).but f1 f3 sb2⟩
end
end ST
namespace PySem
open PyProof.Rows
section
variable{prog:Program}{w:World}{A:Around}{E:Z5}{s:Shared}
theorem zfy{l:Addr}{its:Array Value}{keys:Z2}{Q:Z5}(hh:A.handled=none)(hu:A.units+8<cLine)(tp:s.heap.IsTuple l its)(hlen:its.size=keys.length)(h5:keys.length<=5)(nd:keys.Nodup)
  (tks:∀(j:Nat) (v:Value),its[j]?=some v->∃b,v=.ref b/\ST.TK prog w s.heap (keys.getD j []) b)
  (h:∀h' tk,(∀b o,s.heap.get? b=some o->h'.get? b=some o)->ST.zkg prog w h' s.heap.objs.size keys->Q (.ref s.heap.objs.size) {s with heap:=h',toks:=tk}):
  wpAny (model prog w) A (call (.type "set") [.ref l]) Q E s:=by
 obtain⟨cc,tl,hmro⟩:=ybJ.mro;have hmade:=ybJ.made;have hsub:=ybJ.sub;have h1:=ybJ.notType;have h2:=ybJ.canCreate;have hct:=F.typeCall_set_1 (.ref l);refine ycY (codeAny_of_tree ?_);show wpAny _ _ (callAny (.type "set") _) _ _ _;refine yap ⟨Code.quiet_builtin _ (by decide +kernel),ybI F.entry_type_call ?_⟩;rw[Around.under_plain (weight_type_call_type "set" [.ref l] []) rfl]
 repeat (any_goals (first|assumption|wp_step))
 refine ybu (code_set_new_1 (.ref l) (E:=E) (Q₁:=fun obj s1=>∃led:Bool,obj=.ref s.heap.objs.size/\s1={s with heap:=s.heap.push {cls:=.type "set",dict:=none,data:=.set #[] 0 (.fresh 0 0 led)}}) fun led=>⟨led,rfl,rfl⟩) ?_;intro r s1 hr
 match r,hr with
 |.error e,hr=>exact hr|.ok (.ret obj),hr=>
  obtain⟨led,rfl,rfl⟩:=hr;generalize hG:s.heap.push {cls:=.type "set",dict:=none,data:=.set #[] 0 (.fresh 0 0 led)}=G;have hS:G.get? s.heap.objs.size=some {cls:=.type "set",dict:=none,data:=.set #[] 0 (.fresh 0 0 led)}:=hG ▸ yar _ rfl;have upG:∀b o,s.heap.get? b=some o->G.get? b=some o:=fun b o e=>hG ▸ yaf _ e
  have hGz:G.objs.size=s.heap.objs.size+1:=by rw[<-hG,yaZ]
  have hT:Shared.TypeIs {s with heap:=G} (.ref s.heap.objs.size) "set":=⟨_,hS,rfl⟩;have hli:=ybJ.init.lookup;have hbi:=ybJ.init.bind (.ref s.heap.objs.size)
  repeat (any_goals (first|assumption|wp_step))
  refine ybu (ycG (R:=wants (fun r s2=>r=.none/\∃h' tk,s2={s with heap:=h',toks:=tk}/\(∀b o,s.heap.get? b=some o->h'.get? b=some o)/\ST.zkg prog w h' s.heap.objs.size keys) E) ybJ.init.plain F.entry_set_init (check_set_init_1 hT ?_)) ?_
  ·obtain⟨⟨ocls,odict,odata,oslots⟩,hol,hcl,nl,hdl⟩:=tp;simp only at hcl hdl;subst hcl;subst hdl;have hol':=upG l _ hol;have hsls:=F.sub_tuple_set;have hslf:=F.sub_tuple_frozenset
   have hne:(Value.type "tuple"==Value.type "dict")=false:=by decide
   have tp1:G.IsTuple l its:=⟨_,hol',rfl,nl,rfl⟩;unfold Builtin.«set.__init__» noKeywords Builtin.Frozenset.updateFrom;generalize hPI:pyIter=PI
   wp_walk
   subst hPI;refine yb8 tp1 ?_;refine yac (wpAny_runValue ?_);have hlS:l<s.heap.objs.size:=yao hol;have upI:∀b o,G.get? b=some o->(G.push {cls:=.type "tuple_iterator",data:=.fields #[.ref l,.int 0 0]}).get? b=some o:=fun b o e=>yaf _ e
   refine ST.zmQ (its:=its) (keys:=keys) (ax:=l) (by simp[hh]) (show A.units+3<cLine by omega) hlen h5 nd (yaU hlS) (by rw[hGz];exact yay (ybs hlS)) keys.length 0 _ (by omega) (yaM _) ⟨_,yar _ rfl,rfl,rfl⟩ (tp1.at fun o e=>upI l o e) (fun j v hv=>?_) ?_ ?_
   ·obtain⟨b,eb,z⟩:=tks j v hv;exact⟨b,eb,z.keep fun o e _ _=>upI b o (upG b o e)⟩
   ·exact⟨_,#[],0,.fresh 0 0 led,upI _ _ hS,⟨rfl,rfl,rfl⟩,rfl,rfl,rfl,fun _=>⟨rfl,rfl,fun x hx=>by cases hx⟩⟩
   ·intro h' tk kp ts;refine yap ?_;show wpAny _ _ (ret Value.none) _ _ _;refine yap ⟨rfl,h',tk,rfl,fun b o e=>kp b o (yay (yao e)) ?_ (upI b o (upG b o e)),ts⟩;rw[hGz];exact yay (ybs (yao e))
  ·intro r2 s2 hr2
   match r2,hr2 with
   |.error e,hr2=>exact hr2|.ok (.ret v),hr2=>
    obtain⟨rfl,h',tk,rfl,kp,ts⟩:=hr2
    repeat (any_goals (first|assumption|wp_step))
    exact h h' tk kp ts
end
end PySem
namespace L2
open PySem PySem.Spec PyProof.Rows
section
variable{X:Cx}{a b c:Expr}{ta tb tc:TE}{pos:Pos}
def ziy:zdS X (.builtin "isinstance") (fun xs H Q=>∃x t c k,xs=[x,.ty c]/\TyOf X.K H x t/\PySem.W.kitOne X.K t (.type c)=some k/\Q (.bl k) H):=by
 intro pins s σ H xs us Q I r h;obtain⟨x,t,c,k,rfl,ty,e,q⟩:=h
 cases r with
 |cons r1 rr=>
  cases rr with
  |cons r2 r3=>
   cases r3;cases (show _=Value.type c from r2);exact zlU I r1 ty e fun tk=>⟨.bl k,H,I.tok tk,rfl,q⟩
def zgm(bs:List Bool):((List.range bs.length).all fun i=>(bs[i]?).getD true)=bs.all id:=by
 rw[Bool.eq_iff_iff,ybx,ybx];constructor
 ·intro h b hb;obtain⟨i,hi,e⟩:=List.mem_iff_getElem.mp hb;have:=h i (ybT.mpr hi);rwa[yad hi,e]at this
 ·intro h i hi;have hi':=ybT.mp hi;rw[yad hi'];exact h _ (ycE hi')
def ziz(hc:X.calm=true):zdS X (.builtin "all") (fun xs H Q=>∃(p:Addr) (bs:List Bool),xs=[.ref p]/\SqL X.K H p (bs.map V.bl)/\Q (.bl (bs.all id)) H):=by
 intro pins s σ H xs us Q I r h;obtain⟨p,bs,rfl,hq,q⟩:=h;obtain⟨u,rfl,rx⟩:=zgb r;cases rx;obtain⟨its,rv,pl,hz⟩:=I.list hq;have hl:=pl.isList
 have hlt:p<s.heap.objs.size:=by obtain⟨_,e,_⟩:=hl;exact yao e
 have hn:its.length=bs.length:=by have:=rv.length;rw[yab]at this;exact this.symm
 refine call_all_walk (ycU hl ?_);refine⟨s.heap.objs.size,[s.heap.objs.size,p],[s.heap.objs.size],its.toArray.size,_,_,fun i=>(bs[i]?).getD true,rfl,Walks.list (A:=X.A.in1) (I.ok.hd hc) _ p (yay hlt) its.toArray,⟨⟨_,yar _ rfl,rfl,rfl⟩,hl.push _⟩,fun i v s' Q' E' hP hQ=>?_,fun h' tk hk=>?_⟩
 ·have hv:its[i]?=some v:=by simpa using hP
  have hi:i<bs.length:=by rw[<-hn];exact(yan.mp hv).1
  obtain⟨u,hu,ru⟩:=rv.get (i:=i) (x:=.bl bs[i]) (by rw[yau,yad hi];rfl);rw[hv]at hu;cases hu;cases (show v=Value.bool bs[i]from ru);refine yaX ?_;have hQ':Q' ((bs[i]?).getD true) s':=hQ;rwa[yad hi]at hQ'
 ·rw[yaq,hn,zgm];refine⟨.bl _,H,I.kept (t':=tk) fun b o e=>?_,rfl,q⟩;exact hk b o (fun hm=>by rw[yaK.mp hm]at e;exact yaR _ (yao e)) (yaf _ e)
theorem zfT{prog:Program}{w:World}:∀{k:List Int}{its:List Value},Vals (k.map V.int) its->ItemsAre (intKind prog w) k its
 |[],_,.nil=>.nil|i::k,_,.cons r t=>by
  obtain⟨t',rfl⟩:=r;exact .cons (by show Value.isInt i (.int i t')=true;simp[Value.isInt]) (zfT t)
def Inv.key{pins:Z3}{σ:St}{H:Hp}{s:Shared}(I:Inv X pins σ H s){p:Addr}{k:List Int}(h:SqT X.K H p (k.map V.int)){prog:Program}{w:World}:ST.TK prog w s.heap k p:=by
 obtain⟨its,rv,⟨o,e,c,n,d⟩,_⟩:=I.tuple h;exact⟨o,_,n,e,c,d,zfT rv⟩
noncomputable def zhY(K:PySem.W.Frag)(H:Hp)(ys:List V)(keys:Z2):Prop:=Paired (fun(v:V) (k:List Int)=>∃b,v=.ref b/\SqT K H b (k.map V.int)) ys keys
theorem zhY.get{K:PySem.W.Frag}{H:Hp}:∀{ys:List V}{keys:Z2}{its:List Value},zhY K H ys keys->Vals ys its->∀(j:Nat) (v:Value),its[j]?=some v->∃b,v=.ref b/\SqT K H b ((keys.getD j []).map V.int)
 |_,_,_,.nil,.nil,j,v,e=>by simp at e
 |_,_,_,.cons ⟨b,eb,hb⟩ t,.cons r tr,0,v,e=>by
  subst eb;cases r;simp at e;subst e;exact⟨b,rfl,by simpa using hb⟩
 |_,_,_,.cons _ t,.cons _ tr,j+1,v,e=>by
  obtain⟨b,h1,h2⟩:=zhY.get t tr j v (by simpa using e);exact⟨b,h1,by simpa using h2⟩
noncomputable def zjE(a:Addr)(c:Nat)(h:Heap):Prop:=∃o es ep t,h.get? a=some o/\o.ExactSet/\o.data=.set es ep t/\t.fits es.size=true/\es.size=c
def zfJ(hc:X.calm=true)(hu:X.A.units+8<cLine):zdS X (.type "set") (fun xs H Q=>∃(p:Addr) (ys:List V) (keys:Z2),xs=[.ref p]/\SqT X.K H p ys/\zhY X.K H ys keys/\keys.length<=5/\keys.Nodup ∧
  ∀l,H l=none->Q (.ref l) (upd H l (.ext (zjE l keys.length)))):=by
 intro pins s σ H xs us Q I r h;obtain⟨p,ys,keys,rfl,hq,hk,h18,nd,q⟩:=h;obtain⟨u,rfl,rx⟩:=zgb r;cases rx;obtain⟨its,rv,pl,hz⟩:=I.tuple hq
 have hn:its.toArray.size=keys.length:=by rw[yaq,<-rv.length];exact hk.length
 refine zfy (I.ok.hd hc) hu (show s.heap.IsTuple p its.toArray from pl) hn h18 nd (fun j v hv=>?_) fun h' tk kp ts=>?_
 ·obtain⟨b,e,hb⟩:=hk.get rv j v (by simpa using hv);exact⟨b,e,I.key hb⟩
 ·obtain⟨o,es,ep,t,e1,e2,e3,e4,e5,_⟩:=ts;refine⟨.ref s.heap.objs.size,_,I.laid (t':=tk) (o:=.ext (zjE s.heap.objs.size keys.length)) kp (yal _) ?_,rfl,q _ (I.hok.fresh (yal _))⟩;exact⟨⟨o,es,ep,t,e1,e2,e3,e4,e5⟩,⟨o,e1⟩,fun h1 h2 ⟨o,es,ep,t,f1,f⟩ k=>⟨o,es,ep,t,k o f1,f⟩⟩
theorem zgH:zdS X (.builtin "len") (fun xs H Q=>∃a c,xs=[.ref a]/\H a=some (.ext (zjE a c))/\c<=1000/\Q (.int c) H):=by
 intro pins s σ H xs us Q I r h;obtain⟨a,c,rfl,ha,hc,q⟩:=h;obtain⟨u,rfl,rx⟩:=zgb r;cases rx;obtain⟨⟨o,es,ep,t,e1,e2,e3,e4,e5⟩,_⟩:=I.hok a _ ha;refine call_len_set e1 e2 e3 e4 ?_ ?_
 ·have:(es.size:Int)<=1000:=by rw[e5];omega
  exact Int.lt_of_le_of_lt this (by decide)
 ·exact⟨.int c,H,I.tok _,⟨_,by rw[e5]⟩,q⟩
def znA:OpR X (binaryOp .Add) (fun x y H Q=>∃(a b:Addr) (ys:List V),x=.ref a/\y=.ref b/\SqT X.K H a []/\SqT X.K H b ys/\Q (.ref b) H):=by
 intro pins s σ H x y v u Q I rx ry h;obtain⟨a,b,ys,rfl,rfl,ha,hb,q⟩:=h;cases rx;cases ry;obtain⟨its,r1,p1,_⟩:=I.tuple ha;obtain⟨its2,r2,p2,_⟩:=I.tuple hb;cases r1;obtain⟨⟨cls,dd,data,sl⟩,ho,hc,n,hd⟩:=id p1;obtain⟨⟨cls2,dd2,data2,sl2⟩,ho2,hc2,n2,hd2⟩:=id p2;simp only at hc hd hc2 hd2;subst hc hd hc2 hd2
 exact concat_meets ⟨_,ho,rfl⟩ ⟨_,ho2,rfl⟩ noFill_tuple_add seq_tuple_add ycn yca (yb2 _ _)
  (tuple_addW0 a b ([]:List Value).toArray its2.toArray n n2 dd dd2 sl sl2 (by rfl)) ⟨ho,ho2,⟨.ref b,H,I,rfl,q⟩⟩
end
end L2
namespace PySem
open PySem.Spec PyProof.Rows
end PySem
namespace L2
open PySem PySem.Spec PyProof.Rows
inductive D where
 |non|bl (b:Bool)|int (i:Int)|str (x:Str)|tup (l:List D)|lst (l:List D)
end L2
namespace HT
open PySem PySem.Spec PyProof.Rows L2
end HT
namespace L2
open PySem PySem.Spec PyProof.Rows
mutual
noncomputable def D.py:D->PyData
 |.non=>.none|.bl b=>.bool b|.int i=>.int i|.str x=>.str x|.tup l=>.tuple (D.pys l)|.lst l=>.list (D.pys l)
noncomputable def D.pys:List D->List PyData
 |[]=>[]|d::l=>d.py::D.pys l
end
mutual
noncomputable def D.fit:Nat->D->Bool
 |_,.non=>true|_,.bl _=>false|_,.int _=>true|_,.str x=>PyData.strOk x|0,.tup _=>false|n+1,.tup l=>D.fits n l|0,.lst _=>false|n+1,.lst l=>D.fits n l
noncomputable def D.fits:Nat->List D->Bool
 |_,[]=>true|n,d::l=>d.fit n&&D.fits n l
end
theorem D.fits_iff:∀{l:List D},D.fits n l=true↔∀d∈l,d.fit n=true
 |[]=>by simp[D.fits]
 |d::l=>by simp[D.fits,D.fits_iff (l:=l)]
mutual
theorem D.lay:∀{n:Nat}{d:D},d.fit n=true->d.py.canLay0=true/\d.py.depth<=n
 |_,.non,_=>⟨rfl,yaM _⟩|_,.bl _,h=>by simp[D.fit]at h
 |_,.int _,_=>⟨rfl,yaM _⟩|_,.str x,h=>⟨by simpa[D.fit,D.py,PyData.canLay0]using h,yaM _⟩
 |0,.tup _,h=>by simp[D.fit]at h
 |0,.lst _,h=>by simp[D.fit]at h
 |n+1,.tup l,h=>by
  have h':D.fits n l=true:=by simpa[D.fit]using h
  obtain⟨a,b⟩:=D.lays h';exact⟨by simpa[D.py,PyData.canLay0]using a,by simp only[D.py,PyData.depth];omega⟩
 |n+1,.lst l,h=>by
  have h':D.fits n l=true:=by simpa[D.fit]using h
  obtain⟨a,b⟩:=D.lays h';exact⟨by simpa[D.py,PyData.canLay0]using a,by simp only[D.py,PyData.depth];omega⟩
theorem D.lays:∀{n:Nat}{l:List D},D.fits n l=true->PyData.canLayAll0 (D.pys l)=true/\PyData.depthAll (D.pys l)<=n
 |_,[],_=>⟨rfl,yaM _⟩|n,d::l,h=>by
  simp only[D.fits,yaa]at h;obtain⟨a,b⟩:=D.lay h.1;obtain⟨c,e⟩:=D.lays h.2;exact⟨by simp[D.pys,PyData.canLayAll0,a,c],by simp only[D.pys,PyData.depthAll];omega⟩
end
section
variable{X:Cx}
def zia(hl:d.canLay0=true)(r:Reads h v d as):SeqAt.readOf h v=d:=by
 have hx:∃d as,Reads h v d as:=⟨d,as,r⟩;unfold SeqAt.readOf;rw[dif_pos hx];obtain⟨bs,rb⟩:=hx.choose_spec;exact(SeqAt.Reads.unique _ _ _ _ _ hl r rb).symm
end
def CXE(P:Program)(w:World):CXT:=fun outer H s E e s'=>∃(a:Addr) (cls a0:Value) (H':Hp) (B:Heap),e=.ref a/\Heap.FlyingW B outer a cls a0 s'.heap ∧
 (∀b o,s'.heap.get? b=some o->H' b≠none->B.get? b=some o)/\(∀b o,s.heap.get? b=some o->H b=none->b ∉ frs outer->B.get? b=some o) ∧
 (∀b o,s.heap.get? b=some o->b ∉ frs outer->∃o',B.get? b=some o') ∧
 s'.os=s.os/\AllBare s'.gens/\Un (frs outer) [] H H' s.heap s'.heap/\HOk P w H' s'.heap/\E cls none H'
def za3.has(x:za3 P w H h a o):∃ob,h.get? a=some ob:=by
 cases o with
 |lst xs=>obtain⟨_,_,_,_,e⟩:=x;exact⟨_,e⟩|tup xs=>obtain⟨_,_,_,ob,e,_⟩:=x;exact⟨_,e⟩|dK kvs=>obtain⟨_,_,_,_,o,_,_,e,_⟩:=x;exact⟨_,e⟩|dT kvs=>obtain⟨_,_,_,_,o,_,_,e,_⟩:=x;exact⟨_,e⟩|set S n=>obtain⟨o,_,_,_,e,_⟩:=x;exact⟨_,e⟩|ins C dx fs=>obtain⟨_,_,_,e,_⟩:=x;exact⟨_,e⟩|own y=>exact x|xd fs=>obtain⟨_,⟨_,_,_,e,_⟩,_⟩:=x;exact⟨_,e⟩|rng lo hi=>obtain⟨_,_,_,e⟩:=x;exact⟨_,e⟩|frz ob u=>obtain⟨e,_⟩:=x;exact⟨_,e⟩|tbl ps=>exact⟨_,(show h.get? a=some _ from x)⟩|met f y=>exact⟨_,(show h.get? a=some _ from x)⟩|ext φ=>obtain⟨_,e,_⟩:=x;exact e
def HOk.same(x:HOk P w H h)(k:∀b u,h.get? b=some u->H b≠none->h'.get? b=some u):HOk P w H h':=fun a o e=>
 (x a o e).stay (fun b u hb q=>k b u q (hb.elim (fun z=>by rw[z,e];exact yaF _) (fun z=>by rw[z];exact yaF _))) (fun _ q=>q) fun _ _ q=>q
section
variable{X:Cx}{pins:Z3}{σ:St}{H:Hp}{s:Shared}{M:Model}
def znY(l:List Env):∀env∈l,∀b,env.frame=some b->b∈frs l:=fun env he b hb=>ybj.mpr ⟨env,he,hb⟩
def zjZ(I:Inv X pins σ H s)(hx:X.ex=[])(hs:X.stack=X.env::X.outer)(hf:X.env.frame=some X.env.locals)(mk:Heap.MadeExcOf s.heap h' e cls vs)(q:E cls none H):
  wpAny M X.A (leaving X.env (.ref e)) (fun _ s''=>CXE X.prog X.w X.outer X.H₀ X.s₀ E (.ref e) s'') Er {s with heap:=h'}:=by
 have hfr:X.A.frames=some (X.env::X.outer):=by rw[<-hs];exact I.ok.frames
 have hst:s.heap.FunFrames X.base (X.env::X.outer):=by rw[<-hs];exact I.stack
 refine wpAny_leaves_madeW (base:=PySem.W.hideAll s.heap (frs (X.env::X.outer))) hfr hf (fun b o z=>PySem.W.of_hideAll _ z) (PySem.W.funFrames_hide hst (znY _)) mk fun h2 t fl tup _ up=>?_
 have inB:∀b o,s.heap.get? b=some o->b ∉ frs (X.env::X.outer)->(PySem.W.hideAll s.heap (frs (X.env::X.outer))).get? b=some o:=fun b o z n=>PySem.W.hideAll_get _ z n
 have sub:∀b,b∈frs (X.env::X.outer)->b=X.env.locals\/b∈X.fs:=fun b hb=>by
  rw[<-hs]at hb;exact yat.mp (I.stkSub b hb)
 have fre:∀b,b∈frs (X.env::X.outer)->H b=none:=fun b hb=>by rw[<-hs]at hb;exact I.stkFree b hb
 have old:∀b o,X.s₀.heap.get? b=some o->b ∉ frs X.outer->b ∉ frs (X.env::X.outer):=fun b o z n hb=>by
  rcases sub b hb with r|r
  ·exact absurd (yai (yao z) I.ok.above) (by rw[r];exact yaR _)
  ·exact n r
 have nx:∀b:Addr,b ∉ X.ex:=fun b z=>by rw[hx]at z;cases z
 have trk:∀b o,s.heap.get? b=some o->H b≠none->h2.get? b=some o:=fun b o z n=>fl.1 b o (inB b o z fun hb=>n (fre b hb))
 have hok2:HOk X.prog X.w H h2:=I.hok.same trk
 have slt:∀b o,s.heap.get? b=some o->b∈frs X.stack->∃sl,h2.get? b=some {o with slots:=sl}:=fun b o z hb=>by
  obtain⟨_,o',z',hd⟩:=I.stack.mem hb;rw[z]at z';cases z';exact up b o (mk.keeps b o z) hd
 have un2:Un (frs X.stack) [] H H s.heap h2:=⟨fun b o z n hb _=>fl.1 b o (inB b o z (by rw[<-hs];exact hb)),fun b o z n hb _=>slt b o z hb,fun b o z n _=>n,
  fun b o z _=>by
   by_cases hb:b∈frs X.stack
   ·obtain⟨sl,r⟩:=slt b o z hb;exact⟨_,r⟩
   ·exact⟨o,fl.1 b o (inB b o z (by rw[<-hs];exact hb))⟩,
  fun _ _ z=>z,fun _ _ _ z=>z,fun _ ps z=>⟨#[],by rw[z,Array.append_empty]⟩⟩
 have J:=I.call (g':=s.gens) (t':=s.toks) (d':=s.drawn) (ch:=[]) un2 hok2 I.bare (fun b z=>absurd z (by simp));refine⟨e,cls,.ref t,H,_,rfl,fl,fun b o z n=>?_,fun b o z n hb=>?_,fun b o z hb=>?_,J.os,J.bare,?_,J.hok,q⟩
 ·cases k:H b with
  |none=>exact absurd k n|some u=>
   obtain⟨o',z'⟩:=(I.hok b u k).has;have:=trk b o' z' n;rw[show h2.get? b=some o from z]at this;cases this;exact inB b o z' fun hb=>n (fre b hb)
 ·exact inB b o (I.base.keep b o z n hb (nx b)) (old b o z hb)
 ·obtain⟨o',z'⟩:=I.base.there b o z (nx b);exact⟨o',inB b o' z' (old b o z hb)⟩
 ·have:=J.base;rwa[hx]at this
def zjk(I:Inv X pins σ H s)(hx:X.ex=[])(hs:X.stack=X.env::X.outer)(hf:X.env.frame=some X.env.locals)(q:CXE X.prog X.w X.stack H s E e s'):
  wpAny M X.A (leaving X.env e) (fun _ s''=>CXE X.prog X.w X.outer X.H₀ X.s₀ E e s'') Er s':=by
 have hfr:X.A.frames=some (X.env::X.outer):=by rw[<-hs];exact I.ok.frames
 obtain⟨a,cls,a0,H',B,rfl,fl,c1,c2,c3,os,bare,un,hok,q⟩:=q
 have fl':Heap.FlyingW B (X.env::X.outer) a cls a0 s'.heap:=by rw[<-hs];exact fl
 refine wpAny_leaves_onW hfr hf fl' fun h2 fl2 up=>?_
 have sub:∀b,b∈frs X.stack->b=X.env.locals\/b∈X.fs:=fun b hb=>yat.mp (I.stkSub b hb)
 have old:∀b o,X.s₀.heap.get? b=some o->b ∉ frs X.outer->b ∉ frs X.stack:=fun b o z n hb=>by
  rcases sub b hb with r|r
  ·exact absurd (yai (yao z) I.ok.above) (by rw[r];exact yaR _)
  ·exact n r
 have nx:∀b:Addr,b ∉ X.ex:=fun b z=>by rw[hx]at z;cases z
 have trk:∀b o,s'.heap.get? b=some o->H' b≠none->h2.get? b=some o:=fun b o z n=>fl2.1 b o (c1 b o z n)
 have hok2:HOk X.prog X.w H' h2:=hok.same trk
 have slt:∀b o,s.heap.get? b=some o->H b=none->b∈frs X.stack->∃sl,h2.get? b=some {o with slots:=sl}:=fun b o z n hb=>by
  obtain⟨_,o',z',hd⟩:=I.stack.mem hb;rw[z]at z';cases z';obtain⟨sl,r⟩:=un.slot b o z n hb (by simp);obtain⟨sl',r'⟩:=up b ({o with slots:=sl}:Obj) r hd;exact⟨sl',r'⟩
 have un2:Un (frs X.stack) [] H H' s.heap h2:=⟨fun b o z n hb _=>fl2.1 b o (c2 b o z n hb),fun b o z n hb _=>slt b o z n hb,un.free,
  fun b o z _=>by
   by_cases hb:b∈frs X.stack
   ·obtain⟨sl,r⟩:=slt b o z (I.stkFree b hb) hb;exact⟨_,r⟩
   ·obtain⟨o',r⟩:=c3 b o z hb
    exact⟨o',fl2.1 b o' r⟩,
  un.tups,un.frzs,un.tbls⟩
 have J:=I.call (g':=s'.gens) (t':=s'.toks) (d':=s'.drawn) (ch:=[]) un2 hok2 bare (fun b z=>absurd z (by simp));refine⟨a,cls,a0,H',B,rfl,fl2,fun b o z n=>?_,fun b o z n hb=>?_,fun b o z hb=>?_,os.trans I.os,bare,?_,J.hok,q⟩
 ·cases k:H' b with
  |none=>exact absurd k n|some u=>
   obtain⟨o',z'⟩:=(hok b u k).has;have:=trk b o' z' n;rw[show h2.get? b=some o from z]at this;cases this;exact c1 b o z' n
 ·exact c2 b o (I.base.keep b o z n hb (nx b)) (I.base.free b o z n (nx b)) (old b o z hb)
 ·obtain⟨o',z'⟩:=I.base.there b o z (nx b);exact c3 b o' z' (old b o z hb)
 ·have:=J.base;rwa[hx]at this
end
def zsy{P:Program}{K:PySem.W.Frag}:
  zpd (CXE P w) (ziu (CXE P w) P w K mg base N qual scope f cd A outer s H E) E:=fun pins σ H1 s1 e s' I q=>
 zjk (X:=ziu (CXE P w) P w K mg base N qual scope f cd A outer s H E) I rfl rfl rfl q
def zim{K:PySem.W.Frag}{h:Heap}(k:K.In h)(z:PySem.W.excIn K C bmB nid=true):
  ∃bm N nm qn bs hd sn sub ab col dd c0 c1 c2 c3 c5 mN,h.get? C=some (excClassObj nm qn C N bs bm hd sn sub ab col dd c0 c1 c2 c3 c5 nid)/\h.Ns N mN/\mN "__init__"=none/\OwnTail h bmB bm:=by
 unfold PySem.W.excIn at z;split at z
 case h_2=>cases z
 case h_1 dd cd sl ho=>
  split at z
  case h_2=>cases z
  case h_1 D bm c0 c1 c2 c3 n c5 e1 e2=>
   simp only[yaa,yby,yaG]at z;obtain⟨⟨⟨⟨⟨z1,z2⟩,z3⟩,z4⟩,z5⟩,z6⟩:=z;subst z1 z2
   have hsl:sl=#[c0,c1,c2,c3,some (.builtin n),c5]:=by
    cases sl with
    |mk l=>exact congrArg Array.mk e2
   have hcd:cd={cd with mro:=.ref D::bm,hasDel:=false}:=by
    cases cd;simp only at e1 z3;simp only[e1,z3]
   rw[hsl,hcd]at ho;exact⟨bm,cd.ns,cd.name,_,cd.bases,_,_,_,_,_,dd,c0,c1,c2,c3,c5,_,k _ _ ho,.of_isNs (PySem.W.isNs_of_in k z5),PySem.W.nsMap_none_of_in k z5 z6,PySem.W.tail_of_in k z4⟩
noncomputable def zub(X:Cx)(E:XK):Prop:=∀(C:Addr) (pins:Z3) (σ:St) (H:Hp) (s:Shared) (e:Addr) (h':Heap) (vs:List Value),Inv X pins σ H s->Heap.MadeExcOf s.heap h' e (.ref C) vs->E (.ref C) none H->X.xe (.ref e) {s with heap:=h'}
def zlf{P:Program}{K:PySem.W.Frag}:
  zub (ziu (CXE P w) P w K mg base N qual scope f cd A outer s H E) E:=fun C pins σ H1 s1 e h' vs I mk q=>
 zjZ (X:=ziu (CXE P w) P w K mg base N qual scope f cd A outer s H E) I rfl rfl rfl mk q
noncomputable def XP(X:Cx)(pins:Z3)(σ:St)(E:XK)(e:Value)(s':Shared):Prop:=∃H1 s1,Inv X pins σ H1 s1/\CXE X.prog X.w X.stack H1 s1 E e s'
noncomputable abbrev TX:=St->Hp->VK->XK->Prop
def zgr{M:Model}{A:Around}{E:Z5}{K:PySem.W.Frag}{s:Shared}{C D e:Addr}{oe:Obj}{bC bD:List Value}{iC iD:String}{Q:Bool->Shared->Prop}(k:K.In s.heap)(zC:PySem.W.excIn K C bC iC=true)(zD:PySem.W.excIn K D bD iD=true)
  (he:s.heap.get? e=some oe) (hc:oe.cls=.ref C) (hb:bD.contains (.type "BaseException")=true) (up:∃cd d cl sl,K.lookup C=some ⟨cl,d,.cls cd,sl⟩/\cd.mro.contains (.ref D)=true) (q:Q true s):wpAny M A (excMatches (.ref e) (.ref D)) Q E s:=by
 obtain⟨bm,N,nm,qn,bs,hd,sn,sub,ab,col,dd,c0,c1,c2,c3,c5,mN,o1,o2,o3,o4⟩:=zim k zC;obtain⟨bm',N',nm',qn',bs',hd',sn',sub',ab',col',dd',d0,d1,d2,d3,d5,mN',p1,p2,p3,p4⟩:=zim k zD;obtain⟨cd,d,cl,sl,lk,ct⟩:=up;have o1':=k _ _ lk;rw[o1]at o1';have hcd:=congrArg Obj.data (Option.some.inj o1')
 have hcC:(Value.ref C::bm).contains (.ref D)=true:=by
  injection hcd with h
  rwa[<-h]at ct
 have hcB:(Value.ref D::bm').contains (.type "BaseException")=true:=by rw[ycg,p4.hasType hb,Bool.or_true]
 have f:=tc_notTuple;obtain⟨h,g,dr,t,os⟩:=s;unfold excMatches
 repeat (first|(with_reducible refine ybd he ?_;rw[hc])|with_reducible refine ybd p1 ?_|(with_reducible refine wpAny_isSubtype_exc p1 ?_;rw[hcB])|(with_reducible refine wpAny_isSubtype_exc o1 ?_;rw[hcC])|wp_step)
 exact q
section
variable{X:Cx}{pins:Z3}{σ:St}{H:Hp}{s:Shared}
def zqZ{M:Model}{A:Around}{E:Z5}{i:Nat}{x:Str}{Q:Unit->Shared->Prop}(I:Inv X pins σ H s)(hN:X.N.Nodup)(hi:X.N[i]?=some x)(hk:X.env.scope.names.lookup x=some .local)(hv:∃v,σ[i]?=some (some v))
  (h:∀s',Inv X pins (σ.set i none) H s'->Q () s'):wpAny M A (unbindName X.env x) Q E s:=by
 obtain⟨m,hn,hl⟩:=id I.loc
 have hcls:(X.env.scope.kind==.class||(X.env.scope.kind==.module&&X.env.locals != X.env.globals))=false:=by rw[I.ok.kind];rfl
 obtain⟨v,hv⟩:=hv;obtain⟨u,r,lk⟩:=hl i x v hi hv (.inl hk)
 have hm:m x=some u:=by
  rcases lk with⟨_,z⟩|⟨z,_⟩
  ·exact z
  ·have z:X.env.scope.names.lookup x=some .cell\/X.env.scope.names.lookup x=some .free:=z;rw[hk]at z
   rcases z with z|z<;>cases z
 refine wpAny_unbindName_local hk hn hm hcls fun h' u' hn' hs=>h _ ?_
 have far:∀b o,X.s₀.heap.get? b=some o->b≠X.env.locals:=fun b o z=>yay (yai (yao z) I.ok.above)
 refine⟨I.ok,I.os,I.bare,⟨?_,?_,I.base.free,?_,I.base.tups,I.base.frzs,I.base.tbls⟩,⟨_,hn',?_⟩,?_,I.free,I.freeC,?_,?_,by simpa using I.len⟩
 ·exact fun b o z n hb hx=>(hs.2 b (far b o z)).trans (I.base.keep b o z n hb hx)
 ·exact fun b o z n hb hx=>let ⟨sl,z1⟩:=I.base.slot b o z n hb hx;⟨sl,(hs.2 b (far b o z)).trans z1⟩
 ·exact fun b o z hx=>let ⟨o',z1⟩:=I.base.there b o z hx;⟨o',(hs.2 b (far b o z)).trans z1⟩
 ·intro j y w e1 e2 e3
  have hj:j≠i:=fun z=>by
   subst z;have l1:j<σ.length:=(yan.mp hv).1;rw[yaC l1]at e2;cases e2
  rw[yaQ (Ne.symm hj)]at e2;obtain⟨u1,r1,q⟩:=hl j y w e1 e2 e3;refine⟨u1,r1,?_⟩
  rcases q with⟨k1,z⟩|⟨k1,c,z,z1⟩
  ·have ny:y≠x:=fun e=>hj (zgo hN e1 (e ▸ hi))
   exact .inl ⟨k1,by simp[ny,z]⟩
  ·exact .inr ⟨k1,c,z,z1.sameBut hs (I.cne y c z)⟩
 ·exact fun y c z=>let ⟨w,z1⟩:=I.cell y c z;⟨w,z1.sameBut hs (I.cne y c z)⟩
 ·exact fun p hp=>let ⟨z,n,ne,nf,d⟩:=I.pin p hp;⟨(hs.2 p.1 ne).trans z,n,ne,nf,d⟩
 ·exact I.hok.same fun b o z n=>(hs.2 b fun e=>n (by rw[e];exact I.free)).trans z
def zgy{M:Model}{A:Around}{E:Z5}{i:Nat}{x:Str}{pos:Pos}{Q:Unit->Shared->Prop}(I:Inv X pins σ H s)(hN:X.N.Nodup)(hi:X.N[i]?=some x)(hk:X.env.scope.names.lookup x=some .local)
  (h:∀s',Inv X pins (σ.set i none) H s'->Q () s'):wpAny M A (do bindName X.env x .none;unbindBehindTheSuite X.env x pos) Q E s:=by
 refine yac (wpAny_bindName (zdq (v:=.non) I hN hi (.inl hk) rfl (fun s2 I2=>?_) (.inr hk)));unfold unbindBehindTheSuite;refine wpAny_onRaise ?_
 have l1:i<σ.length:=by rw[I.len];exact(yan.mp hi).1
 refine zqZ I2 hN hi hk ⟨.non,yaC l1⟩ fun s3 I3=>h s3 ?_
 rwa[List.set_set]at I3
end
section
variable{X:Cx}{pins:Z3}{σ:St}{H H':Hp}{s s':Shared}{B h2:Heap}{a:Addr}{cls a0:Value}
noncomputable abbrev Cx.inH(X:Cx)(a:Addr):Cx:={X with A:=X.A.mark (some (.ref a)),calm:=false,xe:=fun _ _=>False}
theorem Inv.inH(I:Inv X pins σ H s)(a:Addr):Inv (X.inH a) pins σ H s:=
 ⟨⟨I.ok.mod,I.ok.kind,I.ok.glob,I.ok.blt,I.ok.above,I.ok.inj,I.ok.has,I.ok.cab,(fun z=>nomatch z),I.ok.frames,I.ok.stk,I.ok.exf,I.ok.bs,I.ok.bsz,I.ok.noex,I.ok.exfs,I.ok.funs,I.ok.frf⟩,I.os,I.bare,I.base,I.loc,I.cell,I.free,I.freeC,I.pin,I.hok,I.len⟩
def Inv.outH(J:X.Ok)(I:Inv (X.inH a) pins σ H s):Inv X pins σ H s:=⟨J,I.os,I.bare,I.base,I.loc,I.cell,I.free,I.freeC,I.pin,I.hok,I.len⟩
def zf6(I:Inv X pins σ H s)(fl:Heap.FlyingW B X.stack a cls a0 h2)(up:s'.heap.UpToSlots h2)(c1:∀b o,s'.heap.get? b=some o->H' b≠none->B.get? b=some o)
  (c2:∀b o,s.heap.get? b=some o->H b=none->b ∉ frs X.stack->B.get? b=some o) (c3:∀b o,s.heap.get? b=some o->b ∉ frs X.stack->∃o',B.get? b=some o')
  (os:s'.os=s.os) (bare:AllBare s'.gens) (un:Un (frs X.stack) [] H H' s.heap s'.heap) (hok:HOk X.prog X.w H' s'.heap):
  Inv X pins σ H' {s' with heap:=h2}/\∃ob,ob.cls=cls/\h2.get? a=some ob/\H' a=none/\Inv X pins σ (upd H' a (.frz ob (.own a))) {s' with heap:=h2}:=by
 have trk:∀b o,s'.heap.get? b=some o->H' b≠none->h2.get? b=some o:=fun b o z n=>fl.1 b o (c1 b o z n)
 have hok2:HOk X.prog X.w H' h2:=hok.same trk
 have slt:∀b o,s.heap.get? b=some o->H b=none->b∈frs X.stack->∃sl,h2.get? b=some {o with slots:=sl}:=fun b o z n hb=>by
  obtain⟨_,o',z',hd⟩:=I.stack.mem hb;rw[z]at z';cases z';obtain⟨sl,r⟩:=un.slot b o z n hb (by simp);obtain⟨sl',r'⟩:=up b ({o with slots:=sl}:Obj) r hd;exact⟨sl',r'⟩
 have th:∀b o,s.heap.get? b=some o->b ∉ ([]:List Addr)->∃o',h2.get? b=some o':=fun b o z _=>by
  by_cases hb:b∈frs X.stack
  ·obtain⟨sl,r⟩:=slt b o z (I.stkFree b hb) hb;exact⟨_,r⟩
  ·obtain⟨o',r⟩:=c3 b o z hb;exact⟨o',fl.1 b o' r⟩
 have un2:Un (frs X.stack) [] H H' s.heap h2:=⟨fun b o z n hb _=>fl.1 b o (c2 b o z n hb),fun b o z n hb _=>slt b o z n hb,un.free,th,un.tups,un.frzs,un.tbls⟩;refine⟨I.call' (s':={s' with heap:=h2}) (ch:=[]) os un2 hok2 bare (fun b z=>absurd z (by simp)),?_⟩;obtain⟨oe,vs,he,hc,hd,_⟩:=fl.first
 have na:H' a=none:=by
  cases k:H' a with
  |none=>rfl|some u=>
   obtain⟨o',z'⟩:=(hok a u k).has;have:=c1 a o' z' (by rw[k];exact yaF _);rw[fl.2.1]at this;cases this
 have ns:∀o,s.heap.get? a=some o->False:=fun o z=>by
  by_cases hb:a∈frs X.stack
  ·obtain⟨_,o',z',hd'⟩:=fl.2.2.1.mem hb;rw[he]at z';cases z';exact hd' _ hd
  ·obtain⟨o',r⟩:=c3 a o z hb;rw[fl.2.1]at r;cases r
 have ne:∀{b:Addr}{u:HO},H' b=some u->b≠a:=fun {b u} z e=>by rw[e,na]at z;cases z
 refine⟨oe,hc,he,na,I.call' (s':={s' with heap:=h2}) (ch:=[]) os ⟨un2.keep,un2.slot,fun b o z n hx=>?_,th,fun b xs z=>?_,fun b o u z=>?_,fun b ps z=>?_⟩ (fun b u z=>?_) bare (fun b z=>absurd z (by simp))⟩
 ·rw[zaf (a:=a) (b:=b) fun e=>ns o (by rw[<-e];exact z)];exact un.free b o z n hx
 ·have:=un.tups b xs z;rw[zaf (ne this)];exact this
 ·have:=un.frzs b o u z;rw[zaf (ne this)];exact this
 ·obtain⟨more,this⟩:=un.tbls b ps z;exact⟨more,by rw[zaf (ne this)];exact this⟩
 ·by_cases e:b=a
  ·subst e;unfold upd at z;rw[if_pos rfl]at z;cases z;exact⟨he,oe,he⟩
  ·rw[zaf e]at z;exact(hok2 b u z).stay (fun _ _ _ q=>q) (fun c q=>by rw[zaf (ne q)];exact q) (fun c xs q=>by rw[zaf (ne q)];exact q)
end
noncomputable def zrk(K:PySem.W.Frag)(C D:Addr):Prop:=(∃bC iC,PySem.W.excIn K C bC iC=true)/\∃cd d cl sl,K.lookup C=some ⟨cl,d,.cls cd,sl⟩/\cd.mro.contains (.ref D)=true
noncomputable def Ends.goes(D:Ends)(i:Nat):Ends:={nx:=fun σ H=>D.nx (σ.set i none) H,rt:=D.rt,bk:=fun σ H=>D.bk (σ.set i none) H,ct:=fun σ H=>D.ct (σ.set i none) H}
def zpK{X:Cx}{a:Addr}{pins:Z3}{D:Ends}{i:Nat}{n:Str}{pos:Pos}{f:Flow}{s:Shared}{E:Z5}(J:X.Ok)(hN:X.N.Nodup)(hi:X.N[i]?=some n)(hk:X.env.scope.names.lookup n=some .local)(h:SP (X.inH a) pins (D.goes i) f s):
  wpAny (model X.prog X.w) X.A (do bindName X.env n .none;unbindBehindTheSuite X.env n pos) (fun _ s3=>SP X pins D f s3) E s:=by
 cases f with
 |next=>
  obtain⟨σ',H',I,q⟩:=h;exact zgy (I.outH J) hN hi hk fun s' I'=>⟨_,H',I',q⟩
 |brk=>
  obtain⟨σ',H',I,q⟩:=h;exact zgy (I.outH J) hN hi hk fun s' I'=>⟨_,H',I',q⟩
 |cont=>
  obtain⟨σ',H',I,q⟩:=h;exact zgy (I.outH J) hN hi hk fun s' I'=>⟨_,H',I',q⟩
 |ret u=>
  obtain⟨v,σ',H',I,r,q⟩:=h;exact zgy (I.outH J) hN hi hk fun s' I'=>⟨v,_,H',I',r,q⟩
end L2
namespace PySem.W
open PySem
structure ExcCls(K:Frag)(C:Addr):Prop where
 ga:findIn K (.ref C) "__getattribute__"=some (some (.builtin "BaseException.__getattribute__"))
 gt:findIn K (.ref C) "__getattr__"=some none
 cl:findIn K (.ref C) "__class__"=some (some (.builtin "object.__class__"))
 ob:subIn K (.ref C) (.type "object")=some true
 be:subIn K (.ref C) (.type "BaseException")=some true
 is:∃c d cd sl,K.lookup C=some ⟨c,d,.cls cd,sl⟩
section
variable{prog:Program}{w:World}{A:Around}{E:Z5}{h:Heap}{g:Array GenState}{d:Drawn}{t:Nat}{os:OsState}{a C:Addr}{o:Obj}{K:Frag}
theorem zgE{R:Result->Shared->Prop}(k:K.In h)(X:ExcCls K C)(hx:h.get? a=some o)(hc:o.cls=.ref C)(hq:R (.ok (.ret (.ref C))) ⟨h,g,d,t,os⟩):
  codeAny (model prog w) A (.call (.builtin "getset_descriptor.__get__") ⟨[.builtin "object.__class__",.ref a,.ref C],[]⟩) R ⟨h,g,d,t,os⟩:=by
 have isGs:Shared.TypeIs ⟨h,g,d,t,os⟩ (.builtin "object.__class__") "getset_descriptor":=ycA
 have f8:subIn K (.ref C) (.type (".".intercalate ("object.__class__".cutAt '.').dropLast))=some true:=by rw[F.owner_object_class];exact X.ob
 refine ycG F.slot_gs_get.plain F.entry_gs_get ?_;refine F.slot_gs_get.check _ _ _ _ _ _ _ _ isGs (F.args_gs_get _ _ _) ?_
 repeat (any_goals (first|assumption|(with_reducible refine ybd hx ?_;rw[hc])|with_reducible refine Looks.at (looks_subIn k f8) ?_|wp_step))
 refine And.intro (Code.quiet_builtin _ (by decide +kernel)) ?_;refine ybI F.entry_object_class ?_
 repeat (any_goals (first|assumption|(with_reducible refine ybd hx ?_;rw[hc])|wp_step))
def zfq{tk:Tok}{Q:Fin->Shared->Prop}(k:K.In h)(X:ExcCls K C)(hx:h.get? a=some o)(hc:o.cls=.ref C)(hq:Q (.done (.ret (.ref C))) ⟨h,g,d,t,os⟩):
  wpAny (model prog w) A (Builtin.«object.__getattribute__» {pos:=[.ref a,.str "__class__" tk],kw:=[]}) Q E ⟨h,g,d,t,os⟩:=by
 have isGs:Shared.TypeIs ⟨h,g,d,t,os⟩ (.builtin "object.__class__") "getset_descriptor":=ycA;have known:=And.intro ycA (And.intro F.slot_gs_get.lookup F.slot_gs_set.lookup);obtain⟨p5,p6,p7⟩:=known
 repeat (any_goals (first|assumption|(with_reducible refine ybd hx ?_;rw[hc])|with_reducible refine Looks.at (looks_findIn k X.cl) ?_|wp_step))
 refine zgE k X hx hc ?_
 repeat any_goals first|assumption|wp_step
end
section
variable{prog:Program}{w:World}{A:Around}{E:Z5}{h:Heap}{g:Array GenState}{d:Drawn}{t:Nat}{os:OsState}{a C:Addr}{o:Obj}{K:Frag}
theorem zfr{M:Model}{nameV:Value}{Q:Unit->Shared->Prop}(k:K.In h)(X:ExcCls K C)(hx:h.get? a=some o)(hc:o.cls=.ref C)(hq:Q () ⟨h,g,d,t,os⟩):
  wpAny M A (checkBuiltinCall "BaseException.__getattribute__" ⟨[.ref a,nameV],[]⟩) Q E ⟨h,g,d,t,os⟩:=by
 have k1:builtinKind "BaseException.__getattribute__"=some .slot:=by decide +kernel
 have k2:splitId "BaseException.__getattribute__"=some ("BaseException","__getattribute__"):=by decide +kernel
 have fits:=F.args_bexc_ga (.ref a) nameV;simp only[checkBuiltinCall,k1,k2];refine yac ?_;unfold isInstance
 repeat (first|(with_reducible refine ybd hx ?_;rw[hc])|with_reducible refine Looks.at (looks_subIn k X.be) ?_|wp_step)
 exact hq
def zfH{tk:Tok}{R:Result->Shared->Prop}(k:K.In h)(X:ExcCls K C)(hx:h.get? a=some o)(hc:o.cls=.ref C)(hq:R (.ok (.ret (.ref C))) ⟨h,g,d,t,os⟩):
  codeAny (model prog w) A (.call (.builtin "BaseException.__getattribute__") ⟨[.ref a,.str "__class__" tk],[]⟩) R ⟨h,g,d,t,os⟩:=
 ycG F.attr_ValueError.ga.plain F.entry_bexc_ga (zfr k X hx hc (zfq k X hx hc hq))
theorem zhC{tk:Tok}{fill expr:Bool}{Q:Z5}(k:K.In h)(X:ExcCls K C)(hx:h.get? a=some o)(hc:o.cls=.ref C)(hq:Q (.ref C) ⟨h,g,d,t,os⟩):
  wpAny (model prog w) A (getAttrBy (.ref a) (.str "__class__" tk) fill expr) Q E ⟨h,g,d,t,os⟩:=by
 have f3:=F.attr_ValueError.ga.bind (.ref a)
 have n0:(expr&&onTheHeap (Value.builtin "BaseException.__getattribute__"))=false:=by cases expr<;>rfl
 have n2:(Value.builtin "BaseException.__getattribute__"==Value.builtin "object.__getattribute__")=false:=by decide +kernel
 have n1:(onTheHeap (Value.ref C)&&Value.builtin "BaseException.__getattribute__"==Value.builtin "object.__getattribute__")=false:=by rw[n2];rfl
 repeat (any_goals (first|assumption|(with_reducible refine ybd hx ?_;rw[hc])|with_reducible refine Looks.at (looks_findIn k X.ga) ?_|with_reducible refine Looks.at (looks_findIn k X.gt) ?_|wp_step))
 refine zfH k X hx hc ?_
 repeat any_goals first|assumption|wp_step
def zfI{Q:Option Value->Shared->Prop}(k:K.In h)(X:ExcCls K C)(hx:h.get? a=some o)(hc:o.cls=.ref C)(hq:Q (some (.ref C)) ⟨h,g,d,t+1,os⟩):wpAny (model prog w) A (getAttr? (.ref a) "__class__") Q E ⟨h,g,d,t,os⟩:=by
 unfold getAttr? getAttrBy?
 repeat (any_goals (first|assumption|with_reducible apply zhC k X hx hc|wp_step))
end
def znO{K:Frag}{a C:Addr}(X:ExcCls K C):KitX K (.ref a) (.ref C) (fun h=>∃o,h.get? a=some o/\o.cls=.ref C)where
 ty:=fun M h _ p=>by
  obtain⟨o,h1,h2⟩:=p;rw[<-h2];exact Looks.andThen (Looks.ld h1) .now
 it:=fun _ _ k _=>by
  obtain⟨c,d,cd,sl,lk⟩:=X.is;intro A' Q' E' s' kk q;unfold isType loadHead;exact yac (wpAny_loadPart (kk _ _ (k _ _ lk)) (yap q))
 ne:=fun h tp dd its n sl k htp=>by
  obtain⟨c,d,cd,sl',lk⟩:=X.is;refine Bool.eq_false_iff.mpr fun q=>?_
  have e:C=tp:=Value.ref.inj (yby.mp q);have z:=k _ _ lk;rw[e,htp]at z;cases z
 ca:=fun {_ _ _ _ _ s} k p q=>by
  obtain⟨o,h1,h2⟩:=p;obtain⟨h,g,d,t,os⟩:=s;exact zfI k X h1 h2 q
end PySem.W
namespace L2
open PySem PySem.Spec PyProof.Rows
def zkb{X:Cx}:zdS X (.builtin "isinstance") (fun xs H Q=>∃(a C:Addr) (ob:Obj) (c:V) (cv:Value) (k:Bool),xs=[.ref a,c]/\H a=some (.frz ob (.own a))/\ob.cls=.ref C/\PySem.W.ExcCls X.K C/\(∀u,zaV c u->u=cv)/\PySem.W.kitOne X.K (.ref C) cv=some k/\Q (.bl k) H):=by
 intro pins s σ H xs us Q I r h;obtain⟨a,C,ob,c,cv,k,rfl,ha,hc,Z,hv,e,q⟩:=h
 cases r with
 |cons r1 rr=>
  cases rr with
  |cons r2 r3=>
   cases r3;cases (show _=Value.ref a from r1);rw[hv _ r2];obtain⟨h1,_⟩:=(show za3 X.prog X.w H s.heap a (.frz ob (.own a))from I.hok a _ ha);exact yaW (PySem.W.znO Z) I.kIn ⟨ob,h1,hc⟩ e (fun z=>nomatch z) fun tk=>⟨.bl k,H,I.tok tk,rfl,q⟩
open PySem PySem.Spec PyProof.Rows PySem.SeqAt
end L2
namespace S2
open PySem PySem.Spec PyProof.Rows L2
mutual
noncomputable def D.py:D->PyData
 |.non=>.none|.bl b=>.bool b|.int i=>.int i|.str x=>.str x|.tup l=>.tuple (D.pys l)|.lst l=>.list (D.pys l)|.scr l=>.list (l.map PyData.int)|.dic _=>.none|.ref _=>.none|.exc _=>.none
noncomputable def D.pys:List D->List PyData
 |[]=>[]|d::l=>d.py::D.pys l
end
mutual
noncomputable def D.fit:Nat->D->Bool
 |_,.non=>true|_,.bl _=>true|_,.int _=>true|_,.str x=>PyData.strOk x|0,.tup _=>false|n+1,.tup l=>D.fits n l|0,.lst _=>false|n+1,.lst l=>D.fits n l|0,.scr _=>false|_+1,.scr _=>true|_,.dic _=>false|_,.ref _=>false|_,.exc _=>false
noncomputable def D.fits:Nat->List D->Bool
 |_,[]=>true|n,d::l=>d.fit n&&D.fits n l
end
theorem D.fits_iff:∀{l:List D},D.fits n l=true↔∀d∈l,d.fit n=true
 |[]=>by simp[D.fits]
 |d::l=>by simp[D.fits,D.fits_iff (l:=l)]
theorem zjr:∀(l:List Int),PyData.canLayAll0 (l.map PyData.int)=true/\PyData.depthAll (l.map PyData.int)=0
 |[]=>⟨rfl,rfl⟩|i::l=>by
  obtain⟨a,b⟩:=zjr l;exact⟨by simp[PyData.canLayAll0,PyData.canLay0,a],by simp[PyData.depthAll,PyData.depth,b]⟩
mutual
theorem D.lay:∀{n:Nat}{d:D},d.fit n=true->d.py.canLay0=true/\d.py.depth<=n
 |_,.non,_=>⟨rfl,yaM _⟩|_,.bl _,h=>⟨rfl,yaM _⟩|_,.int _,_=>⟨rfl,yaM _⟩|_,.str x,h=>⟨by simpa[D.fit,D.py,PyData.canLay0]using h,yaM _⟩
 |0,.tup _,h=>by simp[D.fit]at h
 |0,.lst _,h=>by simp[D.fit]at h
 |0,.scr _,h=>by simp[D.fit]at h
 |n+1,.scr l,h=>by
  obtain⟨a,b⟩:=zjr l;exact⟨by simpa[D.py,PyData.canLay0]using a,by simp only[D.py,PyData.depth];omega⟩
 |_,.dic _,h=>by simp[D.fit]at h
 |_,.ref _,h=>by simp[D.fit]at h
 |_,.exc _,h=>by simp[D.fit]at h
 |n+1,.tup l,h=>by
  have h':D.fits n l=true:=by simpa[D.fit]using h
  obtain⟨a,b⟩:=D.lays h';exact⟨by simpa[D.py,PyData.canLay0]using a,by simp only[D.py,PyData.depth];omega⟩
 |n+1,.lst l,h=>by
  have h':D.fits n l=true:=by simpa[D.fit]using h
  obtain⟨a,b⟩:=D.lays h';exact⟨by simpa[D.py,PyData.canLay0]using a,by simp only[D.py,PyData.depth];omega⟩
theorem D.lays:∀{n:Nat}{l:List D},D.fits n l=true->PyData.canLayAll0 (D.pys l)=true/\PyData.depthAll (D.pys l)<=n
 |_,[],_=>⟨rfl,yaM _⟩|n,d::l,h=>by
  simp only[D.fits,yaa]at h;obtain⟨a,b⟩:=D.lay h.1;obtain⟨c,e⟩:=D.lays h.2;exact⟨by simp[D.pys,PyData.canLayAll0,a,c],by simp only[D.pys,PyData.depthAll];omega⟩
end
section
variable{X:Cx}{cl:Cf}{w:Wd}
def TopV.lstI(h:TopV cl w v (.lst ds)):∃a xs,v=.ref a/\w.H a=some (.lst xs)/\Shds cl w xs ds:=by
 cases h with
 |sh h=>cases h with
  |lst e k r=>exact⟨_,_,rfl,e,r⟩
 |ow e t=>cases t with
  |lst r=>exact⟨_,_,rfl,e,r⟩
def TopV.tupI(h:TopV cl w v (.tup ds)):∃a xs,v=.ref a/\w.H a=some (.tup xs)/\w.ow a=none/\Shds cl w xs ds:=by
 cases h with
 |sh h=>cases h with
  |tup e k r=>exact⟨_,_,rfl,e,k,r⟩
 |ow e t=>cases t
def TopV.intI(h:TopV cl w v (.int i)):v=.int i:=by
 cases h with
 |sh h=>cases h;rfl|ow e t=>cases t
def TopV.strI(h:TopV cl w v (.str i)):v=.str i:=by
 cases h with
 |sh h=>cases h;rfl|ow e t=>cases t
def TopV.blI(h:TopV cl w v (.bl i)):v=.bl i:=by
 cases h with
 |sh h=>cases h;rfl|ow e t=>cases t
def TopV.nonI(h:TopV cl w v .non):v=.non:=by
 cases h with
 |sh h=>cases h;rfl|ow e t=>cases t
def Shd.scrI(hK:X.K=cl.K)(h:Shd cl w v (.scr l)):∃a,v=.ref a/\SqL X.K w.H a (l.map V.int):=by
 cases h with
 |scr e k=>exact⟨_,rfl,.inl (.inr ⟨_,e⟩)⟩|scrK h=>exact⟨_,rfl,by rw[hK];exact h _⟩
theorem TopV.scrI(hK:X.K=cl.K)(h:TopV cl w v (.scr l)):∃a,v=.ref a/\SqL X.K w.H a (l.map V.int):=by
 cases h with
 |sh h=>exact h.scrI hK|ow e t=>cases t
def zi7(I:Inv X pins σ w.H s)(hK:X.K=cl.K)(h:Shd cl w v (.scr l))(r:zaV v u):∃as,Reads s.heap u (D.scr l).py as:=by
  obtain⟨a,rfl,hq⟩:=h.scrI hK;cases r;obtain⟨its,rv,p,_⟩:=I.list hq;obtain⟨o,ho,hc,n,hd⟩:=id p.isList
  have go:∀{l:List Int}{us:List Value},Vals (l.map V.int) us->∃as,ReadsAll s.heap us (l.map PyData.int) as:=by
   intro l
   induction l with
   |nil=>intro us h;cases h;exact⟨_,.nil⟩|cons i l ih=>
    intro us h
    cases h with
    |cons h1 h2=>
     obtain⟨t,rfl⟩:=h1;obtain⟨as,ra⟩:=ih h2;exact⟨_,.cons (.int i t) ra⟩
  obtain⟨as,ra⟩:=go rv;exact⟨_,.list ho hc hd (by simpa using ra)⟩
def zn2{n:Nat}{l:List D}(h:(D.tup l).fit n=true):∃m,n=m+1:=by
 cases n with
 |zero=>simp[D.fit]at h|succ m=>exact⟨m,rfl⟩
def zn3{n:Nat}{l:List D}(h:(D.lst l).fit n=true):∃m,n=m+1:=by
 cases n with
 |zero=>simp[D.fit]at h|succ m=>exact⟨m,rfl⟩
mutual
theorem znb{pins:Z3}{σ:St}{s:Shared}(I:Inv X pins σ w.H s)(hK:X.K=cl.K):∀{v:V}{d:D}{n:Nat},Shd cl w v d->d.fit n=true->∀{u:Value},zaV v u->∃as,Reads s.heap u d.py as
 |_,_,_,.non,_,_,r=>by cases r;exact⟨_,.none⟩
 |_,_,_,.bl b,_,_,r=>by cases r;exact⟨_,.bool b⟩
 |_,_,_,.int i,_,_,r=>by obtain⟨t,rfl⟩:=r;exact⟨_,.int i t⟩
 |_,_,_,.str x,_,_,r=>by obtain⟨t,rfl⟩:=r;exact⟨_,.str x t⟩
 |_,_,n,.tup (a:=a) e _ rs,h,_,r=>by
  obtain⟨n,rfl⟩:=zn2 h;cases r;obtain⟨its,rv,p,_⟩:=I.tuple (SqT.of (K:=X.K) e);obtain⟨o,ho,hc,n,hd⟩:=id p;obtain⟨as,ra⟩:=zdG I hK rs (by simpa[D.fit]using h) rv;exact⟨_,.tuple ho hc hd (by simpa using ra)⟩
 |_,_,n,.lst (a:=a) e _ rs,h,_,r=>by
  obtain⟨n,rfl⟩:=zn3 h;cases r;obtain⟨its,rv,p,_⟩:=I.list (SqL.of (K:=X.K) e);obtain⟨o,ho,hc,n,hd⟩:=id p.isList;obtain⟨as,ra⟩:=zdG I hK rs (by simpa[D.fit]using h) rv;exact⟨_,.list ho hc hd (by simpa using ra)⟩
 |_,_,n,.scr e k,h,_,r=>zi7 I hK (.scr e k) r|_,_,n,.scrK e,h,_,r=>zi7 I hK (.scrK e) r|_,_,n,.dicK _ _ _,h,_,_=>by simp[D.fit]at h
 |_,_,n,.ref _,h,_,_=>by simp[D.fit]at h
 |_,_,n,.exc _ _ _,h,_,_=>by simp[D.fit]at h
theorem zdG{pins:Z3}{σ:St}{s:Shared}(I:Inv X pins σ w.H s)(hK:X.K=cl.K):∀{vs:List V}{ds:List D}{n:Nat},Shds cl w vs ds->D.fits n ds=true->∀{us:List Value},Vals vs us->∃as,ReadsAll s.heap us (D.pys ds) as
 |_,_,_,.nil,_,_,r=>by cases r;exact⟨_,.nil⟩
 |_,_,n,.cons h t,f,_,r=>by
  simp only[D.fits,yaa]at f
  cases r with
  |cons r1 r2=>
   obtain⟨as,a⟩:=znb I hK h f.1 r1;obtain⟨bs,b⟩:=zdG I hK t f.2 r2;exact⟨_,.cons a b⟩
end
def zhf(I:Inv X pins σ w.H s)(hK:X.K=cl.K)(h:TopV cl w v d)(f:d.fit n=true)(r:zaV v u):∃as,Reads s.heap u d.py as:=by
 cases h with
 |sh h=>exact znb I hK h f r|ow e t=>
  cases t with
  |lst rs=>
   cases n with
   |zero=>simp[D.fit]at f|succ n=>
    cases r;obtain⟨its,rv,p,_⟩:=I.list (SqL.of (K:=X.K) e);obtain⟨o,ho,hc,n,hd⟩:=id p.isList;obtain⟨as,ra⟩:=zdG I hK rs (by simpa[D.fit]using f) rv;exact⟨_,.list ho hc hd (by simpa using ra)⟩
  |dicK _=>simp[D.fit]at f
noncomputable def zeO(d e:D):Bool:=d.py.eqv e.py
noncomputable def zme(ds:List (D×D)):Bool:=ds.all fun p=>p.2.fit 8
def eqK(es:List (D×D)):List (D×D)->Bool
 |(.str k,d)::r=>(match zab k es with|some e=>zeO d e|none=>false)&&eqK es r
 |_=>true
def zmo(d e:D):Option Bool:=match d,e with|.dic ds,.dic es=>if zac ds&&zac es&&zme ds&&zme es then some (ds.length==es.length&&eqK es ds)else none|_,_=>none
def eqD(d e:D):Option D:=if d.fit 9&&e.fit 9 then some (.bl (zeO d e))else(zmo d e).map D.bl
def neD(d e:D):Option D:=if d.fit 9&&e.fit 9 then some (.bl (!zeO d e))else(zmo d e).map fun b=>D.bl (!b)
theorem zgB{k:Str}:∀{ds:List (D×D)}{d:D},zab k ds=some d->zme ds=true->d.fit 8=true
 |(.str x,e)::r,d,h,f=>by
  unfold zme at f;rw[ya3,yaa]at f;unfold zab at h;split at h
  ·cases h;exact f.1
  ·exact zgB h f.2
theorem zjl{A:Around}{pins:Z3}{σ:St}{s:Shared}(I:Inv X pins σ w.H s)(hK:X.K=cl.K)(hu:A.units+32<cLine){kb:List (Key×V)}{vb:List (Key×Value)}{es:List (D×D)}(rb:KV kb vb)(hb:ShdK cl w kb es)(ob:zac es=true)(fb:zme es=true):
  ∀{ka:List (Key×V)}{va:List (Key×Value)}{ds:List (D×D)},ShdK cl w ka ds->KV ka va->zac ds=true->zme ds=true->PySem.W.KeqHits A s vb va (eqK es ds)
 |_,_,_,.nil,.nil,_,_=>.nil|_,_,_,.consI _ _,_,o,_=>by cases o
 |_,_,_,.consS (x:=x) (v:=v) (d:=d) hd ht,.cons (b:=q) r t,o,f=>by
  unfold zac at o;rw[yaa]at o;unfold zme at f;rw[ya3,yaa]at f;have ih:=zjl I hK hu rb hb ob fb ht t o.2 f.2;obtain⟨qk,qv⟩:=q;obtain⟨e1,rv⟩:=r;dsimp only at e1 rv;subst e1;have hv:=rb.val (.inr x);show PySem.W.KeqHits A s vb _ ((match zab x es with|some e=>zeO d e|none=>false)&&eqK es _)
  rcases zch x hb ob with⟨h1,h2⟩|⟨v',d',h1,h2,h3⟩
  ·rw[h1]at hv;rw[h2]
   cases hz:valueAt vb (.inr x)with
   |none=>exact .miss hz|some y=>rw[hz]at hv;exact hv.elim
  ·rw[h1]at hv;rw[h2]
   cases hz:valueAt vb (.inr x)with
   |none=>rw[hz]at hv;exact hv.elim|some y=>
    rw[hz]at hv;obtain⟨as,ra⟩:=znb I hK hd f.1 rv;obtain⟨bs,rb'⟩:=znb I hK h3 (zgB h2 fb) hv;obtain⟨l1,d1⟩:=D.lay f.1;obtain⟨l2,d2⟩:=D.lay (zgB h2 fb);exact .hit hz (SeqAt.eqAt_reads _ _ A s _ _ as bs ra rb' l1 l2 (by omega)) ih
theorem zmn{pins:Z3}{σ:St}{s:Shared}{x y:V}{v u:Value}{d e:D}{b:Bool}(I:Inv X pins σ w.H s)(hK:X.K=cl.K)(hu:X.A.units+64<cLine)(hx:TopV cl w x d)(hy:TopV cl w y e)(rx:zaV x v)(ry:zaV y u)(h:zmo d e=some b):
  ∃(a c:Addr) (ka kc:List (Key×Value)) (r:Bool),v=.ref a/\u=.ref c/\(a==sysModules)=false/\(c==sysModules)=false/\s.heap.DictOf (zax X.prog X.w) a ka/\s.heap.DictOf (zax X.prog X.w) c kc/\PySem.W.KeqHits X.A.in1 s kc ka r/\b=(ka.length==kc.length&&r):=by
 unfold zmo at h;split at h
 ·rename_i ds es;split at h
  ·rename_i hc;simp only[yaa]at hc;cases h;obtain⟨a,ka,rfl,ea,ra⟩:=hx.dicI;obtain⟨c,kc,rfl,ec,rc⟩:=hy.dicI;cases rx;cases ry;obtain⟨_,z1,va,k1,d1⟩:=zfv I.hok ea;obtain⟨_,z2,vc,k2,d2⟩:=zfv I.hok ec;refine⟨a,c,va,vc,eqK es ds,rfl,rfl,z1,z2,d1,d2,zjl I hK (by simp[Around.in1];omega) k2 rc hc.1.1.2 hc.2 ra k1 hc.1.1.1 hc.1.2,?_⟩;rw[<-k1.length,<-k2.length,ra.length,rc.length]
  ·cases h
 ·cases h
theorem zvo(hK:X.K=cl.K)(hu:X.A.units+64<cLine):OpD X cl (compareOp .Eq) eqD:=by
 intro pins s σ H x y v u Q I rx ry h;obtain⟨w,d,e,r,rfl,hx,hy,hg,q⟩:=h;unfold eqD at hg;split at hg
 ·rename_i hf;cases hg;rw[yaa]at hf;obtain⟨as,ra⟩:=zhf I hK hx hf.1 rx;obtain⟨bs,rb⟩:=zhf I hK hy hf.2 ry;obtain⟨l1,d1⟩:=D.lay hf.1;obtain⟨l2,d2⟩:=D.lay hf.2;exact SeqAt.compareEq_reads ra rb l1 l2 (by omega) ⟨.bl _,w.H,I,rfl,q _ w (Grow.refl _) (.bl _)⟩
 ·obtain⟨b,hb,hg⟩:=yaD.mp hg;subst hg;obtain⟨a,c,ka,kc,r,rfl,rfl,z1,z2,d1,d2,hh,rfl⟩:=zmn I hK hu hx hy rx ry hb;exact PySem.W.keq_eq z1 z2 d1 d2 (by omega) (fun _=>hh) ⟨.bl _,w.H,I,rfl,q _ w (Grow.refl _) (.bl _)⟩
def zsJ(hK:X.K=cl.K)(hu:X.A.units+64<cLine):OpD X cl (compareOp .NotEq) neD:=by
 intro pins s σ H x y v u Q I rx ry h;obtain⟨w,d,e,r,rfl,hx,hy,hg,q⟩:=h;unfold neD at hg;split at hg
 ·rename_i hf;cases hg;rw[yaa]at hf;obtain⟨as,ra⟩:=zhf I hK hx hf.1 rx;obtain⟨bs,rb⟩:=zhf I hK hy hf.2 ry;obtain⟨l1,d1⟩:=D.lay hf.1;obtain⟨l2,d2⟩:=D.lay hf.2;exact SeqAt.compareNe_reads ra rb l1 l2 (by omega) ⟨.bl _,w.H,I,rfl,q _ w (Grow.refl _) (.bl _)⟩
 ·obtain⟨b,hb,hg⟩:=yaD.mp hg;subst hg;obtain⟨a,c,ka,kc,r,rfl,rfl,z1,z2,d1,d2,hh,rfl⟩:=zmn I hK hu hx hy rx ry hb;exact PySem.W.keq_ne z1 z2 d1 d2 (by omega) (fun _=>hh) ⟨.bl _,w.H,I,rfl,q _ w (Grow.refl _) (.bl _)⟩
noncomputable def zkU:D->Option (List D)|.lst l=>some l|.tup l=>some l|_=>none
noncomputable def zko(d:D)(l:List D):Bool:=l.any fun e=>zeO e d
def zrp(d e:D):Option Bool:=match d,e with|.str k,.dic ds=>if zac ds then some (zab k ds).isSome else none|_,_=>none
noncomputable def zwI(d e:D):Option Bool:=match d,e with|.str x,.str y=>some (!(Builtin.Str.occurrences y x 0 y.length 1).isEmpty)|_,_=>none
def inD(d e:D):Option D:=match zkU e with|some l=>if d.fit 8&&D.fits 8 l then some (.bl (zko d l))else none|none=>match zwI d e with|some b=>some (.bl b)|none=>(zrp d e).map D.bl
def zmK(d e:D):Option D:=match zkU e with|some l=>if d.fit 8&&D.fits 8 l then some (.bl (!zko d l))else none|none=>(zrp d e).map fun b=>D.bl (!b)
def zdD{s:Shared}{its:List Value}{d:D}(ra:ReadsAll s.heap its (D.pys ds) as)(f:D.fits 8 ds=true):(its.toArray.any fun y=>(SeqAt.readOf s.heap y).eqv d.py)=zko d ds:=by
 rw[SeqAt.any_by_data (vs:=its.toArray) (xs:=D.pys ds) (as:=as) (by simpa using ra) (D.lays f).1]
 have:∀{l:List D},((D.pys l).any fun y=>y.eqv d.py)=zko d l:=by
  intro l
  induction l with
  |nil=>rfl|cons e l ih=>
   show(e.py.eqv d.py||(D.pys l).any fun y=>y.eqv d.py)=(zeO e d||zko d l);rw[ih];rfl
 exact this
theorem zci{A:Around}{s:Shared}{d:D}(hu:A.units+64<cLine)(rx:Reads s.heap x d.py bs)(fd:d.fit 8=true):∀{its:List Value}{ds:List D}{as:List Addr},ReadsAll s.heap its (D.pys ds) as->D.fits 8 ds=true->∀y,y∈its.toArray->SeqAt.EqAt A.in1 s y x ((SeqAt.readOf s.heap y).eqv d.py)
 |[],[],_,_,_,y,hy=>by simp at hy
 |[],_::_,_,h,_,_,_=>by cases h
 |_::_,[],_,h,_,_,_=>by cases h
 |v::its,e::ds,_,h,f,y,hy=>by
  simp only[D.fits,yaa]at f
  cases h with
  |cons h1 h2=>
   simp at hy
   rcases hy with rfl|hy
   ·rw[zia (D.lay f.1).1 h1];refine SeqAt.eqAt_reads _ _ _ _ _ _ _ _ h1 rx (D.lay f.1).1 (D.lay fd).1 ?_;have:=(D.lay f.1).2;show A.units+1+_<cLine;omega
   ·exact zci hu rx fd h2 f.2 y (by simpa using hy)
def zkT(h:zkU e=some l):e=.lst l\/e=.tup l:=by
 cases e<;>simp[zkU]at h
 ·exact .inr (by rw[h])
 ·exact .inl (by rw[h])
def zoY{w:Wd}{x y:V}{d e:D}{b:Bool}(hx:TopV cl w x d)(hy:TopV cl w y e)(h:zrp d e=some b):∃a ov,y=.ref a/\zhZ w.H a x ov/\ov.isSome=b:=by
 unfold zrp at h;split at h
 ·rename_i k ds;split at h
  ·rename_i ho;cases h;obtain⟨a,kvs,rfl,ea,ra⟩:=hy.dicI;obtain rfl:=hx.strI;refine⟨a,_,rfl,.inl ⟨kvs,.inr k,ea,rfl,rfl⟩,?_⟩
   rcases zch k ra ho with⟨h1,h2⟩|⟨_,_,h1,h2,_⟩<;>rw[h1,h2]<;>rfl
  ·cases h
 ·cases h
theorem zvn(hK:X.K=cl.K)(hu:X.A.units+64<cLine):OpD X cl (compareOp .In) inD:=by
 intro pins s σ H x y v u Q I rx ry h;obtain⟨w,d,e,r,rfl,hx,hy,hg,q⟩:=h;unfold inD at hg;split at hg
 ·rename_i l hl;split at hg
  ·rename_i hf;cases hg;rw[yaa]at hf;obtain⟨bs,rb⟩:=zhf I hK hx hf.1 rx
   rcases zkT hl with rfl|rfl
   ·obtain⟨a,xs,rfl,e,rs⟩:=hy.lstI;cases ry;obtain⟨its,rv,p,_⟩:=I.list (SqL.of (K:=X.K) e);obtain⟨as,ra⟩:=zdG I hK rs hf.2 rv;refine SeqAt.in_listAt _ p.isList (zci hu rb hf.1 ra hf.2) ?_;rw[zdD ra hf.2];exact⟨.bl _,w.H,I,rfl,q _ w (Grow.refl _) (.bl _)⟩
   ·obtain⟨a,xs,rfl,e,_,rs⟩:=hy.tupI;cases ry;obtain⟨its,rv,p,_⟩:=I.tuple (SqT.of (K:=X.K) e);obtain⟨as,ra⟩:=zdG I hK rs hf.2 rv;refine SeqAt.in_tupleAt _ p (zci hu rb hf.1 ra hf.2) ?_;rw[zdD ra hf.2];exact⟨.bl _,w.H,I,rfl,q _ w (Grow.refl _) (.bl _)⟩
  ·cases hg
 split at hg
 ·rename_i b hb;cases hg;unfold zwI at hb;split at hb
  ·cases hb;obtain rfl:=hx.strI;obtain rfl:=hy.strI;exact zlt pins s σ w.H _ _ v u Q I rx ry ⟨_,_,rfl,rfl,q _ w (Grow.refl _) (.bl _)⟩
  ·cases hb
 ·obtain⟨b,hb,hg⟩:=yaD.mp hg;subst hg;obtain⟨a,ov,rfl,g,rfl⟩:=zoY hx hy hb;cases ry;exact zxr (by omega) I g rx fun s' I'=>⟨.bl _,w.H,I',rfl,q _ w (Grow.refl _) (.bl _)⟩
def zsI(hK:X.K=cl.K)(hu:X.A.units+64<cLine):OpD X cl (compareOp .NotIn) zmK:=by
 intro pins s σ H x y v u Q I rx ry h;obtain⟨w,d,e,r,rfl,hx,hy,hg,q⟩:=h;unfold zmK at hg;split at hg
 ·rename_i l hl;split at hg
  ·rename_i hf;cases hg;rw[yaa]at hf;obtain⟨bs,rb⟩:=zhf I hK hx hf.1 rx
   rcases zkT hl with rfl|rfl
   ·obtain⟨a,xs,rfl,e,rs⟩:=hy.lstI;cases ry;obtain⟨its,rv,p,_⟩:=I.list (SqL.of (K:=X.K) e);obtain⟨as,ra⟩:=zdG I hK rs hf.2 rv;refine SeqAt.notIn_listAt _ p.isList (zci hu rb hf.1 ra hf.2) ?_;rw[zdD ra hf.2];exact⟨.bl _,w.H,I,rfl,q _ w (Grow.refl _) (.bl _)⟩
   ·obtain⟨a,xs,rfl,e,_,rs⟩:=hy.tupI;cases ry;obtain⟨its,rv,p,_⟩:=I.tuple (SqT.of (K:=X.K) e);obtain⟨as,ra⟩:=zdG I hK rs hf.2 rv;refine SeqAt.notIn_tupleAt _ p (zci hu rb hf.1 ra hf.2) ?_;rw[zdD ra hf.2];exact⟨.bl _,w.H,I,rfl,q _ w (Grow.refl _) (.bl _)⟩
  ·cases hg
 ·obtain⟨b,hb,hg⟩:=yaD.mp hg;subst hg;obtain⟨a,ov,rfl,g,rfl⟩:=zoY hx hy hb;cases ry;exact zms (by omega) I g rx fun s' I'=>⟨.bl _,w.H,I',rfl,q _ w (Grow.refl _) (.bl _)⟩
def zbD:D->D->Option D
 |.int i,.int j=>some (.int (i+j))|.tup a,.tup b=>if zaD (a.length+b.length)then some (.tup (a++b))else none
 |.lst a,.lst b=>if zaD (a.length+b.length)then some (.lst (a++b))else none
 |.str a,.str b=>if zaD (a.length+b.length)then some (.str (a++b))else none
 |_,_=>none
def zoP:OpD X cl (binaryOp .Add) zbD:=by
 intro pins s σ H x y v u Q I rx ry h;obtain⟨w,d,e,r,rfl,hx,hy,hg,q⟩:=h;unfold zbD at hg;split at hg
 ·cases hg;rename_i i j;obtain rfl:=hx.intI;obtain rfl:=hy.intI;exact zsF pins s σ w.H _ _ v u Q I rx ry ⟨i,j,rfl,rfl,q _ w (Grow.refl _) (.int _)⟩
 ·rename_i a b;split at hg
  ·rename_i hz;cases hg;obtain⟨p,xs,rfl,ep,kp,rs⟩:=hx.tupI;obtain⟨p2,ys,rfl,ep2,kp2,rs2⟩:=hy.tupI
   by_cases hxe:xs=[]
   ·subst hxe;cases rs;exact znA pins s σ w.H _ _ v u Q I rx ry ⟨p,p2,ys,rfl,rfl,SqT.of ep,SqT.of ep2,q _ w (Grow.refl _) (.tup ep2 kp2 rs2)⟩
   ·refine zqt pins s σ w.H _ _ v u Q I rx ry ⟨p,p2,xs,ys,rfl,rfl,SqT.of ep,SqT.of ep2,hxe,by rw[rs.length,rs2.length];exact zaQ hz,fun z=>?_,fun z l hl=>?_⟩
    ·subst z;cases rs2;rw[yaP]at q;exact q _ w (Grow.refl _) (.tup ep kp rs)
    ·exact q _ (w.add l _) (zaB hl _) (Shd.newT hl (rs.append rs2))
  ·cases hg
 ·rename_i a b;split at hg
  ·rename_i hz;cases hg;obtain⟨p,xs,rfl,ep,rs⟩:=hx.lstI;obtain⟨p2,ys,rfl,ep2,rs2⟩:=hy.lstI;exact zsE pins s σ w.H _ _ v u Q I rx ry ⟨p,p2,xs,ys,rfl,rfl,ep,ep2,by rw[rs.length,rs2.length];exact zaQ hz,fun l hl=>q _ (w.add l _) (zaB hl _) (Shd.newL hl (rs.append rs2))⟩
  ·cases hg
 ·rename_i a b;split at hg
  ·rename_i hz;cases hg;obtain rfl:=hx.strI;obtain rfl:=hy.strI;exact zjW pins s σ w.H _ _ v u Q I rx ry ⟨a,b,rfl,rfl,zaQ hz,q _ w (Grow.refl _) (.str _)⟩
  ·cases hg
 ·cases hg
noncomputable def zbY(i:Int):Bool:=decide (-(2 ^ 64)<i/\i<2 ^ 64)
def zji:D->D->Option D
 |.int i,.int j=>if zbY i||zbY j then some (.int (i*j))else none
 |_,_=>none
theorem zsK:OpD X cl (binaryOp .Mult) zji:=by
 intro pins s σ H x y v u Q I rx ry h;obtain⟨w,d,e,r,rfl,hx,hy,hg,q⟩:=h;unfold zji at hg;split at hg
 ·rename_i i j;split at hg
  ·rename_i hz;cases hg;obtain rfl:=hx.intI;obtain rfl:=hy.intI;refine zsA pins s σ w.H _ _ v u Q I rx ry ⟨i,j,rfl,rfl,?_,q _ w (Grow.refl _) (.int _)⟩;rw[ych]at hz;exact hz.imp (fun z=>yaj z) fun z=>yaj z
  ·cases hg
 ·cases hg
noncomputable def zoS:D->D->Option D|.int i,.int j=>if 0<j then some (.int (i % j))else none|_,_=>none
noncomputable def ztJ:D->D->Option D|.int i,.int j=>if 0<j/\j<1073741824 then some (.int (i / j))else none|_,_=>none
def zsL:OpD X cl (binaryOp .Mod) zoS:=by
 intro pins s σ H x y v u Q I rx ry h;obtain⟨w,d,e,r,rfl,hx,hy,hg,q⟩:=h;unfold zoS at hg;split at hg
 ·rename_i i j;split at hg
  ·rename_i hz;cases hg;obtain rfl:=hx.intI;obtain rfl:=hy.intI;exact zsB pins s σ w.H _ _ v u Q I rx ry ⟨i,j,rfl,rfl,hz,q _ w (Grow.refl _) (.int _)⟩
  ·cases hg
 ·cases hg
def zsO:OpD X cl (binaryOp .FloorDiv) ztJ:=by
 intro pins s σ H x y v u Q I rx ry h;obtain⟨w,d,e,r,rfl,hx,hy,hg,q⟩:=h;unfold ztJ at hg;split at hg
 ·rename_i i j;split at hg
  ·rename_i hz;cases hg;obtain rfl:=hx.intI;obtain rfl:=hy.intI;exact zqs pins s σ w.H _ _ v u Q I rx ry ⟨i,j,rfl,rfl,hz,q _ w (Grow.refl _) (.int _)⟩
  ·cases hg
 ·cases hg
noncomputable def zqy:D->Option D|.int i=>some (.int (-i))|_=>none
def zrx:UnD X cl (unaryOp .USub) zqy:=by
 intro pins s σ H x v Q I rx h;obtain⟨w,d,r,rfl,hx,hg,q⟩:=h;unfold zqy at hg;split at hg
 ·cases hg;rename_i i;obtain rfl:=hx.intI;exact zrw pins s σ w.H _ v Q I rx ⟨i,rfl,q _ w (Grow.refl _) (.int _)⟩
 ·cases hg
noncomputable def ztS(p:Int->Int->Bool):D->D->Option D|.int i,.int j=>some (.bl (p i j))|_,_=>none
def zif(ho:OpR X (compareOp op) (rI0 fun i j=>.bl (p i j))):OpD X cl (compareOp op) (ztS p):=by
 intro pins s σ H x y v u Q I rx ry h;obtain⟨w,d,e,r,rfl,hx,hy,hg,q⟩:=h;unfold ztS at hg;split at hg
 ·cases hg;rename_i i j;obtain rfl:=hx.intI;obtain rfl:=hy.intI;exact ho pins s σ w.H _ _ v u Q I rx ry ⟨i,j,rfl,rfl,q _ w (Grow.refl _) (.bl _)⟩
 ·cases hg
noncomputable def zvx:D->D->Option D
 |.str a,.str b=>some (.bl (!decide (b.cps.toList<a.cps.toList)))|d,e=>ztS (fun i j=>decide (i<=j)) d e
def zsM:OpD X cl (compareOp .LtE) zvx:=by
 intro pins s σ H x y v u Q I rx ry h;obtain⟨w,d,e,r,rfl,hx,hy,hg,q⟩:=h;unfold zvx at hg;split at hg
 ·cases hg;rename_i a b;obtain rfl:=hx.strI;obtain rfl:=hy.strI;exact zsC pins s σ w.H _ _ v u Q I rx ry ⟨a,b,rfl,rfl,q _ w (Grow.refl _) (.bl _)⟩
 ·exact zif zvk pins s σ w.H _ _ v u Q I rx ry ⟨w,_,_,r,rfl,hx,hy,hg,q⟩
noncomputable def zek:D->Bool|.non=>true|_=>false
def zj2(d e:D):Option D:=if zek e then some (.bl (zek d))else none
def TopV.non_iff(h:TopV cl w v d):decide (v=.non)=zek d:=by
 cases h with
 |sh h=>cases h<;>simp[zek]|ow e t=>cases t<;>simp[zek]
def zhw(h:zek d=true):d=.non:=by cases d<;>simp[zek]at h;rfl
def zsN:OpD X cl (compareOp .Is) zj2:=by
 intro pins s σ H x y v u Q I rx ry h;obtain⟨w,d,e,r,rfl,hx,hy,hg,q⟩:=h;unfold zj2 at hg;split at hg
 ·rename_i hz;cases hg;rw[zhw hz]at hy;obtain rfl:=hy.nonI;refine zsD pins s σ w.H _ _ v u Q I rx ry ⟨rfl,?_⟩;rw[hx.non_iff];exact q _ w (Grow.refl _) (.bl _)
 ·cases hg
def ixD:D->D->Option D
 |.lst l,.int i=>atI l i|.tup l,.int i=>atI l i|.scr l,.int i=>(atI l i).map D.int|.dic ds,.str k=>if zac ds then zab k ds else none
 |.str x,.int i=>if zaD x.length then(atI x.cps.toList i).map fun c=>.str ⟨#[c]⟩else none
 |_,_=>none
def zi1(r:Shds cl w xs ds)(h:atI ds i=some d):∃v,atI xs i=some v/\Shd cl w v d:=by
 unfold atI at h ⊢;rw[r.length]
 cases e:ixN ds.length i with
 |none=>rw[e]at h;cases h|some j=>
  rw[e]at h;exact r.at h
def zqS(hu:X.A.units+64<cLine):IxR X fun x y H Q=>∃a z,x=.ref a/\zhZ H a y (some z)/\Q z H:=by
 intro value slice pins s σ H x y v u Q I rx ry h hs;obtain⟨a,z,rfl,g,q⟩:=h;cases rx;have hT:=zfw I g;unfold subscriptTail;refine yac ?_;rw[getitemInPython_of_ne hT.not_modules];refine yac (wpAny_specialOf hT PySem.F.slot_dict_getitem.lookup ?_)
 have fin:wpAny (model X.prog X.w) X.A (subscripted slice false (.ref a) u) (fun r s₃=>wpAny (model X.prog X.w) X.A (letTemporaryGo value (.ref a) r >>= fun _=>pure r) (EP X pins σ Q) X.xe s₃) X.xe s:=by
  rw[hs];exact wpAny_operating (zhI (by omega) I g ry fun w' s3 I3 rw'=>yac (wpAny_letTemporaryGo (yap ⟨z,H,I3,rw',q⟩)))
 first
  |exact yap (yac fin)
  |exact yac (yap (yac fin))
  |exact yac fin
def ztv(hK:X.K=cl.K)(hu:X.A.units+64<cLine):IxD X cl ixD:=by
 intro value slice pins s σ H x y v u Q I rx ry h hsub;obtain⟨w,d,e,r,rfl,hx,hy,hg,q⟩:=h;unfold ixD at hg;split at hg
 ·rename_i l i;obtain⟨p,xs,rfl,ep,rs⟩:=hx.lstI;obtain rfl:=hy.intI;obtain⟨z,e1,e2⟩:=zi1 rs hg;exact zlT value slice pins s σ w.H _ _ v u Q I rx ry ⟨p,xs,i,z,rfl,rfl,SqL.of ep,e1,q _ w (Grow.refl _) e2⟩ hsub
 ·rename_i l i;obtain⟨p,xs,rfl,ep,_,rs⟩:=hx.tupI;obtain rfl:=hy.intI;obtain⟨z,e1,e2⟩:=zi1 rs hg;exact zto value slice pins s σ w.H _ _ v u Q I rx ry ⟨p,xs,i,z,rfl,rfl,SqT.of ep,e1,q _ w (Grow.refl _) e2⟩ hsub
 ·rename_i l i;obtain⟨p,rfl,ep⟩:=hx.scrI hK;obtain rfl:=hy.intI
  cases hl:atI l i with
  |none=>rw[hl]at hg;cases hg|some k=>
   rw[hl]at hg;cases hg
   have e1:atI (l.map V.int) i=some (.int k):=by
    unfold atI at hl ⊢;rw[yab]
    cases e:ixN l.length i with
    |none=>rw[e]at hl;cases hl|some j=>
     rw[e]at hl;have hl':l[j]?=some k:=hl;show(l.map V.int)[j]?=_;rw[yau,hl'];rfl
   exact zlT value slice pins s σ w.H _ _ v u Q I rx ry ⟨p,_,i,_,rfl,rfl,ep,e1,q _ w (Grow.refl _) (.int _)⟩ hsub
 ·rename_i ds k;split at hg
  ·rename_i ho;obtain⟨a,kvs,rfl,ea,ra⟩:=hx.dicI;obtain rfl:=hy.strI
   rcases zch k ra ho with⟨_,h2⟩|⟨z,d',h1,h2,h3⟩
   ·rw[h2]at hg;cases hg
   ·rw[h2]at hg;cases hg;exact zqS hu value slice pins s σ w.H _ _ v u Q I rx ry ⟨a,z,rfl,.inl ⟨kvs,.inr k,ea,rfl,h1.symm⟩,q _ w (Grow.refl _) h3⟩ hsub
  ·cases hg
 ·rename_i x i;split at hg
  ·rename_i hz;obtain⟨c,hc,rfl⟩:=yaD.mp hg;obtain rfl:=hx.strI;obtain rfl:=hy.intI;exact ztp value slice pins s σ w.H _ _ v u Q I rx ry ⟨x,i,c,rfl,rfl,zaQ hz,hc,q _ w (Grow.refl _) (.str _)⟩ hsub
  ·cases hg
 ·cases hg
def zc1:List D->Option D
 |[.lst l]=>some (.int l.length)|[.tup l]=>some (.int l.length)|[.scr l]=>some (.int l.length)|[.str x]=>if zaD x.length then some (.int x.length)else none
 |_=>none
def ztU(hK:X.K=cl.K):zki X cl (.builtin "len") zc1:=by
 intro pins s σ H xs us Q I r h;obtain⟨w,ds,d,rfl,hx,hg,q⟩:=h;unfold zc1 at hg;split at hg
 ·rename_i l;cases hg
  cases hx with
  |cons h1 h2=>
   cases h2;obtain⟨p,ys,rfl,ep,rs⟩:=h1.lstI;refine zcw pins s σ w.H _ us Q I r ⟨p,ys,rfl,.inl (SqL.of ep),?_⟩;rw[rs.length];exact q _ w (Grow.refl _) (.int _)
 ·rename_i l;cases hg
  cases hx with
  |cons h1 h2=>
   cases h2;obtain⟨p,ys,rfl,ep,_,rs⟩:=h1.tupI;refine zcw pins s σ w.H _ us Q I r ⟨p,ys,rfl,.inr (SqT.of ep),?_⟩;rw[rs.length];exact q _ w (Grow.refl _) (.int _)
 ·rename_i l;cases hg
  cases hx with
  |cons h1 h2=>
   cases h2;obtain⟨p,rfl,ep⟩:=h1.scrI hK;refine zcw pins s σ w.H _ us Q I r ⟨p,l.map V.int,rfl,.inl ep,?_⟩;rw[yab];exact q _ w (Grow.refl _) (.int _)
 ·rename_i x;split at hg
  ·rename_i hz;cases hg
   cases hx with
   |cons h1 h2=>
    cases h2;obtain rfl:=h1.strI;exact zhN pins s σ w.H _ us Q I r ⟨x,rfl,zaQ hz,q _ w (Grow.refl _) (.int _)⟩
  ·cases hg
 ·cases hg
noncomputable def zcb:List D->Option D
 |[.lst l]=>some (.tup l)|[.tup l]=>some (.tup l)|_=>none
def zoc:zki X cl (.type "tuple") zcb:=by
 intro pins s σ H xs us Q I r h;obtain⟨w,ds,d,rfl,hx,hg,q⟩:=h;unfold zcb at hg;split at hg
 ·rename_i l;cases hg
  cases hx with
  |cons h1 h2=>
   cases h2;obtain⟨p,ys,rfl,ep,rs⟩:=h1.lstI;exact zea pins s σ w.H _ us Q I r ⟨p,ys,rfl,.inl ⟨SqL.of ep,fun l hl=>q _ (w.add l _) (zaB hl _) (Shd.newT hl rs)⟩⟩
 ·rename_i l;cases hg
  cases hx with
  |cons h1 h2=>
   cases h2;obtain⟨p,ys,rfl,ep,kp,rs⟩:=h1.tupI;exact zea pins s σ w.H _ us Q I r ⟨p,ys,rfl,.inr ⟨SqT.of ep,q _ w (Grow.refl _) (.tup ep kp rs)⟩⟩
 ·cases hg
noncomputable def zgJ:List D->Option (List Bool)
 |[]=>some []|.bl b::l=>(zgJ l).map (b::·)|_=>none
def zoh:∀{xs:List V},Shds cl w xs ds->zgJ ds=some bs->xs=bs.map V.bl:=by
 induction ds generalizing bs with
 |nil=>intro xs r h;cases r;cases h;rfl|cons d ds ih=>
  intro xs r e
  cases r with
  |cons h t=>
   cases d with
   |bl b=>
    cases h;unfold zgJ at e
    cases hr:zgJ ds with
    |none=>rw[hr]at e;cases e|some cs=>rw[hr]at e;cases e;rw[ih t hr];rfl
   |_=>cases e
def zmM:List D->Option D
 |[.lst l]=>(zgJ l).map fun bs=>.bl (bs.all id)|_=>none
def ztV(hc:X.calm=true):zki X cl (.builtin "all") zmM:=by
 intro pins s σ H xs us Q I r h;obtain⟨w,ds,d,rfl,hx,hg,q⟩:=h;unfold zmM at hg;split at hg
 ·rename_i l
  cases hb:zgJ l with
  |none=>rw[hb]at hg;cases hg|some bs=>
   rw[hb]at hg;cases hg
   cases hx with
   |cons h1 h2=>
    cases h2;obtain⟨p,ys,rfl,ep,rs⟩:=h1.lstI;obtain rfl:=zoh rs hb;exact ziz hc pins s σ w.H _ us Q I r ⟨p,bs,rfl,SqL.of ep,q _ w (Grow.refl _) (.bl _)⟩
 ·cases hg
noncomputable def zeG:List D->Option (List Int)
 |[]=>some []|.int b::l=>(zeG l).map (b::·)|_=>none
def zlX:∀{xs:List V},Shds cl w xs ds->zeG ds=some bs->xs=bs.map V.int:=by
 induction ds generalizing bs with
 |nil=>intro xs r h;cases r;cases h;rfl|cons d ds ih=>
  intro xs r e
  cases r with
  |cons h t=>
   cases d with
   |int b=>
    cases h;unfold zeG at e
    cases hr:zeG ds with
    |none=>rw[hr]at e;cases e|some cs=>rw[hr]at e;cases e;rw[ih t hr];rfl
   |_=>cases e
end
end S2
namespace L2
open PySem PySem.Spec PyProof.Rows
def Itk(a:Addr)(ob:Obj)(kvs:List (Key×V)):It:=⟨fun i H=>H a=some (.frz ob (.dK kvs))/\i<kvs.length,fun i H v H'=>H'=H/\∃x,(kvs.map (·.1))[i]?=some (.inr x)/\v=.str x,fun i H=>H a=some (.frz ob (.dK kvs))/\i=kvs.length⟩
def zqK{P:Program}{w:World}{x:Str}{v:Value}(h:(zax P w).is (.inr x) v=true):∃t,v=.str x t:=by
 have h':Value.isStrOf x v=true:=h
 cases v<;>first|(cases h';done)|skip
 rename_i y t
 have e:y=x:=by simpa[Value.isStrOf]using h'
 exact⟨t,by rw[e]⟩
def zoZ{X:Cx}{pins:Z3}{σ:St}{H:Hp}{s:Shared}{a:Addr}{ob:Obj}{kvs:List (Key×V)}{es:Array DictEntry}{ep:Nat}(I:Inv X pins σ H s)(e:H a=some (.frz ob (.dK kvs)))(hd:ob.data=.dict es ep):∃vs,KV kvs vs/\s.heap.DictAt (zax X.prog X.w) a vs ep:=by
 obtain⟨g,x⟩:=(show za3 X.prog X.w H s.heap a (.frz ob (.dK kvs))from I.hok a _ e);obtain⟨_,_,vs,r,o',es',ep',g',c,d,zbR⟩:=(show za3 X.prog X.w H s.heap a (.dK kvs)from x);rw[g]at g';cases g';rw[hd]at d;cases d;exact⟨vs,r,ob,es,g,c,hd,zbR⟩
def zkv{P:Program}{w:World}{K:PySem.W.Frag}{tg:Expr}(it a:Addr)(ob:Obj)(kvs:List (Key×V))(es:Array DictEntry)(ep:Nat)(hd:ob.data=.dict es ep)(ks:List Str)(hks:kvs.map (·.1)=ks.map Sum.inr):Turn P w K tg (Itk a ob kvs) [it] it (fun i h=>h.IsKeyIter it a i kvs.length ep)where
 mem:=by simp
 obj:=fun i h st b hb=>by
  have e:b=it:=by simpa using hb
  subst e;obtain⟨o,e,c,d⟩:=st;exact⟨o,e,fun v z=>by rw[d]at z;cases z⟩
 keep:=fun i h h' st k=>by
  obtain⟨o,e,r⟩:=st;exact⟨o,k it (by simp) o e,r⟩
 item:=by
  intro X hP hw hK hc i pins s σ H E I hf st hg;subst hP hw hK;obtain⟨f0,f1,f2,f3,f4,f5⟩:=hf it (by simp);obtain⟨vs,r,da⟩:=zoZ I hg.1 hd
  have hne:a≠it:=fun z=>by have h1:H a=_:=hg.1;rw[z,f0]at h1;cases h1
  have st':s.heap.IsKeyIter it a i vs.length ep:=by rw[<-r.length];exact st
  refine(Walks.dictKeys (I.ok.hd hc) it a hne vs ep).item i s _ _ (by rw[<-r.length];exact hg.2) ⟨st',da⟩ fun v h' tk hv st2 kk=>?_
  obtain⟨k,x,hx,hk⟩:=hv;have I1:Inv X pins σ H {s with heap:=h',toks:=tk}:=I.turned (fun b o hb e=>kk b o (by simpa using hb) e) f0 f1 f3 f4 f5
  have hki:(kvs.map (·.1))[i]?=some k:=by rw[r.keys,yau,hx];rfl
  have hki':=hki;rw[hks,yau]at hki';obtain⟨y,hy,ek⟩:=yaD.mp hki';subst ek;have st3:=st2.1;rw[<-r.length]at st3;obtain⟨o,e,c',d⟩:=id st3;exact⟨_,rfl,zl6 (s:={s with heap:=h',toks:=tk}) e c' d (by decide) ⟨.str y,H,I1,zqK hk,⟨rfl,y,hki,rfl⟩,st3,fun b hb=>(hf b hb).1⟩⟩
 done:=by
  intro X hP hw hK hc i pins s σ H E I hf st hg;subst hP hw hK;obtain⟨f0,f1,f2,f3,f4,f5⟩:=hf it (by simp);obtain⟨vs,r,da⟩:=zoZ I hg.1 hd
  have hne:a≠it:=fun z=>by have h1:H a=_:=hg.1;rw[z,f0]at h1;cases h1
  have hi:i=vs.length:=by rw[<-r.length];exact hg.2
  have st':s.heap.IsKeyIter it a vs.length vs.length ep:=by
   have:=st;rwa[r.length,hi]at this
  exact(Walks.dictKeys (I.ok.hd hc) it a hne vs ep).done s _ _ ⟨st',da⟩ fun h' tk kk=>⟨rfl,I.turned (fun b o hb e=>kk b o (by simpa using hb) e) f0 f1 f3 f4 f5⟩
 self:=fun A i s Q E st h=>wpAny_pyIter_keyiter st h
noncomputable def zy5(tl:TE):TI:=fun σ H R=>tl σ H fun v H1=>∃a ob kvs,v=.ref a/\H1 a=some (.frz ob (.dK kvs))/\(∃ks:List Str,kvs.map (·.1)=ks.map Sum.inr)/\R (Itk a ob kvs) H1
def zql{X:Cx}{tg l:Expr}{tl:TE}(hl:PE X l tl):PI X tg l (zy5 tl):=by
 intro pins s σ H R I h;refine thn (hl pins s σ H _ I h) fun v s1 ⟨x,H1,I1,r1,q1⟩=>?_
 obtain⟨a,ob,kvs,e,ha,⟨ks,hks⟩,q⟩:=q1;subst e;cases r1;obtain⟨g,x⟩:=(show za3 X.prog X.w H1 s1.heap a (.frz ob (.dK kvs))from I1.hok a _ ha);obtain⟨_,z,vs,r,o',es,ep,g',c,d,zbR⟩:=(show za3 X.prog X.w H1 s1.heap a (.dK kvs)from x)
 have eo:o'=ob:=by rw[g]at g';cases g';rfl
 subst eo;have da:s1.heap.DictAt (zax X.prog X.w) a vs ep:=⟨o',es,g,c,d,zbR⟩;refine wpAny_pyIter_dict z da ?_;refine⟨s1.heap.objs.size,[s1.heap.objs.size],_,_,H1,rfl,I1.kept (t':=s1.toks) fun b o e=>yaf _ e,zkv _ a o' kvs es ep d ks hks,?_,fun b hb=>?_,q⟩
 ·rw[r.length];exact⟨_,yar _ rfl,rfl,rfl⟩
 ·have e:b=s1.heap.objs.size:=by simpa using hb
  subst e;exact I1.fpOk (yal _) (I1.hok.fresh (yal _))
end L2
namespace S2
open PySem PySem.Spec PyProof.Rows L2
def zdl(g g':D->D->Option D)(f h k:Fe):Fe:=fun ρ S=>(f ρ S).bind fun a S1=>(h ρ S1).bind fun b S2=>match(g a b).bind isB with
 |some true=>(k ρ S2).bind fun c S3=>Out.of (g' b c) S3|some false=>.ok (.bl false) S2|none=>.bad
section
variable{X:Cx}{cl:Cf}{E:St->XK}{a b c e:Expr}{f h k:Fe}{pos:Pos}
def ziU(hr:∀x y H Q,(∃w d e r,w.H=H/\TopV cl w x d/\TopV cl w y e/\g d e=some r/\∀v w',Grow w w'->Shd cl w' v r->Q v w'.H)->r x y H Q)
  (hr':∀x y H Q,(∃w d e r,w.H=H/\TopV cl w x d/\TopV cl w y e/\g' d e=some r/\∀v w',Grow w w'->Shd cl w' v r->Q v w'.H)->r' x y H Q) (q:tE cl E (zdl g g' f h k) σ H Q):zkK r r' (tH cl E f) (tH cl E h) (tH cl E k) σ H Q:=by
 obtain⟨B,w,ρ,S,rfl,R,q⟩:=q;refine⟨B,w,ρ,S,rfl,R,?_⟩;unfold zdl at q
 cases hf:f ρ S with
 |bad=>rwa[hf]at q|exc c S1=>rwa[hf]at q|ok d S1=>
  rw[hf]at q;intro v w1 R1 F1 h1;refine⟨B,w1,ρ,S1,rfl,R1,?_⟩;dsimp only[Out.bind]at q
  cases hh:h ρ S1 with
  |bad=>rwa[hh]at q|exc c S2=>rw[hh]at q;exact fun w2 R2 F2=>q w2 R2 (F1.trans F2)|ok e S2=>
   rw[hh]at q;intro y w2 R2 F2 h2;dsimp only at q
   cases hg:g d e with
   |none=>rw[hg]at q;exact q.elim|some z=>
    rw[hg]at q;dsimp only[Option.bind]at q
    cases hb:isB z with
    |none=>rw[hb]at q;exact q.elim|some bb=>
     rw[hb]at q;rw[zdx hb]at hg;refine hr _ _ _ _ ⟨w2,d,e,_,rfl,(h1.up F2).top R2,h2.top R2,hg,fun v' w3 gr sh=>⟨bb,zg4 sh,?_⟩⟩;have R3:=R2.grow gr
     cases bb with
     |false=>exact zoX (q _ w3 R3 (F1.trans (F2.trans gr.fut)) (.bl _))|true=>
      refine zoW ⟨B,w3,ρ,S2,rfl,R3,?_⟩;dsimp only at q
      cases hk:k ρ S2 with
      |bad=>rwa[hk]at q|exc c S3=>rw[hk]at q;exact fun w4 R4 F4=>q w4 R4 (F1.trans (F2.trans (gr.fut.trans F4)))|ok c S3=>
       rw[hk]at q;intro z' w4 R4 F4 h4;dsimp only at q
       cases hg':g' e c with
       |none=>rw[hg']at q;exact q.elim|some r2=>
        rw[hg']at q;exact hr' _ _ _ _ ⟨w4,e,c,r2,rfl,(h2.up (gr.fut.trans F4)).top R4,h4.top R4,hg',fun v' w5 gr5 sh5=>q v' w5 (R4.grow gr5) (F1.trans (F2.trans (gr.fut.trans (F4.trans gr5.fut)))) sh5⟩
def zm2(ho:OpD X cl (compareOp op) g)(ho':OpD X cl (compareOp op') g')(ha:PE X a (tH cl E f))(hb:PE X b (tH cl E h))(hc:PE X c (tH cl E k))(hm:lastMarks [op,op'] [b,c]=false):PE X (.Compare a [op,op'] [b,c] pos) (tE cl E (zdl g g' f h k)):=
 PE.imp (znw ho ho' ha hb hc hm) fun _ _ _ q=>ziU (fun _ _ _ _ z=>z) (fun _ _ _ _ z=>z) q
def zmV(ho:OpD X cl (compareOp op) g)(ho':OpD X cl (compareOp op') g')(ha:PE X a (tH cl E f))(hb:PE X b (tH cl E h))(hc:PE X c (tH cl E k))(hm:lastMarks [op,op'] [b,c]=false):PT X (.Compare a [op,op'] [b,c] pos) (tTr cl E (zdl g g' f h k)):=
 PT.imp (zng ho ho' ha hb hc hm) fun _ _ _ q=>ziU (fun _ _ _ _ z=>z) (fun _ _ _ _ z=>z) (zgV q)
def zrs{α:Type}(l:List α)(lo hi:Option Int):List α:=(l.drop (HT.sIx l.length 0 lo)).take (HT.sIx l.length l.length hi-HT.sIx l.length 0 lo)
def slD(d:D)(lo hi:Option Int):Option D:=match d with
 |.lst l=>some (.lst (zrs l lo hi))|.str x=>if zaD x.length then some (.str (Txt.slice x lo hi))else none
 |_=>none
def zc0(o:Option Fe)(ρ:Env)(S:Sto):Out (Option Int):=match o with
 |none=>.ok none S|some f=>(f ρ S).bind fun d S1=>match d with|.int i=>.ok (some i) S1|_=>.bad
def eSl(f:Fe)(lo hi:Option Fe):Fe:=fun ρ S=>(f ρ S).bind fun d S1=>(zc0 lo ρ S1).bind fun l S2=>(zc0 hi ρ S2).bind fun u S3=>Out.of (slD d l u) S3
def zmt(r:Shds cl w xs ds)(lo hi:Option Int):Shds cl w (zrr xs lo hi) (zrs ds lo hi):=by
 unfold zrr zrs;rw[r.length];exact(r.drop _).take _
noncomputable def SlD(X:Cx)(cl:Cf):Prop:=SlR X fun x lo hi H Q=>∃w d r,w.H=H/\TopV cl w x d/\slD d lo hi=some r/\∀v w',Grow w w'->Shd cl w' v r->Q v w'.H
def zu6:SlD X cl:=by
 intro pins s σ H x v vl vu lo hi sl Q I rx hs pl pu h;obtain⟨w,d,r,rfl,hx,hg,q⟩:=h;unfold slD at hg;split at hg
 ·rename_i l;cases hg;obtain⟨p,xs,rfl,ep,rs⟩:=hx.lstI;exact zpM pins s σ w.H _ v vl vu lo hi sl Q I rx hs pl pu ⟨p,xs,rfl,SqL.of ep,fun p' hp=>q _ (w.add p' _) (zaB hp _) (Shd.newL hp (zmt rs lo hi))⟩
 ·rename_i x;split at hg
  ·rename_i hz;cases hg;obtain rfl:=hx.strI;obtain⟨t,rfl⟩:=rx;obtain⟨o,ho,hc,hd⟩:=hs
   have fin:∀l u:Option (Int×Tok),vl=partValue l->vu=partValue u->lo=l.map (·.1)->hi=u.map (·.1)->wpAny (model X.prog X.w) X.A (getItem (.str x t) (.ref sl)) (EP X pins σ Q) X.xe s:=fun l u e1 e2 e3 e4=>by
    subst e1 e2 e3 e4;refine wpAny_getItem_str_slice (st:=none) ⟨o,ho,hc,hd⟩ rfl ?_;exact post_val_or_str ⟨yas (Txt.slice_le x _ _) (zaQ hz),fun t' k=>⟨.str _,w.H,I.tok _,⟨_,rfl⟩,q _ w (Grow.refl _) (.str _)⟩⟩
   refine⟨"str",_,F.slot_str_getitem.lookup,ybM _ _ _,?_⟩
   cases pl with
   |none=>cases pu with
    |none=>exact fin none none rfl rfl rfl rfl|int j tj=>exact fin none (some (j,tj)) rfl rfl rfl rfl
   |int i ti=>cases pu with
    |none=>exact fin (some (i,ti)) none rfl rfl rfl rfl|int j tj=>exact fin (some (i,ti)) (some (j,tj)) rfl rfl rfl rfl
  ·cases hg
 ·cases hg
noncomputable def zui(cl:Cf)(E:St->XK)(o:Option Fe):TO:=match o with|none=>zkH|some f=>zrB (tH cl E f)
def zu2{lo hi:Option Expr}{fl fh:Option Fe}{p2:Pos}(he:PE X e (tH cl E f))(hl:PO X lo (zui cl E fl))(hu:PO X hi (zui cl E fh)):PE X (.Subscript e (.Slice lo hi none p2) pos) (tE cl E (eSl f fl fh)):=by
 refine PE.imp (znn (zu6 (cl:=cl)) he hl hu) ?_;rintro σ H Q ⟨B,w,ρ,S,rfl,R,q⟩;refine⟨B,w,ρ,S,rfl,R,?_⟩;unfold eSl at q
 cases hf:f ρ S with
 |bad=>rwa[hf]at q|exc c S1=>rwa[hf]at q|ok d S1=>
  rw[hf]at q;intro v w1 R1 F1 h1;dsimp only[Out.bind]at q
  have last:∀(l u:Option Int) (w3:Wd) (S3:Sto),Rel cl B σ w3 ρ S3->Fut w1 w3->(match Out.of (slD d l u) S3 with
    |.ok d S'=>∀v w',Rel cl B σ w' ρ S'->Fut w w'->Shd cl w' v d->Q v w'.H|.exc c S'=>∀w',Rel cl B σ w' ρ S'->Fut w w'->E σ (.ref (cl c)) none w'.H|.bad=>False)->∃w d r,w.H=w3.H/\TopV cl w v d/\slD d l u=some r/\∀v w',Grow w w'->Shd cl w' v r->Q v w'.H:=by
   intro l u w3 S3 R3 F3 q3
   cases hg:slD d l u with
   |none=>rw[hg]at q3;exact q3.elim|some r=>
    rw[hg]at q3;exact⟨w3,d,r,rfl,(h1.up F3).top R3,hg,fun v' w' gr sh=>q3 v' w' (R3.grow gr) (F1.trans (F3.trans gr.fut)) sh⟩
  have second:∀(l:Option Int) (w2:Wd) (S2:Sto),Rel cl B σ w2 ρ S2->Fut w1 w2->(match(zc0 fh ρ S2).bind fun u S3=>Out.of (slD d l u) S3 with
    |.ok d S'=>∀v w',Rel cl B σ w' ρ S'->Fut w w'->Shd cl w' v d->Q v w'.H|.exc c S'=>∀w',Rel cl B σ w' ρ S'->Fut w w'->E σ (.ref (cl c)) none w'.H|.bad=>False)->zui cl E fh σ w2.H fun u H3=>∃w d r,w.H=H3/\TopV cl w v d/\slD d l u=some r/\∀v w',Grow w w'->Shd cl w' v r->Q v w'.H:=by
   intro l w2 S2 R2 F2 q2
   cases fh with
   |none=>exact last l none w2 S2 R2 F2 q2|some fh=>
    refine⟨B,w2,ρ,S2,rfl,R2,?_⟩;unfold zc0 at q2;dsimp only at q2
    cases hh:fh ρ S2 with
    |bad=>rwa[hh]at q2|exc c S3=>rw[hh]at q2;exact fun w3 R3 F3=>q2 w3 R3 (F1.trans (F2.trans F3))|ok dh S3=>
     rw[hh]at q2;intro y w3 R3 F3 h3;dsimp only[Out.bind]at q2
     cases dh with
     |int i=>
      refine⟨i,(h3.top R3).intI,?_⟩;exact last l (some i) w3 S3 R3 (F2.trans F3) q2
     |_=>exact q2.elim
  cases fl with
  |none=>exact second none w1 S1 R1 (Fut.refl _) q|some fl=>
   refine⟨B,w1,ρ,S1,rfl,R1,?_⟩;unfold zc0 at q;dsimp only at q
   cases hh:fl ρ S1 with
   |bad=>rwa[hh]at q|exc c S3=>rw[hh]at q;exact fun w3 R3 F3=>q w3 R3 (F1.trans F3)|ok dl S2=>
    rw[hh]at q;intro y w2 R2 F2 h2;dsimp only[Out.bind]at q
    cases dl with
    |int i=>
     refine⟨i,(h2.top R2).intI,?_⟩;exact second (some i) w2 S2 R2 F2 q
    |_=>exact q.elim
noncomputable def zel(T:String)(d:D):Option D:=
 if T="int"then(match d with|.int _=>some (.bl true)|.bl _=>some (.bl true)|.non=>some (.bl false)|.str _=>some (.bl false)|.tup _=>some (.bl false)|.lst _=>some (.bl false)|_=>none)
 else if T="bool"then(match d with|.int _=>some (.bl false)|.bl _=>some (.bl true)|.non=>some (.bl false)|.str _=>some (.bl false)|.tup _=>some (.bl false)|.lst _=>some (.bl false)|_=>none)
 else if T="tuple"then(match d with|.int _=>some (.bl false)|.bl _=>some (.bl false)|.non=>some (.bl false)|.str _=>some (.bl false)|.tup _=>some (.bl true)|.lst _=>some (.bl false)|_=>none)
 else if T="str"then(match d with|.int _=>some (.bl false)|.bl _=>some (.bl false)|.non=>some (.bl false)|.str _=>some (.bl true)|.tup _=>some (.bl false)|.lst _=>some (.bl false)|_=>none)
 else none
def zdy{K:PySem.W.Frag}{t:Value}{r:D}{T:String}{b1 b2 b3 b4:Bool}(hg:(if T="int"then some (D.bl b1)else if T="bool"then some (.bl b2)else if T="tuple"then some (.bl b3)else if T="str"then some (.bl b4)else none)=some r)(k1:PySem.W.kitOne K t (.type "int")=some b1)(k2:PySem.W.kitOne K t (.type "bool")=some b2)(k3:PySem.W.kitOne K t (.type "tuple")=some b3)(k4:PySem.W.kitOne K t (.type "str")=some b4):∃b,PySem.W.kitOne K t (.type T)=some b/\r=.bl b:=by
 split at hg
 ·rename_i e;cases hg;exact⟨b1,by rw[e];exact k1,rfl⟩
 split at hg
 ·rename_i e;cases hg;exact⟨b2,by rw[e];exact k2,rfl⟩
 split at hg
 ·rename_i e;cases hg;exact⟨b3,by rw[e];exact k3,rfl⟩
 split at hg
 ·rename_i e;cases hg;exact⟨b4,by rw[e];exact k4,rfl⟩
 ·cases hg
def zqY{r:D}{T:String}(hg:(if T="int"then none else if T="bool"then none else if T="tuple"then none else if T="str"then none else none)=some r):False:=by
 simp at hg
def zqX{K:PySem.W.Frag}{w:Wd}(h:TopV cl w v d)(hg:zel T d=some r):∃t b,TyOf K w.H v t/\PySem.W.kitOne K t (.type T)=some b/\r=.bl b:=by
 cases d with
 |int i=>obtain rfl:=h.intI;obtain⟨b,h1,h2⟩:=zdy (K:=K) (t:=.type "int") hg (by with_unfolding_all rfl) (by with_unfolding_all rfl) (by with_unfolding_all rfl) (by with_unfolding_all rfl);exact⟨_,b,.int _,h1,h2⟩
 |bl i=>obtain rfl:=h.blI;obtain⟨b,h1,h2⟩:=zdy (K:=K) (t:=.type "bool") hg (by with_unfolding_all rfl) (by with_unfolding_all rfl) (by with_unfolding_all rfl) (by with_unfolding_all rfl);exact⟨_,b,.bl _,h1,h2⟩
 |non=>obtain rfl:=h.nonI;obtain⟨b,h1,h2⟩:=zdy (K:=K) (t:=.type "NoneType") hg (by with_unfolding_all rfl) (by with_unfolding_all rfl) (by with_unfolding_all rfl) (by with_unfolding_all rfl);exact⟨_,b,.non,h1,h2⟩
 |str i=>obtain rfl:=h.strI;obtain⟨b,h1,h2⟩:=zdy (K:=K) (t:=.type "str") hg (by with_unfolding_all rfl) (by with_unfolding_all rfl) (by with_unfolding_all rfl) (by with_unfolding_all rfl);exact⟨_,b,.str _,h1,h2⟩
 |tup i=>obtain⟨_,_,rfl,e,_⟩:=h.tupI;obtain⟨b,h1,h2⟩:=zdy (K:=K) (t:=.type "tuple") hg (by with_unfolding_all rfl) (by with_unfolding_all rfl) (by with_unfolding_all rfl) (by with_unfolding_all rfl);exact⟨_,b,.tup e,h1,h2⟩
 |lst i=>obtain⟨_,_,rfl,e,_⟩:=h.lstI;obtain⟨b,h1,h2⟩:=zdy (K:=K) (t:=.type "list") hg (by with_unfolding_all rfl) (by with_unfolding_all rfl) (by with_unfolding_all rfl) (by with_unfolding_all rfl);exact⟨_,b,.lst e,h1,h2⟩
 |_=>exact(zqY hg).elim
theorem zhP:bootBuiltins "isinstance"=some (.builtin "isinstance"):=by decide +kernel
def zpU(hg:Gl X "isinstance")(hm:X.mg "isinstance"=none)(hgT:Gl X x)(hmT:X.mg x=none)(hvT:bootBuiltins x=some (.type T))(hn:x ≠ "__name__")(hdb:(x==("__debug__":Str))=false)(hp:zbx e=true)(he:PE X e (tH cl E f)):
  PE X (.Call (.Name "isinstance" p) [e,.Name x p2] [] pos) (tE cl E (eUn (zel T) f)):=by
 refine PE.imp (zcP ziy hg hm zhP (zba he (zba (zlp (v:=.ty T) hgT hmT hvT rfl hn hdb) zcg rfl) (zbd hp)) (he:=zbd hp) (hpl:=rfl)) ?_;rintro σ H Q ⟨B,w,ρ,S,rfl,R,q⟩;refine⟨B,w,ρ,S,rfl,R,?_⟩;unfold eUn at q
 cases hf:f ρ S with
 |bad=>rwa[hf]at q|exc c S1=>rwa[hf]at q|ok d S1=>
  rw[hf]at q;intro v w1 R1 F1 h1;dsimp only[Out.bind]at q
  cases hg:zel T d with
  |none=>rw[hg]at q;exact q.elim|some r=>
   rw[hg]at q;obtain⟨t,b,h2,h3,rfl⟩:=zqX (K:=X.K) (h1.top R1) hg;exact⟨v,t,T,b,rfl,h2,h3,q _ w1 R1 F1 (.bl _)⟩
noncomputable def zkk(x:Str):List D:=x.cps.toList.map fun c=>D.str ⟨#[c]⟩
def zis(f:Fe):Fi:=fun ρ S=>(f ρ S).bind fun d S1=>match d with|.str x=>.ok (zkk x) S1|_=>.bad
def zrX{tg:Expr}(he:PE X e (tE cl E f)):PI X tg e (tI cl E (zis f)):=by
 refine PI.imp (zsq he) ?_;rintro σ H Q ⟨B,w,ρ,S,rfl,R,q⟩;refine⟨B,w,ρ,S,rfl,R,?_⟩;unfold zis at q
 cases hf:f ρ S with
 |bad=>rwa[hf]at q|exc c S1=>rwa[hf]at q|ok d S1=>
  rw[hf]at q;intro v w' R' F' h';dsimp only[Out.bind]at q
  cases h' with
  |str x=>
   refine⟨x,rfl,q _ w' R' F' ?_⟩
   have hl:(zkk x).length=x.cps.size:=by simp[zkk]
   refine⟨fun w1 F1 i hi=>?_,fun w1 F1=>?_,fun w1 F1 i d v H1 hd y=>?_⟩
   ·show i<x.cps.size;rw[<-hl];exact hi
   ·exact hl
   ·obtain⟨rfl,c,hc,rfl⟩:=y;refine⟨w1,rfl,Grow.refl _,?_⟩
    have e:(zkk x)[i]?=some (.str ⟨#[c]⟩):=by
     unfold zkk;rw[yau,ybl,hc];rfl
    rw[hd]at e;cases e;exact .str _
  |_=>exact q.elim
def zir(f:Fe):Fi:=fun ρ S=>(f ρ S).bind fun d S1=>match d with|.dic ds=>if zac ds then .ok ((zau ds).map D.str) S1 else .bad|_=>.bad
def zrY{tg:Expr}(he:PE X e (tE cl E f)):PI X tg e (tI cl E (zir f)):=by
 refine PI.imp (zql he) ?_;rintro σ H Q ⟨B,w,ρ,S,rfl,R,q⟩;refine⟨B,w,ρ,S,rfl,R,?_⟩;unfold zir at q
 cases hf:f ρ S with
 |bad=>rwa[hf]at q|exc c S1=>rwa[hf]at q|ok d S1=>
  rw[hf]at q;intro v w' R' F' h';dsimp only[Out.bind]at q
  cases h' with
  |dicK ea ka ra=>
   rename_i ob kvs ds
   by_cases ho:zac ds=true
   ·dsimp only at q;rw[if_pos ho]at q;obtain⟨h1,h2⟩:=zeQ ra ho
    have hl:kvs.length=((zau ds).map D.str).length:=by rw[yab,h2,ra.length]
    refine⟨_,ob,kvs,rfl,ea,⟨_,h1⟩,q _ w' R' F' ⟨fun w1 F1 i hi=>⟨(F1.keep _ _ ea ka).1,by rw[hl];exact hi⟩,fun w1 F1=>⟨(F1.keep _ _ ea ka).1,hl.symm⟩,fun w1 F1 i d v H1 hd y=>?_⟩⟩;obtain⟨rfl,x,hx,rfl⟩:=y;rw[h1,yau]at hx;obtain⟨z,hz,ez⟩:=yaD.mp hx;cases ez;rw[yau,hz]at hd;cases hd;exact⟨w1,rfl,Grow.refl _,.str _⟩
   ·dsimp only at q;rw[if_neg ho]at q;exact q.elim
  |_=>exact q.elim
def zaI(f:Fe):Fi:=fun ρ S=>(f ρ S).bind fun d S1=>match d with|.str x=>.ok (zkk x) S1|.lst l=>.ok l S1|.tup l=>.ok l S1|.dic ds=>if zac ds then .ok ((zau ds).map D.str) S1 else .bad|_=>.bad
def zrZ(hK:X.K=cl.K)(he:PE X e (tE cl E f)):PI X tg e (tI cl E (zaI f)):=by
 intro pins s σ H R' I q;obtain⟨B,w,ρ,S,rfl,R,q⟩:=q;unfold zaI at q
 cases hf:f ρ S with
 |bad=>rw[hf]at q;exact q.elim|exc c S1=>
  refine zkP he pins s σ w.H R' I ⟨B,w,ρ,S,rfl,R,?_⟩;unfold zjw;rw[hf]at q ⊢;exact q
 |ok d S1=>
  rw[hf]at q;dsimp only[Out.bind]at q
  cases d with
  |lst l=>
   refine zkP he pins s σ w.H R' I ⟨B,w,ρ,S,rfl,R,?_⟩;unfold zjw;rw[hf];exact q
  |tup l=>
   refine zrW he pins s σ w.H R' I ⟨B,w,ρ,S,rfl,R,?_⟩;unfold ziq;rw[hf];exact q
  |str x=>
   refine zrX he pins s σ w.H R' I ⟨B,w,ρ,S,rfl,R,?_⟩;unfold zis;rw[hf];exact q
  |dic ds=>
   refine zrY he pins s σ w.H R' I ⟨B,w,ρ,S,rfl,R,?_⟩;unfold zir;rw[hf];exact q
  |_=>exact q.elim
end
end S2
namespace L2
open PySem PySem.Spec PyProof.Rows
noncomputable abbrev IsT(h:Heap)(T:Addr)(os:List Value):Prop:=h.get? T=some {cls:=.type "tuple",data:=.seq os.toArray}
noncomputable abbrev Stops(h:Heap)(e:Addr):Prop:=∃o,h.get? e=some o/\o.cls=.type "StopIteration"
structure ZSt(a l m i:Nat)(f:Value)(h:Heap):Prop where
 z:IsZip h (a+4) (a+2) (a+3) f
 ti:IsT h (a+2) [.ref a,.ref (a+1)]
 to:∃x y,IsT h (a+3) [x,y]
 i1:h.IsTupleIter a l i
 i2:h.IsTupleIter (a+1) m i
section
variable{prog:Program}{w:World}{A:Around}{E:Z5}{s:Shared}{a l m k:Nat}{us vs:Array Value}
def ziR{h h':Heap}{t:Addr}(p:h.IsTuple t vs)(q:∀o,h.get? t=some o->h'.get? t=some o):h'.IsTuple t vs:=by
 obtain⟨o,ho,r⟩:=p;exact⟨o,q o ho,r⟩
theorem zpg{β:Type}{f:Value×Nat->β->Sem (ForInStep β)}{b:β}{Q:β->Shared->Prop}{x0 y0:Value}
  (hf:∀(c l n:Nat) (vs:Array Value) (os:List Value) (s:Shared) (Q:ForInStep β->Shared->Prop),l<c->c<a+3->os.length=2->IsZip s.heap (a+4) (a+2) (a+3) .ellipsis->IsT s.heap (a+3) os->s.heap.IsTupleIter c l k->s.heap.IsTuple l vs->k<=vs.size →
   (∀x h' tk,vs[k]?=some x->IsT h' (a+3) (os.set n x)->h'.IsTupleIter c l (k+1)->h'.objs.size=s.heap.objs.size->(∀(d:Nat) (o:Obj),d≠a+3->d≠c->s.heap.get? d=some o->h'.get? d=some o)->Q (.yield b) {s with heap:=h',toks:=tk}) →
   (k=vs.size->∀h' e tk,(∀(d:Nat) (o:Obj),d≠a+4->d≠c->s.heap.get? d=some o->h'.get? d=some o)->Stops h' e->E (.ref e) {s with heap:=h',toks:=tk})->wpAny (model prog w) A (f (.ref c,n) b) Q E s)
  (hl:l<a) (hm:m<a) (hz:IsZip s.heap (a+4) (a+2) (a+3) .ellipsis) (hO:IsT s.heap (a+3) [x0,y0]) (h1:s.heap.IsTupleIter a l k) (h2:s.heap.IsTupleIter (a+1) m k) (hu:s.heap.IsTuple l us) (hv:s.heap.IsTuple m vs) (hk:k<=us.size) (hk2:k<=vs.size)
  (hQ:∀x y h' tk,us[k]?=some x->vs[k]?=some y->IsT h' (a+3) [x,y]->h'.IsTupleIter a l (k+1)->h'.IsTupleIter (a+1) m (k+1)->h'.objs.size=s.heap.objs.size->(∀(d:Nat) (o:Obj),d≠a->d≠a+1->d≠a+3->s.heap.get? d=some o->h'.get? d=some o)->Q b {s with heap:=h',toks:=tk})
  (hE:(k=us.size\/k=vs.size)->∀h' e tk,(∀(d:Nat) (o:Obj),(d<a\/a+4<d)->s.heap.get? d=some o->h'.get? d=some o)->Stops h' e->E (.ref e) {s with heap:=h',toks:=tk}):
  wpAny (model prog w) A (forIn [((.ref a:Value),0),(.ref (a+1),1)] b f) Q E s:=by
 rw[ybG];refine yac (hf a l 0 us _ s _ hl (by omega) rfl hz hO h1 hu hk (fun x g tk hx hO1 hI1 hs1 k1=>?_) (fun e h' e' tk k1=>hE (.inl e) h' e' tk fun d o p q=>k1 d o (by omega) (by omega) q));show wpAny _ _ (forIn [((.ref (a+1):Value),1)] b f) _ _ _;rw[ybG];refine yac (hf (a+1) m 1 vs _ _ _ (by omega) (by omega) rfl (k1 _ _ (by omega) (by omega) hz) hO1 (h2.at fun o e=>k1 _ o (by omega) (by omega) e) (ziR hv fun o e=>k1 _ o (by omega) (by omega) e) hk2 (fun y g2 tk2 hy hO2 hI2 hs2 k2=>?_) (fun e h' e' tk' k2=>hE (.inr e) h' e' tk' fun d o p q=>k2 d o (by omega) (by omega) (k1 d o (by omega) (by omega) q)));exact yap (hQ x y g2 tk2 hx hy hO2 (hI1.at fun o e=>k2 _ o (by omega) (by omega) e) hI2 (hs2.trans hs1) fun d o p1 p2 p3 e=>k2 d o p3 p2 (k1 d o p3 p1 e))
theorem ziI{Q:Z5}(hh:A.handled=none)(Z:ZSt a l m k .none s.heap)(hl:l<a)(hm:m<a)(hu:s.heap.IsTuple l us)(hv:s.heap.IsTuple m vs)(hk:k<=us.size)(hk2:k<=vs.size)
  (hQ:∀x y h' tk,us[k]?=some x->vs[k]?=some y->ZSt a l m (k+1) (rawInt s.heap.objs.size) h'->IsT h' s.heap.objs.size [x,y]->(∀(c:Nat) (o:Obj),(c<a\/a+4<c)->s.heap.get? c=some o->h'.get? c=some o)->Q (.ref s.heap.objs.size) {s with heap:=h',toks:=tk})
  (hE:(k=us.size\/k=vs.size)->∀h' e tk,(∀(c:Nat) (o:Obj),(c<a\/a+4<c)->s.heap.get? c=some o->h'.get? c=some o)->Stops h' e->E (.ref e) {s with heap:=h',toks:=tk}):
  wpAny (model prog w) A (Builtin.«zip.__next__» ⟨[.ref (a+4)],[]⟩) (fun fin s'=>∃v,fin=.done (.ret v)/\Q v s') E s:=by
 obtain⟨hz,hI,⟨x0,y0,hO⟩,h1,h2⟩:=Z;show wpAny _ _ (field (.ref (a+4)) 2 >>= _) _ _ _;refine yac (yb0 hz rfl (x:=.bool false) rfl ?_);show wpAny _ _ (field (.ref (a+4)) 3 >>= _) _ _ _;refine yac (yb0 hz rfl (x:=.ref (a+2)) rfl ?_);refine yac (ybo hI rfl ?_);show wpAny _ _ (Builtin.SmallTypes.ownedTupleIsFree (.ref (a+4)) >>= _) _ _ _;refine yac ?_;unfold Builtin.SmallTypes.ownedTupleIsFree;refine yac (yb0 hz rfl (x:=.none) rfl (yap ?_));simp only[ycT];refine yac (wpAny_rule ?_);refine yac (yb0 hz rfl (x:=.ref (a+3)) rfl ?_);refine yac (yci hz (by simp) fun g hz₁ hs₁=>?_);replace hz₁:IsZip g (a+4) (a+2) (a+3) .ellipsis:=hz₁;have k₁:∀(c:Nat) (o:Obj),c≠a+4->s.heap.get? c=some o->g.get? c=some o:=fun c o hc e=>hs₁.extBut _ _ hc e
 refine yac (zpg (a:=a) (l:=l) (m:=m) (k:=k) (us:=us) (vs:=vs) (fun c l n vs os s Q hc hb ho hz hO hI hv hk hx he=>?_) hl hm hz₁ (k₁ _ _ (by omega) hO) (h1.at fun o e=>k₁ _ o (by omega) e) (h2.at fun o e=>k₁ _ o (by omega) e) (ziR hu fun o e=>k₁ _ o (by omega) e) (ziR hv fun o e=>k₁ _ o (by omega) e) hk hk2 (fun x y h₂ tk hx hy hO₂ i1 i2 hs₂ k₂=>?_) (fun e h' e' tk k'=>hE e h' e' tk fun c o hc q=>k' c o hc (k₁ c o (by omega) q)))
 ·have D:=zmk (prog:=prog) (w:=w) hh c l (yay hc) vs;refine yac (wpAny_onRaise ?_);show wpAny _ _ (Builtin.SmallTypes.nextOf (.ref c) >>= _) _ _ _
  rcases Nat.lt_or_eq_of_le hk with hlt|rfl
  ·refine yac (D.item k _ _ _ hlt ⟨hI,hv⟩ fun x h₂ tk₂ px hI₂ hs₂=>yap ?_);have hO₂:IsT h₂ (a+3) os:=hs₂.extBut _ _ (yaU hb) hO;refine yac (ybo hO₂ rfl ?_)
   have h9:os.length<=9:=by omega
   refine yac (wpAny_updateSeq hO₂ rfl ?_ (by simp;exact yas h9 (by decide)) (by simp;exact yas h9 (by decide)));have hs₃:=Heap.SameBut.update h₂ (a+3) (Obj.mapSeq (·.setIfInBounds n x));refine yac (wpAny_letGo (yap (hx x _ tk₂ px ?_ (hI₂.1.at fun o e=>hs₃.extBut _ _ (yay hb) e) (hs₃.1.trans hs₂.1) fun d o c1 c2 e=>hs₃.extBut _ _ c1 (hs₂.extBut _ _ c2 e))));show Heap.get? _ (a+3)=_;rw[ycz _ hO₂ rfl];simp[Obj.mapSeq]
  ·refine yac (D.done _ _ _ ⟨hI,hv⟩ fun h₂ e hs₂ hs=>?_);obtain⟨oe,hoe,hce⟩:=hs;have hz₂:=hs₂ _ _ (show a+4≠c by omega) hz
   have hez:e≠a+4:=fun x=>by subst x;rw[hz₂]at hoe;cases hoe;simp at hce
   exact yci hz₂ (by simp) fun h₃ _ hs₃=>he rfl h₃ e _ (fun d o c1 c2 q=>hs₃.extBut _ _ c1 (hs₂ _ _ c2 q)) ⟨oe,hs₃.extBut _ _ hez hoe,hce⟩
 ·refine yac (ybo hO₂ rfl ?_);refine yac (wpAny_newTuple ?_ (hsz:=by show(2:Nat)<=_;decide));have hz₂:IsZip h₂ (a+4) (a+2) (a+3) .ellipsis:=k₂ _ _ (by omega) (by omega) (by omega) hz₁;have hsz:h₂.objs.size=s.heap.objs.size:=hs₂.trans hs₁.1;show wpAny _ _ (Builtin.SmallTypes.ownedTupleHandOut (.ref (a+4)) (.ref h₂.objs.size) >>= _) _ _ _;refine yac ?_;unfold Builtin.SmallTypes.ownedTupleHandOut;refine yac (yci (yaf _ hz₂) (by simp) fun h₄ hz₄ hs₄=>?_);replace hz₄:IsZip h₄ (a+4) (a+2) (a+3) (rawInt h₂.objs.size):=hz₄;refine yci hz₄ (by simp) fun h₅ hz₅ hs₅=>?_
  replace hz₅:IsZip h₅ (a+4) (a+2) (a+3) (rawInt h₂.objs.size):=hz₅;have lt:a+4<h₂.objs.size:=yao hz₂;have up:∀(c:Nat) (o:Obj),c≠a+4->h₂.get? c=some o->h₅.get? c=some o:=fun c o c1 e=>hs₅.extBut _ _ c1 (hs₄.extBut _ _ c1 (yaf _ e))
  have hT:IsT h₅ h₂.objs.size [x,y]:=hs₅.extBut _ _ (yaU lt) (hs₄.extBut _ _ (yaU lt) (yar _ rfl));rw[hsz]at hz₅ hT;refine yap ⟨_,rfl,?_⟩;show Q (.ref h₂.objs.size) _;rw[hsz];exact hQ x y h₅ tk hx hy ⟨hz₅,up _ _ (by omega) (k₂ _ _ (by omega) (by omega) (by omega) (k₁ _ _ (by omega) hI)),⟨x,y,up _ _ (by omega) hO₂⟩,i1.at fun o e=>up _ o (by omega) e,i2.at fun o e=>up _ o (by omega) e⟩ hT fun c o hc e=>up c o (by omega) (k₂ c o (by omega) (by omega) (by omega) (k₁ c o (by omega) e))
def zlA:Meets (Builtin.«zip.__new__» ⟨[.type "zip",.ref l,.ref m],[]⟩) (fun _ R s=>s.heap.IsTuple l us/\s.heap.IsTuple m vs ∧
   ∀h' n,n=s.heap.objs.size->(∀(c:Nat) (o:Obj),s.heap.get? c=some o->h'.get? c=some o)->ZSt n l m 0 .none h'->R (.ok (.ret (.ref (n+4)))) {s with heap:=h'}):=
 .of_wp fun prog w A R s h=>by
  obtain⟨hp,g,d,tk,os⟩:=s;obtain⟨hl1,hl2,h⟩:=h;have hsub:=sub_zip;have hL1:Heap.IsTuple (Shared.heap ⟨hp,g,d,tk,os⟩) l us:=hl1;have hL2:Heap.IsTuple (Shared.heap ⟨hp.push {cls:=.type "tuple_iterator",data:=.fields #[.ref l,.int 0 0]},g,d,tk,os⟩) m vs:=ziR hl2 fun o e=>yaf _ e
  wp_walk using yb8 hL1,yb8 hL2
  refine⟨_,rfl,?_⟩;have p {h:Heap}{o':Obj}{a:Addr}{o:Obj} (e:h.get? a=some o):(h.push o').get? a=some o:=yaf _ e
  have u:∀{h:Heap}{o:Obj}{a:Addr},a=h.objs.size->o.isFreed=false->(h.push o).get? a=some o:=fun e ho=>by rw[e];exact yar _ ho
  simp only[yaZ];exact h _ _ rfl (fun c o e=>p (p (p (p (p e))))) ⟨u (by simp only[yaZ]) rfl,p (p (u (by simp only[yaZ]) rfl)),⟨_,_,p (u (by simp only[yaZ]) rfl)⟩,⟨_,p (p (p (p (u rfl rfl)))),rfl,rfl⟩,⟨_,p (p (p (u (by simp only[yaZ]) rfl))),rfl,rfl⟩⟩
end
noncomputable def zFp(a:Nat):List Addr:=(List.range 5).map (a+·)
theorem zeb{a b:Nat}:b∈zFp a↔a<=b/\b<a+5:=by
 unfold zFp;rw[yag];exact⟨fun⟨j,hj,e⟩=>by rw[ybT]at hj;have e:a+j=b:=e;omega,fun⟨h1,h2⟩=>⟨b-a,ybT.mpr (by omega),by show a+(b-a)=b;omega⟩⟩
theorem zh1{a b:Nat}(h:b ∉ zFp a):b<a\/a+4<b:=by rw[zeb]at h;omega
theorem ZSt.keep{a l m i:Nat}{f:Value}{h h':Heap}(Z:ZSt a l m i f h)(k:∀(c:Nat) (o:Obj),a<=c->c<a+5->h.get? c=some o->h'.get? c=some o):ZSt a l m i f h':=
 ⟨k _ _ (by omega) (by omega) Z.z,k _ _ (by omega) (by omega) Z.ti,let ⟨x,y,e⟩:=Z.to;⟨x,y,k _ _ (by omega) (by omega) e⟩,Z.i1.at fun o e=>k _ o (by omega) (by omega) e,Z.i2.at fun o e=>k _ o (by omega) (by omega) e⟩
section
variable{X:Cx}{pins:Z3}{σ:St}{H:Hp}{s:Shared}
noncomputable def ItZ(l m:Addr):It:=
 ⟨fun i H=>∃xs ys,H l=some (.tup xs)/\H m=some (.tup ys)/\i<xs.length/\i<ys.length,
  fun i H v H'=>∃t x y xs ys,v=.ref t/\H t=none/\H'=upd H t (.tup [x,y])/\H l=some (.tup xs)/\H m=some (.tup ys)/\xs[i]?=some x/\ys[i]?=some y,
  fun i H=>∃xs ys,H l=some (.tup xs)/\H m=some (.tup ys)/\i<=xs.length/\i<=ys.length/\(i=xs.length\/i=ys.length)⟩
def zph{fp:List Addr}{T:Addr}{h2:Heap}{tk:Nat}{us:List Value}{ys:List V}(I:Inv X pins σ H s)(hf:∀b∈fp,zmH X pins H b)(hT:T=s.heap.objs.size)(te:IsT h2 T us)
  (k:∀b o,b ∉ fp->s.heap.get? b=some o->h2.get? b=some o) (r:Vals ys us) (h9:us.length<=9):Inv X pins σ (upd H T (.tup ys)) {s with heap:=h2,toks:=tk}/\H T=none:=by
 have fr:H T=none:=by rw[hT];exact I.hok.fresh (yal _)
 refine⟨?_,fr⟩;have I1:Inv X pins σ H {s with heap:=h2,toks:=tk}:=I.turnedL (ch:=fp) (fun b o hb q=>k b o hb q) hf;refine I1.track fr (by rw[hT];exact I.sz) (by rw[hT];exact yaU I.lt) (fun z c q=>?_) (fun p hp=>?_) ?_
 ·obtain⟨v,cq⟩:=I.cell z c q;rw[hT];exact yay cq.lt
 ·rw[hT];exact yay (yao (I.pin p hp).1)
 ·exact⟨yas (r.length ▸ h9) (by decide),us,r,_,te,rfl,_,rfl,rfl⟩
theorem zmS{P:Program}{w:World}{K:PySem.W.Frag}{elts:List Expr}{x1:Nat}{pos:Pos}{a l m:Nat}(hl:l<a)(hm:m<a):
  Turn P w K (.Tuple elts x1 pos) (ItZ l m) (zFp a) (a+4) (fun i h=>ZSt a l m i .none h)where
 mem:=zeb.mpr (by omega)
 obj:=fun i h st b hb=>by
  obtain⟨hz,hI,⟨x,y,hO⟩,⟨o1,e1,_,d1⟩,⟨o2,e2,_,d2⟩⟩:=st;obtain⟨h1,h2⟩:=zeb.mp hb;obtain⟨j,rfl⟩:∃j,b=a+j:=⟨b-a,(Nat.add_sub_cancel' h1).symm⟩
  match j,h2 with
  |0,_=>exact⟨_,e1,fun v e=>by rw[d1]at e;cases e⟩
  |1,_=>exact⟨_,e2,fun v e=>by rw[d2]at e;cases e⟩
  |2,_=>exact⟨_,hI,fun v e=>by cases e⟩
  |3,_=>exact⟨_,hO,fun v e=>by cases e⟩
  |4,_=>exact⟨_,hz,fun v e=>by cases e⟩
  |j+5,h=>omega
 keep:=fun i h h' st k=>st.keep fun c o c1 c2 e=>k _ (zeb.mpr ⟨c1,c2⟩) _ e
 item:=by
  intro X hP hw hK hc i pins s σ H E I hf st hg;subst hP hw hK;obtain⟨xs,ys,g1,g2,hi,hj⟩:=hg;obtain⟨us,ru,t1,_⟩:=I.tuple (SqT.of g1);obtain⟨vs,rv,t2,_⟩:=I.tuple (SqT.of g2);have hT:s.TypeIs (.ref (a+4)) "zip":=⟨_,st.z,rfl⟩;unfold pyNext
  refine yac (wpAny_attempt (ybw (name:=Str.ofString "__next__") hT ycN (ybW ycN hT F.entry_zip_next
   (ziI (A:=X.A.in1) (I.ok.hd hc) st hl hm t1 t2 (by rw[yaq,<-ru.length];exact ycu hi) (by rw[yaq,<-rv.length];exact ycu hj) (fun x y h' tk hx hy a1 a4 a5=>yap ?_)
    (fun e=>by rw[yaq,yaq,<-ru.length,<-rv.length]at e;omega)) (F.args_zip_next_1 _))))
  have ltz:a+4<s.heap.objs.size:=yao st.z;refine⟨_,rfl,wpAny_letOwnedTupleGo_zip a1.z fun h2' hz2 sb=>?_⟩;have kb:∀(c:Nat) (o:Obj),c≠a+4->h'.get? c=some o->h2'.get? c=some o:=fun c o hc e=>(sb.2 c hc).trans e
  obtain⟨x',hx1,hx2⟩:=ru.get (yad hi);obtain⟨y',hy1,hy2⟩:=rv.get (yad hj);rw[ycB,hx1]at hx;cases hx;rw[ycB,hy1]at hy;cases hy;obtain⟨I2,fr⟩:=zph (tk:=tk) (h2:=h2') I hf rfl (kb _ _ (yaU ltz) a4) (fun b o hb q=>kb b o (by have:=zh1 hb;omega) (a5 b o (zh1 hb) q)) (.cons hx2 (.cons hy2 .nil)) (by simp);refine⟨.ref s.heap.objs.size,_,I2,rfl,⟨_,_,_,xs,ys,rfl,fr,rfl,g1,g2,yad hi,yad hj⟩,⟨hz2,kb _ _ (by omega) a1.ti,let ⟨x,y,e⟩:=a1.to;⟨x,y,kb _ _ (by omega) e⟩,a1.i1.at fun o e=>kb _ o (by omega) e,a1.i2.at fun o e=>kb _ o (by omega) e⟩,fun b hb=>?_⟩;rw[zaf (fun e=>by have:=(zeb.mp (e ▸ hb)).2;omega)];exact(hf b hb).1
 done:=by
  intro X hP hw hK hc i pins s σ H E I hf st hg;subst hP hw hK;obtain⟨xs,ys,g1,g2,h1,h2,hi⟩:=hg;obtain⟨us,ru,t1,_⟩:=I.tuple (SqT.of g1);obtain⟨vs,rv,t2,_⟩:=I.tuple (SqT.of g2);have hT:s.TypeIs (.ref (a+4)) "zip":=⟨_,st.z,rfl⟩;unfold pyNext
  refine yac (wpAny_attempt (ybw (name:=Str.ofString "__next__") hT ycN (ybW ycN hT F.entry_zip_next
   (ziI (A:=X.A.in1) (I.ok.hd hc) st hl hm t1 t2 (by rw [yaq,<-ru.length];exact h1) (by rw [yaq,<-rv.length];exact h2) (fun x y h' tk hx hy=>by
     have e1:=(ybh.mp hx).1;have e2:=(ybh.mp hy).1;rw[yaq,<-ru.length]at e1;rw[yaq,<-rv.length]at e2
     omega) (fun _ h' e tk hk he'=>?_)) (F.args_zip_next_1 _))))
  obtain⟨o,ho,hcl⟩:=he';refine yac (wpAny_isInstance (T:="StopIteration") (b:=true) ⟨o,ho,hcl⟩ isSubtype_stop ?_);exact yap ⟨rfl,I.turnedL (ch:=zFp a) (fun b o hb q=>hk b o (zh1 hb) q) hf⟩
 self:=fun _ _ _ _ _ st h=>wpAny_pyIter_zip st.z h
theorem zoe:bootBuiltins "zip"=some (.type "zip"):=by decide +kernel
def zrt(I1:Inv X pins σ H1 s1)(g1:H1 l=some (.tup xs))(g2:H1 m=some (.tup ys))(q:R (ItZ l m) H1):
  wpAny (model X.prog X.w) X.A (call (.type "zip") [.ref l,.ref m]) (fun v s2=>wpAny (model X.prog X.w) X.A (pyIter v) (PIE X pins σ (.Tuple elts x1 tp) R) X.xe s2) X.xe s1:=by
 obtain⟨us,ru,t1,_⟩:=I1.tuple (SqT.of g1);obtain⟨vs,rv,t2,_⟩:=I1.tuple (SqT.of g2);refine callType_new F.called_zip (by decide) (F.typeCall_zip_2 _ _) (F.newCall_zip_2 _ _) (fun o=>F.args_object_init_3 o _ _) F.entry_zip_new zlA ⟨t1,t2,fun h' n hn hk Z=>?_⟩;refine⟨⟨_,Z.z,rfl⟩,wpAny_pyIter_zip Z.z ?_⟩;refine⟨n+4,zFp n,_,_,H1,rfl,I1.kept (t':=s1.toks) hk,zmS ?_ ?_,Z,fun c hb=>?_,q⟩
 ·obtain⟨o,ho,_⟩:=t1;rw[hn];exact yao ho
 ·obtain⟨o,ho,_⟩:=t2;rw[hn];exact yao ho
 ·have hc:s1.heap.objs.size<=c:=hn ▸ (zeb.mp hb).1;exact I1.fpOk hc (I1.hok.fresh hc)
end
end L2
namespace S2
open PySem PySem.Spec PyProof.Rows L2
section
variable{X:Cx}{cl:Cf}{E:St->XK}{e tg:Expr}{f:Fe}{own:Bool}{pos pos':Pos}
noncomputable def zgR:List D->List D->List D
 |x::xs,y::ys=>.tup [x,y]::zgR xs ys|_,_=>[]
theorem ziJ:∀(xs ys:List D),(zgR xs ys).length=min xs.length ys.length
 |[],_=>by simp[zgR]
 |_::_,[]=>by simp[zgR]
 |_::xs,_::ys=>by simp[zgR,ziJ xs ys]
theorem ziK:∀{xs ys:List D}{i:Nat}{d:D},(zgR xs ys)[i]?=some d->∃x y,xs[i]?=some x/\ys[i]?=some y/\d=.tup [x,y]
 |[],_,_,_,h=>by simp[zgR]at h
 |_::_,[],_,_,h=>by simp[zgR]at h
 |x::xs,y::ys,0,d,h=>by
  simp only[zgR,List.getElem?_cons_zero,Option.some.injEq]at h;exact⟨x,y,rfl,rfl,h.symm⟩
 |x::xs,y::ys,i+1,d,h=>by
  simp only[zgR,ycj]at h ⊢;exact ziK h
def zrq(f g:Fe):Fi:=fun ρ S=>(zas [f,g] ρ S).bind fun ds S1=>match ds with|[.tup l,.tup k]=>.ok (zgR l k) S1|_=>.bad
theorem ztq(h1:∀w',Fut w w'->w'.H l1=some (.tup xs))(h2:∀w',Fut w w'->w'.H l2=some (.tup ys))(r1:Shds cl w xs ds)(r2:Shds cl w ys es):ItOk cl w (ItZ l1 l2) (zgR ds es):=by
 have e1:=r1.length;have e2:=r2.length;have el:=ziJ ds es;refine⟨fun w1 F1 i hi=>⟨xs,ys,h1 w1 F1,h2 w1 F1,by omega,by omega⟩,fun w1 F1=>⟨xs,ys,h1 w1 F1,h2 w1 F1,by omega,by omega,by omega⟩,fun w1 F1 i d x H1 hd y=>?_⟩;obtain⟨t,v1,v2,xs',ys',rfl,ht,rfl,g1,g2,hx,hy⟩:=y;obtain⟨z1,z2,hz1,hz2,rfl⟩:=ziK hd;cases (h1 w1 F1).symm.trans g1;cases (h2 w1 F1).symm.trans g2;obtain⟨d1,q1,s1⟩:=r1.get hx;obtain⟨d2,q2,s2⟩:=r2.get hy;rw[hz1]at q1;cases q1;rw[hz2]at q2;cases q2;exact⟨w1.add t _,rfl,zaB ht _,Shd.newT ht (.cons (s1.up F1) (.cons (s2.up F1) .nil))⟩
def zrV(hg:Gl X "zip")(hm:X.mg "zip"=none)(ha:PA X [a,e] (tAs cl E [fa,f]))(hs:starEach [a,e] X.env=(false,eval a X.env)::starEach [e] X.env)(hs2:(backTo pos (starEach [e] X.env)).any (·.1)=false):PI X (.Tuple es kk tp) (.Call (.Name "zip" p) [a,e] [] pos) (tI cl E (zrq fa f)):=by
 intro pins s σ H R' I q;refine Call_ (zht I hg hm L2.zoe (ybF (thn (ha pos pins s σ H (fun vs H1=>∃l m xs ys,vs=[.ref l,.ref m]/\H1 l=some (.tup xs)/\H1 m=some (.tup ys)/\R' (ItZ l m) H1) I ?_) fun us s1 ⟨vs,H1,I1,r1,q1⟩=>?_) hs hs2))
 ·obtain⟨B,w,ρ,S,rfl,R,q⟩:=q;refine⟨B,w,ρ,S,rfl,R,?_⟩;dsimp only[zrq]at q
  cases hf:zas [fa,f] ρ S with
  |bad=>rw[hf]at q;exact q.elim|exc c S1=>rwa[hf]at q|ok ds S1=>
   rw[hf]at q;dsimp only[Out.bind]at q;intro vs w' R2 F2 sh
   have hz:(∃l k,ds=[.tup l,.tup k])\/(match ds with|[.tup l,.tup k]=>Out.ok (zgR l k) S1|_=>.bad)=.bad:=by
    split
    ·exact .inl ⟨_,_,rfl⟩
    ·exact .inr rfl
   rcases hz with⟨l,k,rfl⟩|e
   ·cases sh with
    |cons h1 h2=>
     cases h2 with
     |cons h2 h3=>
      cases h3
      cases h1 with
      |tup e1 k1 r1=>
       cases h2 with
       |tup e2 k2 r2=>
        exact⟨_,_,_,_,rfl,(Fut.refl w').keep _ _ e1 k1 |>.1,(Fut.refl w').keep _ _ e2 k2 |>.1,q _ w' R2 F2 (ztq (fun w1 F1=>(F1.keep _ _ e1 k1).1) (fun w1 F1=>(F1.keep _ _ e2 k2).1) r1 r2)⟩
   ·rw[e]at q;exact q.elim
 ·obtain⟨l,m,xs,ys,rfl,g1,g2,q⟩:=q1
  cases r1 with
  |cons a1 r1=>
   cases r1 with
   |cons a2 r1=>cases r1;cases a1;cases a2;exact zrt I1 g1 g2 q
end
section
variable{X:Cx}{cl:Cf}{E:St->XK}{e:Expr}{f:Fe}{pos':Pos}
def eMt(g:List D->D->Option D)(i:Nat)(f:Fe):Fe:=fun ρ S=>match ρ[i]? with|some (some (_,.lst l))=>(f ρ S).bind fun d S1=>Out.of (g l d) S1|_=>.bad
def zf3(l:List D)(d:D):Option D:=if d.fit 8&&D.fits 8 l then some (.int ((l.countP (zeO · d):Nat):Int))else none
def zfV(l:List D)(d:D):Option D:=if d.fit 8&&D.fits 8 l&&decide (l.length<=1000000)&&zko d l then some (.int ((l.findIdx (zeO · d):Nat):Int))else none
def Rel.lstAny{B:Base}{σ:St}{w:Wd}{ρ:Env}{S:Sto}{i:Nat}{o:Bool}{l:List D}(R:Rel cl B σ w ρ S)(h:ρ[i]?=some (some (o,.lst l))):∃a xs,σ[i]?=some (some (.ref a))/\w.H a=some (.lst xs)/\Shds cl w xs l:=by
 cases o with
 |true=>obtain⟨a,xs,e1,_,h2,t⟩:=R.list h;exact⟨a,xs,e1,h2,t⟩|false=>
  obtain⟨v,e1,sh⟩:=R.slots i false _ h
  cases sh with
  |lst ep k r=>exact⟨_,_,e1,ep,r⟩
noncomputable def MtB(X:Cx)(cl:Cf)(id:String)(g:List D->D->Option D):Prop:=MtM X id fun x vs H Q=>∃(a:Addr) (xs:List V) (l:List D) (w:Wd) (d:D) (v:V) (r:Int),w.H=H/\x=.ref a/\vs=[v]/\w.H a=some (.lst xs)/\Shds cl w xs l/\TopV cl w v d/\g l d=some (.int r)/\Q (.int r) H
theorem zeI{s:Shared}{d:D}:∀{its:List Value}{ds:List D}{as:List Addr},ReadsAll s.heap its (D.pys ds) as->D.fits 8 ds=true->its.countP (fun y=>(SeqAt.readOf s.heap y).eqv d.py)=ds.countP (zeO · d)
 |[],[],_,_,_=>rfl|[],_::_,_,h,_=>by cases h
 |_::_,[],_,h,_=>by cases h
 |v::its,e::ds,_,h,f=>by
  simp only[D.fits,yaa]at f
  cases h with
  |cons h1 h2=>
   rw[List.countP_cons,List.countP_cons,zeI h2 f.2,zia (D.lay f.1).1 h1];rfl
theorem zem{s:Shared}{d:D}:∀{its:List Value}{ds:List D}{as:List Addr},ReadsAll s.heap its (D.pys ds) as->D.fits 8 ds=true->∀(m:Nat) (hm:m<its.length),∃e,ds[m]?=some e/\(SeqAt.readOf s.heap its[m]).eqv d.py=zeO e d
 |[],_,_,_,_,m,hm=>by simp at hm
 |_::_,[],_,h,_,_,_=>by cases h
 |v::its,e::ds,_,h,f,m,hm=>by
  simp only[D.fits,yaa]at f
  cases h with
  |cons h1 h2=>
   cases m with
   |zero=>exact⟨e,rfl,by show(SeqAt.readOf s.heap v).eqv d.py=_;rw[zia (D.lay f.1).1 h1];rfl⟩
   |succ m=>
    obtain⟨e',h3,h4⟩:=zem h2 f.2 m (by simpa using hm);exact⟨e',by simpa using h3,by simpa using h4⟩
theorem zfO{s:Shared}:∀{its:List Value}{ds:List D}{as:List Addr},ReadsAll s.heap its (D.pys ds) as->its.length=ds.length
 |[],[],_,_=>rfl|[],_::_,_,h=>by cases h
 |_::_,[],_,h=>by cases h
 |_::its,_::ds,_,h=>by
  cases h with
  |cons _ h2=>rw[yae,yae,zfO h2]
def znJ(hK:X.K=cl.K)(hu:X.A.units+64<cLine):MtB X cl "list.count" zf3:=by
 intro pins s σ H x vs v us Q I rx rv h;obtain⟨a,xs,l,w,d,v',r,rfl,rfl,rfl,hH,sh,tv,hg,q⟩:=h;unfold zf3 at hg;split at hg
 ·rename_i hf;cases hg;rw[yaa]at hf;cases rx;obtain⟨u,rfl,ru⟩:=rv.one;obtain⟨bs,rb⟩:=zhf I hK tv hf.1 ru;obtain⟨z,its,n,r,hl,e⟩:=I.lstM hH;obtain⟨as,ra⟩:=zdG I hK sh hf.2 r;refine ybN F.slot_list_count ⟨_,e,rfl⟩ F.entry_list_count (F.args_list_count_2 _ _) (SeqAt.list_countAt a _ n none #[] u (fun y=>(SeqAt.readOf s.heap y).eqv d.py)) ⟨e,fun y hy=>zci hu rb hf.1 ra hf.2 y hy,?_⟩;rw[zeI ra hf.2];exact⟨.int _,w.H,I.tok _,⟨_,rfl⟩,q⟩
 ·cases hg
theorem znI(hK:X.K=cl.K)(hu:X.A.units+64<cLine):MtB X cl "list.index" zfV:=by
 intro pins s σ H x vs v us Q I rx rv h;obtain⟨a,xs,l,w,d,v',r,rfl,rfl,rfl,hH,sh,tv,hg,q⟩:=h;unfold zfV at hg;split at hg
 ·rename_i hf;cases hg;simp only[yaa,yaT]at hf;obtain⟨⟨⟨f1,f2⟩,f3⟩,f4⟩:=hf;cases rx;obtain⟨u,rfl,ru⟩:=rv.one;obtain⟨bs,rb⟩:=zhf I hK tv f1 ru;obtain⟨z,its,n,r,hl,e⟩:=I.lstM hH;obtain⟨as,ra⟩:=zdG I hK sh f2 r;have hlen:=zfO ra
  have hlt:l.findIdx (zeO · d)<l.length:=by
   rw[List.findIdx_lt_length];unfold zko at f4;rwa[List.any_eq_true]at f4
  refine ybN F.slot_list_index ⟨_,e,rfl⟩ F.entry_list_index (F.args_list_index_2 _ _) (SeqAt.list_indexAt a _ n none #[] u (fun y=>(SeqAt.readOf s.heap y).eqv d.py) (l.findIdx (zeO · d)) (by rw[yaq];omega) (by omega) ?_ ?_) ⟨e,fun y hy=>zci hu rb f1 ra f2 y hy,?_⟩
  ·obtain⟨e',h1,h2⟩:=zem (d:=d) ra f2 (l.findIdx (zeO · d)) (by omega);simp only[List.getElem_toArray];rw[h2];rw[yad hlt]at h1;cases h1;exact List.findIdx_getElem (w:=hlt)
  ·intro m hm hmj
   have lm:m<its.length:=by rwa[yaq]at hm
   obtain⟨e',h1,h2⟩:=zem (d:=d) ra f2 m lm;simp only[List.getElem_toArray];rw[h2];rw[yad (by omega)]at h1;cases h1;exact List.not_of_lt_findIdx hmj
  ·exact⟨.int _,w.H,I.tok _,⟨_,rfl⟩,q⟩
 ·cases hg
def zr5{id:String}{ap cp:Pos}(slot:Slot "list" name id)(hty:typeOf (.builtin id)=pure (.type "method_descriptor"))(hm:MtB X cl id g)(hgb:∀l d r,g l d=some r->∃n,r=.int n)
  (hN:X.N[i]?=some x) (hv:Vis X.env.scope x) (hd:(x==("__debug__":Str))=false) (hcd:(x==("__classdict__":Str))=false) (he:PE X e (tH cl E f)) (hpl:zbx e=true) (hln:(ap.endLine==cp.line)=true):
  PE X (.Call (.Attribute (.Name x pos') name ap) [e] [] cp) (tE cl E (eMt g i f)):=by
 refine PE.imp (zlo (es:=[]) ybc slot hty hm (za0 hN hv hd hcd) (zkQ he zow (zbd hpl)) (hfew:=zfX (by simp[hpl]) (by simp)) (hline:=hln) (hs:=zbd hpl) (hplain:=rfl)) ?_;rintro σ H Q ⟨B,w,ρ,S,rfl,R,q⟩
 have key:(∃o l,ρ[i]?=some (some (o,.lst l)))\/eMt g i f ρ S=.bad:=by
  unfold eMt;split
  ·rename_i o l hl;exact .inl ⟨o,l,hl⟩
  ·exact .inr rfl
 rcases key with⟨o,l,hl⟩|hb
 ·have e':eMt g i f ρ S=(f ρ S).bind fun d S1=>Out.of (g l d) S1:=by unfold eMt;rw[hl]
  rw[e']at q;obtain⟨a,xs,e1,h2,t⟩:=R.lstAny hl;refine⟨_,e1,.inl ⟨rfl,_,SqL.of h2⟩,B,w,ρ,S,rfl,R,?_⟩
  cases hf:f ρ S with
  |bad=>rw[hf]at q;exact q.elim|exc c S1=>
   rw[hf]at q;simp only[zas,hf,Out.bind];exact q
  |ok d S1=>
   rw[hf]at q;simp only[zas,hf,Out.bind];intro vs w' R' F' sh;dsimp only[Out.bind]at q
   cases hg:g l d with
   |none=>rw[hg]at q;exact q.elim|some r=>
    rw[hg]at q;obtain⟨n,rfl⟩:=hgb l d r hg;obtain⟨a',xs',e1',h2',t'⟩:=R'.lstAny hl;rw[e1]at e1';cases e1'
    cases sh with
    |cons h1 hn=>
     cases hn;exact⟨a,xs',l,w',d,_,n,rfl,rfl,rfl,h2',t',h1.top R',hg,q _ w' R' F' (.int _)⟩
 ·rw[hb]at q;exact q.elim
end
noncomputable def zkp(g:Str->Str->Option Bool)(C:Str):D->Option D
 |.exc c=>(g c C).map .bl|_=>none
noncomputable def clsV(cl:Cf)(C:Str):Value:=if C="ValueError"then .type "ValueError"else .ref (cl C)
section
variable{X:Cx}{cl:Cf}{E:St->XK}{own:Bool}{e:Expr}{f fe:Fe}{pos pos':Pos}
def Shd.excI{w:Wd}{v:V}{c:Str}(h:Shd cl w v (.exc c)):∃a ob,v=.ref a/\w.H a=some (.frz ob (.own a))/\ob.cls=.ref (cl c):=by
 cases h with
 |exc h1 _ h2=>exact⟨_,_,rfl,h1,h2⟩
theorem TopV.excI{w:Wd}{v:V}{c:Str}(h:TopV cl w v (.exc c)):∃a ob,v=.ref a/\w.H a=some (.frz ob (.own a))/\ob.cls=.ref (cl c):=by
 cases h with
 |sh h=>exact h.excI|ow _ t=>cases t
theorem zkd:bootBuiltins "ValueError"=some (.type "ValueError"):=by decide +kernel
def zoy{g:Str->Str->Option Bool}{C:Str}{vC:V}{p p2:Pos}(hg:Gl X "isinstance")(hm:X.mg "isinstance"=none)(hC:PE X (.Name C p2) (tC vC))(hv:∀u,zaV vC u->u=clsV cl C)
  (hk:∀c b,g c C=some b->PySem.W.ExcCls X.K (cl c)/\PySem.W.kitOne X.K (.ref (cl c)) (clsV cl C)=some b) (hp:zbx e=true) (he:PE X e (tH cl E f)):
  PE X (.Call (.Name "isinstance" p) [e,.Name C p2] [] pos) (tE cl E (eUn (zkp g C) f)):=by
 refine PE.imp (zcP zkb hg hm zhP (zba he (zba hC zcg rfl) (zbd hp)) (he:=zbd hp) (hpl:=rfl)) ?_;rintro σ H Q ⟨B,w,ρ,S,rfl,R,q⟩;refine⟨B,w,ρ,S,rfl,R,?_⟩;unfold eUn at q
 cases hf:f ρ S with
 |bad=>rwa[hf]at q|exc c S1=>rwa[hf]at q|ok d S1=>
  rw[hf]at q;intro v w1 R1 F1 h1;dsimp only[Out.bind]at q
  cases d with
  |exc c=>
   dsimp only[zkp]at q
   cases hb:g c C with
   |none=>rw[hb]at q;exact q.elim|some b=>
    rw[hb]at q;obtain⟨k1,k2⟩:=hk c b hb;obtain⟨a,ob,rfl,h2,h3⟩:=(h1.top R1).excI;exact⟨a,_,ob,vC,_,b,rfl,h2,h3,k1,hv,k2,q _ w1 R1 F1 (.bl _)⟩
  |_=>exact q.elim
end
end S2
namespace PySem.F
end PySem.F
namespace L2
open PySem PySem.Spec PyProof.Rows
end L2
namespace PySem.F
end PySem.F
namespace L2
open PySem PySem.Spec PyProof.Rows
end L2
namespace S2
open PySem PySem.Spec PyProof.Rows L2
section
variable{X:Cx}{cl:Cf}{E:St->XK}{e:Expr}{f:Fe}{pos:Pos}
noncomputable def zqL:D->Option (List Int)|.tup l=>zeG l|_=>none
def keysOf:List D->Option (List (List Int))
 |[]=>some []|d::l=>(zqL d).bind fun k=>(keysOf l).bind fun ks=>some (k::ks)
def zdK:D->Option D|.tup l=>(keysOf l).bind fun ks=>if ks.length<=5/\ks.Nodup then some (.int ks.length)else none|_=>none
theorem zlM{K:PySem.W.Frag}{w:Wd}:∀{xs:List V}{ds:List D}{ks:Z2},Shds cl w xs ds->keysOf ds=some ks->zhY K w.H xs ks
 |_,_,ks,.nil,h=>by cases h;exact .nil
 |_,_,ks,.cons r t,h=>by
  unfold keysOf at h;rename_i v d vs ds'
  cases hk:zqL d with
  |none=>rw[hk]at h;cases h|some k=>
   rw[hk]at h;dsimp only[Option.bind]at h
   cases hks:keysOf ds' with
   |none=>rw[hks]at h;cases h|some ks'=>
    rw[hks]at h;cases h;refine .cons ?_ (zlM t hks)
    cases r with
    |tup e' _ rs=>
     have:zeG _=some k:=hk;obtain rfl:=zlX rs this;exact⟨_,rfl,SqT.of e'⟩
    |_=>cases hk
theorem zkW{p p2 pos2:Pos}(hc:X.calm=true)(hu:X.A.units+8<cLine)(hg:Gl X "len")(hm:X.mg "len"=none)(hg2:Gl X "set")(hm2:X.mg "set"=none)(he:PE X e (tE cl E f))(hs:starEach [e] X.env=[(false,eval e X.env)]):
  PE X (.Call (.Name "len" p) [.Call (.Name "set" p2) [e] [] pos2] [] pos) (tE cl E (eUn zdK f)):=by
 refine PE.imp (zcP zgH hg hm PySem.boot_len (zba (ze3 (zfJ hc hu) hg2 hm2 (by decide +kernel) (zaR he zeB hs) (he:=hs) (hpl:=rfl)) zcg)) ?_;rintro σ H Q ⟨B,w,ρ,S,rfl,R,q⟩;refine⟨B,w,ρ,S,rfl,R,?_⟩;unfold eUn at q
 cases hf:f ρ S with
 |bad=>rw[hf]at q;exact q.elim|exc c S1=>rw[hf]at q;simp only[zas,hf,Out.bind];exact q|ok d S1=>
  rw[hf]at q;simp only[zas,hf,Out.bind];intro vs w1 R1 F1 sh;dsimp only[Out.bind]at q
  cases d with
  |tup l=>
   cases hk:keysOf l with
   |none=>simp[zdK,hk,Out.of]at q|some ks=>
    by_cases h18:ks.length<=5/\ks.Nodup
    ·simp only[zdK,hk,Option.bind,if_pos h18]at q
     cases sh with
     |cons h1 hn=>
      cases hn
      cases h1 with
      |tup ep k r=>
       refine⟨_,_,ks,rfl,SqT.of ep,zlM r hk,h18.1,h18.2,fun l hl=>?_⟩;refine⟨l,_,rfl,zaq,yas h18.1 (by decide),?_⟩;exact q _ (w1.add l (.ext (zjE l ks.length))) (R1.grow (zaB hl _)) (F1.trans (zaB hl _).fut) (.int _)
    ·simp only[zdK,hk,Option.bind,if_neg h18,Out.of]at q
  |_=>exact q.elim
end
noncomputable def zjU(f:Str)(o:Bool)(d:D):List (Str×Bool×D)->List (Str×Bool×D)
 |[]=>[(f,o,d)]|(g,x)::r=>if g=f then(g,o,d)::r else(g,x)::zjU f o d r
def Ob.put(ob:Ob)(f:Str)(o:Bool)(d:D):Ob:=⟨ob.cls,zjU f o d ob.fs⟩
section
variable{cl:Cf}{w:Wd}{n:Nat}
def zc2.len(h:zc2 cl w n fs gs):fs.length=gs.length:=Paired.length h
def zc2.look(h:zc2 cl w n fs gs)(e:gs.lookup f=some (o,d)):∃v,fs.lookup f=some v/\ziG cl w (.fld n f) o v d:=by
 induction h with
 |nil=>cases e| @cons p q l1 l2 h t ih=>
  obtain⟨h1,h2⟩:=h;obtain⟨g,v⟩:=p;obtain⟨g',o',d'⟩:=q;have h1':g=g':=h1;subst h1';rw[yaB]at e ⊢
  cases hb:f==g with
  |true=>
   rw[hb]at e;cases e;have:=eq_of_beq hb;subst this;exact⟨v,rfl,h2⟩
  |false=>
   rw[hb]at e;exact ih e
def zc2.miss(h:zc2 cl w n fs gs)(e:gs.lookup f=none):fs.lookup f=none:=by
 induction h with
 |nil=>rfl| @cons p q l1 l2 h t ih=>
  obtain⟨h1,h2⟩:=h;obtain⟨g,v⟩:=p;obtain⟨g',o',d'⟩:=q;have h1':g=g':=h1;subst h1';rw[yaB]at e ⊢
  cases hb:f==g with
  |true=>rw[hb]at e;cases e|false=>rw[hb]at e;exact ih e
def zc2.put(h:zc2 cl w n fs gs)(hy:ziG cl w (.fld n f) o y d):zc2 cl w n (zdv f y fs) (zjU f o d gs):=by
 induction h with
 |nil=>exact .cons ⟨rfl,hy⟩ .nil| @cons p q l1 l2 h t ih=>
  obtain⟨h1,h2⟩:=h;obtain⟨g,v⟩:=p;obtain⟨g',o',d'⟩:=q;have h1':g=g':=h1;subst h1';show zc2 cl w n (if g=f then(g,y)::l1 else(g,v)::zdv f y l1) (if g=f then(g,o,d)::l2 else(g,o',d')::zjU f o d l2)
  by_cases hg:g=f
  ·subst hg;rw[if_pos rfl,if_pos rfl];exact .cons ⟨rfl,hy⟩ t
  ·rw[if_neg hg,if_neg hg];exact .cons ⟨rfl,h2⟩ ih
def zc2.keepBut(f:Fut w w')(k:∀a o g,g≠x->w.H a=some o->w.ow a=some (.fld n g)->w'.H a=some o/\w'.ow a=some (.fld n g))(h:zc2 cl w n fs gs)(hn:∀q∈gs,q.1=x->q.2.1=false):zc2 cl w' n fs gs:=by
 induction h with
 |nil=>exact .nil| @cons p q l1 l2 h t ih=>
  obtain⟨h1,h2⟩:=h;refine .cons ⟨h1,?_⟩ (ih fun q hq=>hn q (yak _ hq))
  by_cases hx:q.1=x
  ·have ho:=hn q yam hx;rw[ho]at h2 ⊢
   rcases h2 with⟨_,h2⟩|⟨e,_⟩
   ·exact .inl ⟨rfl,Shd.up f h2⟩
   ·cases e
  ·exact h2.keep f fun a o ha hr=>k a o q.1 hx ha hr
def zc2.keepF(f:Fut w w')(k:∀a o g,w.H a=some o->w.ow a=some (.fld n g)->w'.H a=some o/\w'.ow a=some (.fld n g))(h:zc2 cl w n fs gs):zc2 cl w' n fs gs:=by
 induction h with
 |nil=>exact .nil| @cons p q l1 l2 h t ih=>exact .cons ⟨h.1,h.2.keep f fun a o ha hr=>k a o q.1 ha hr⟩ ih
variable{B:Base}{σ:St}{ρ:Env}{S:Sto}
def World'.atObj(W:World' cl B w S)(h:S[n]?=some ob)(e:w.mu[n]?=some a):zuc cl w n a ob:=by
 obtain⟨a',e',x⟩:=W.obj n ob h;rw[e]at e';cases e';exact x
def zij(h:(S.set n ob)[m]?=some ob'):(m=n/\ob'=ob)\/(m≠n/\S[m]?=some ob'):=by
 by_cases e:n=m
 ·subst e
  have hlt:n<S.length:=by
   have:=(yan.mp h).1;rwa[yaN]at this
  rw[yaC hlt]at h;cases h;exact .inl ⟨rfl,rfl⟩
 ·rw[yaQ e]at h;exact .inr ⟨fun z=>e z.symm,h⟩
def Rel.setf(R:Rel cl B σ w ρ S)(hn:S[n]?=some ob)(hmu:w.mu[n]?=some a)(how:w.ow a=some (.obj n))(hH:w.H a=some (.ins (cl ob.cls) dx fs))(hF:zc2 cl w n fs ob.fs)(hy:Shd cl w y d):
  Rel cl B σ (w.mut a (.ins (cl ob.cls) dx (zdv f y fs))) ρ (S.set n (ob.put f false d))/\Fut w (w.mut a (.ins (cl ob.cls) dx (zdv f y fs))):=by
 have ff:=zen (w:=w) (p:=a) (o:=.ins (cl ob.cls) dx (zdv f y fs)) (by rw[how];exact yaF _)
 have kp:∀b u,w.H b=some u->w.ow b≠some (.obj n)->(w.mut a (.ins (cl ob.cls) dx (zdv f y fs))).H b=some u/\(w.mut a (.ins (cl ob.cls) dx (zdv f y fs))).ow b=w.ow b:=fun b u hb hne=>⟨by
  show upd w.H a _ b=_
  rw[zaf (fun z=>hne (by rw[z];exact how))];exact hb,rfl⟩
 have hB:B.Fr a=none:=(R.wd.own a _ how).elim (fun z=>by cases z) fun z=>z
 refine⟨⟨⟨fun b u h=>?_,R.wd.own,by rw[yaN];exact R.wd.len,fun m ob' h=>?_,R.wd.tab.keep ff fun P ps h1 h2=>⟨(kp P _ h1 (by rw[h2];simp)).1,(kp P _ h1 (by rw[h2];simp)).2.trans h2⟩⟩,R.len,fun i o e h=>?_⟩,ff⟩
 ·refine⟨?_,(R.wd.fr b u h).2⟩;show upd w.H a _ b=_;rw[zaf (fun z=>by rw[z,hB]at h;cases h)];exact(R.wd.fr b u h).1
 ·rcases zij h with⟨rfl,rfl⟩|⟨hne,h⟩
  ·refine⟨a,hmu,how,dx,_,zaq,?_⟩;exact zc2.put (hF.keepF ff fun b u g hb hg=>⟨(kp b u hb (by rw[hg];exact fun z=>by cases z)).1,hg⟩) (.inl ⟨rfl,hy.up ff⟩)
  ·obtain⟨b,e,x⟩:=R.wd.obj m ob' h;exact⟨b,e,x.keep ff fun b u hb hm=>kp b u hb fun z=>by rw[z]at hm;exact hne hm.symm⟩
 ·obtain⟨v,e1,x⟩:=R.slots i o e h;exact⟨v,e1,x.keep ff fun b u hb hr=>⟨(kp b u hb (by rw[hr];exact fun z=>by cases z)).1,hr⟩⟩
def Wd.addF(w:Wd)(p:Addr)(o:HO)(n:Nat)(f:Str):Wd:=⟨upd w.H p o,fun b=>if b=p then some (.fld n f)else w.ow b,w.mu⟩
noncomputable def zeE(ob:Ob):Bool:=decide (ob.fs.map (·.1)).Nodup
def zc2.dic(ff:Fut w w')(k:∀b o g,g≠f->w.H b=some o->w.ow b=some (.fld n g)->w'.H b=some o/\w'.ow b=some (.fld n g))(hy:ziG cl w' (.fld n f) true (.ref a) d):∀{fs:List (Str×V)}{gs:List (Str×Bool×D)},zc2 cl w n fs gs->(gs.map (·.1)).Nodup->fs.lookup f=some (.ref a)->zc2 cl w' n fs (zjU f true d gs):=by
 intro fs gs h
 induction h with
 |nil=>intro _ e;cases e| @cons p q l1 l2 h t ih=>
  intro nd e;obtain⟨h1,h2⟩:=h;obtain⟨g,v⟩:=p;obtain⟨g',o',d'⟩:=q;have h1':g=g':=h1;subst h1';rw[yaw,ya7]at nd;show zc2 cl w' n ((g,v)::l1) (if g=f then(g,true,d)::l2 else(g,o',d')::zjU f true d l2);rw[yaB]at e
  by_cases hg:g=f
  ·subst hg;rw[if_pos rfl];simp only[ybi]at e;cases e;refine .cons ⟨rfl,hy⟩ ?_;have t':zc2 cl w n l1 l2:=t;exact t'.keepBut ff k fun q hq hx=>absurd (yag.mpr ⟨q,hq,hx⟩) nd.1
  ·rw[if_neg hg];have hb:(f==g)=false:=ya4.mpr fun z=>hg z.symm
   rw[hb]at e;exact .cons ⟨rfl,h2.keep ff fun b o hb hr=>k b o g hg hb hr⟩ (ih nd.2 e)
def Wd.addO(w:Wd)(x dx C:Addr)(n:Nat):Wd:=⟨upd (upd w.H dx (.own x)) x (.ins C dx []),fun b=>if b=x then some (.obj n)else if b=dx then none else w.ow b,w.mu++[x]⟩
theorem Rel.made(R:Rel cl B σ w ρ S)(hx:w.H x=none)(hdx:w.H dx=none)(ne:dx≠x):Rel cl B σ (w.addO x dx (cl c) S.length) ρ (S++[⟨c,[]⟩])/\Fut w (w.addO x dx (cl c) S.length):=by
 have kp:∀b o,w.H b=some o->(w.addO x dx (cl c) S.length).H b=some o/\(w.addO x dx (cl c) S.length).ow b=w.ow b:=fun b o hb=>by
  have n1:b≠x:=zav hb hx;have n2:b≠dx:=zav hb hdx;refine⟨?_,?_⟩
  ·show upd (upd w.H dx _) x _ b=_;rw[zaf n1,zaf n2];exact hb
  ·show(if b=x then _ else if b=dx then _ else w.ow b)=_;rw[if_neg n1,if_neg n2]
 have ff:Fut w (w.addO x dx (cl c) S.length):=⟨fun b o hb hk=>⟨(kp b o hb).1,(kp b o hb).2.trans hk⟩,fun n a h=>by
  show(w.mu++[x])[n]?=some a
  rw[yaE (yan.mp h).1];exact h⟩
 have hBx:B.Fr x=none:=by
  cases z:B.Fr x with
  |none=>rfl|some u=>have:=(R.wd.fr x u z).1;rw[hx]at this;cases this
 refine⟨⟨⟨fun b o h=>?_,fun b r h=>?_,by show(w.mu++[x]).length=_;rw[yah,yah,R.wd.len];rfl,fun m ob h=>?_,R.wd.tab.keep ff fun P ps h1 h2=>⟨(kp P _ h1).1,(kp P _ h1).2.trans h2⟩⟩,R.len,fun i o e h=>?_⟩,ff⟩
 ·have:=kp b o (R.wd.fr b o h).1;exact⟨this.1,this.2.trans (R.wd.fr b o h).2⟩
 ·have h':(if b=x then some (Root.obj S.length)else if b=dx then none else w.ow b)=some r:=h;split at h'
  ·rename_i z;rw[z];exact .inr hBx
  ·split at h'
   ·cases h'
   ·exact R.wd.own b r h'
 ·by_cases hm:m<S.length
  ·rw[yaE hm]at h;obtain⟨b,e,y⟩:=R.wd.obj m ob h;exact⟨b,ff.mu _ _ e,y.keep ff fun b o hb _=>kp b o hb⟩
  ·have hm':m=S.length:=by
    have:=(yan.mp h).1;rw[yah,ycw]at this;omega
   subst hm';rw[yax (yal _),yb5]at h;cases h;refine⟨x,?_,if_pos rfl,dx,[],zaq,.nil⟩;show(w.mu++[x])[S.length]?=some x;rw[yax (by rw[R.wd.len];exact yal _),R.wd.len,yb5];rfl
 ·obtain⟨v,e1,y⟩:=R.slots i o e h;exact⟨v,e1,y.keep ff fun b o hb hr=>⟨(kp b o hb).1,(kp b o hb).2.trans hr⟩⟩
end
noncomputable def zo1(cn f:Str)(d:D)(S:Sto):Option D:=match d with
 |.ref n=>(match S[n]? with
  |some ob=>if ob.cls=cn then(match ob.fs.lookup f with|some (false,d)=>some d|_=>none)else none
  |none=>none)
 |_=>none
def zmi(cn f:Str)(fe:Fe):Fe:=fun ρ S=>(fe ρ S).bind fun d S1=>match zo1 cn f d S1 with|some r=>.ok r S1|none=>.bad
noncomputable def zga(cl:Cf)(cn f:Str):Prop:=Cls cl.K (cl cn)/\zcx cl.K (cl cn) f
section
variable{cl:Cf}{cn:Str}{X:Cx}{E:St->XK}{e:Expr}{fe:Fe}{f:Str}{pos:Pos}{B:Base}{σ:St}{w:Wd}{ρ:Env}{S:Sto}
def zfA(R:Rel cl B σ w ρ S)(hv:Shd cl w v (.ref n))(hn:S[n]?=some ob):∃a dx fs,v=.ref a/\w.mu[n]?=some a/\w.ow a=some (.obj n)/\w.H a=some (.ins (cl ob.cls) dx fs)/\zc2 cl w n fs ob.fs:=by
 cases hv with
 |ref e=>
  obtain⟨h1,dx,fs,h2,h3⟩:=R.wd.atObj hn e;exact⟨_,dx,fs,rfl,e,h1,h2,h3⟩
def zt3(hk:zga cl cn f)(R:Rel cl B σ w ρ S)(hv:Shd cl w v d)(hd:zo1 cn f d S=some r):∃a C dx fs y,v=.ref a/\w.H a=some (.ins C dx fs)/\Cls cl.K C/\zcx cl.K C f/\fs.lookup f=some y/\Shd cl w y r:=by
 unfold zo1 at hd
 cases d with
 |ref n=>
  dsimp only at hd
  cases hS:S[n]? with
  |none=>rw[hS]at hd;cases hd|some ob=>
   rw[hS]at hd;dsimp only at hd;split at hd
   ·rename_i hfk;split at hd
    ·rename_i d hl;cases hd;obtain⟨a,dx,fs,rfl,_,_,hH,hF⟩:=zfA R hv hS;obtain⟨v,lv,fr⟩:=hF.look hl
     rcases fr with⟨_,fr⟩|⟨z,_⟩
     ·exact⟨a,_,dx,fs,v,rfl,hH,hfk ▸ hk.1,hfk ▸ hk.2,lv,fr⟩
     ·cases z
    ·cases hd
   ·cases hd
 |_=>cases hd
def zr7(hk:zga cl cn f)(kk:X.K=cl.K)(he:PE X e (tE cl E fe))(hb:attributeBase e f X.env (eval e X.env)=eval e X.env):PE X (.Attribute e f pos) (tE cl E (zmi cn f fe)):=by
 refine PE.imp (zcr he hb) ?_;rintro σ H Q ⟨B,w,ρ,S,rfl,R,q⟩;refine⟨B,w,ρ,S,rfl,R,?_⟩;unfold zmi at q
 cases hf:fe ρ S with
 |bad=>rwa[hf]at q|exc c S1=>rwa[hf]at q|ok d S1=>
  rw[hf]at q;intro v w1 R1 F1 h1;dsimp only[Out.bind]at q
  cases hd:zo1 cn f d S1 with
  |none=>rw[hd]at q;exact q.elim|some r=>
   rw[hd]at q;obtain⟨a,C,dx,fs,y,rfl,e1,e2,e3,e4,e5⟩:=zt3 hk R1 h1 hd;rw[kk];exact⟨a,C,dx,fs,y,rfl,e1,e2,e3,e4,q y w1 R1 F1 e5⟩
end
end S2
namespace L2
open PySem PySem.Spec PyProof.Rows
end L2
namespace S2
open PySem PySem.Spec PyProof.Rows L2
def zk1(cn f:Str)(fo fe:Fe):Fs:=fun ρ S=>match fe ρ S with
 |.bad=>.bad|.exc c S1=>.ex c ρ S1|.ok r S1=>(match fo ρ S1 with
  |.bad=>.bad|.exc c S2=>.ex c ρ S2|.ok (.ref n) S2=>(match S2[n]? with
   |some ob=>if decide (ob.cls=cn)&&decide (ob.fs.length<1000)then .nx ρ (S2.set n (ob.put f false r))else .bad
   |none=>.bad)
  |.ok _ _=>.bad)
noncomputable def zaG(c m:Str)(d:D)(S:Sto):Bool:=match d with
 |.ref n=>(match S[n]? with|some ob=>decide (ob.cls=c)&&(ob.fs.lookup m).isNone|none=>false)
 |_=>false
def zaU(c m:Str)(G:List D->Sto->Out D)(fo:Fe)(fs:List Fe):Fe:=fun ρ S=>(fo ρ S).bind fun d S1=>if zaG c m d S1 then(zas fs ρ S1).bind fun ds S2=>G (d::ds) S2 else .bad
def eMk(c:Str)(dds:List D)(G:List D->Sto->Out D)(fs:List Fe):Fe:=fun ρ S=>(zas fs ρ S).bind fun ds S1=>(G (.ref S1.length::(ds++dds)) (S1++[⟨c,[]⟩])).bind fun r S2=>match r with|.non=>.ok (.ref S1.length) S2|_=>.bad
structure Same'(cl:Cf)(X:Cx):Prop where
 kk:X.K=cl.K
 pp:X.prog=cl.P
 ww:X.w=cl.wo
section
variable{cl:Cf}{cn:Str}{X:Cx}{E:St->XK}{a o e:Expr}{fa fo fe:Fe}{f:Str}{pos apos:Pos}{own:Bool}
def zpE(sm:Same' cl X)(hk:zga cl cn f)(ho:PE X o (tE cl E fo))(he:PE X e (tE cl E fe))(hs:swapsWith e (some (.Attribute o f apos)) pos.line X.env=pure false):PS X (.Assign [.Attribute o f apos] e pos) (tS cl E own (zk1 cn f fo fe)):=by
 refine PS.imp (zjb ho he hs) ?_;rintro De σ H ⟨B,w,ρ,S,rfl,R,q⟩;refine⟨B,w,ρ,S,rfl,R,?_⟩;unfold zk1 at q
 cases hf:fe ρ S with
 |bad=>rwa[hf]at q|exc c S1=>rw[hf]at q;exact fun w' R' F'=>q σ w' R' F'|ok r S1=>
  rw[hf]at q;intro v w1 R1 F1 h1;dsimp only at q;refine⟨B,w1,ρ,S1,rfl,R1,?_⟩
  cases hfo:fo ρ S1 with
  |bad=>rwa[hfo]at q|exc c S2=>rw[hfo]at q;exact fun w' R' F'=>q σ w' R' (F1.trans F')|ok d S2=>
   rw[hfo]at q;intro y w2 R2 F2 h2
   cases d with
   |ref n=>
    dsimp only at q
    cases hS:S2[n]? with
    |none=>rw[hS]at q;exact q.elim|some ob=>
     rw[hS]at q;dsimp only at q;split at q
     ·rename_i hc0;rw[yaa]at hc0;obtain⟨a,dx,fs,rfl,hmu,how,hH,hF⟩:=zfA R2 h2 hS;rw[sm.kk];refine⟨a,_,dx,fs,rfl,hH,yaj hc0.1 ▸ hk.1,yaj hc0.1 ▸ hk.2,by rw[hF.len];exact yaj hc0.2,?_⟩;obtain⟨R3,F3⟩:=R2.setf (f:=f) hS hmu how hH hF (h1.up F2);exact q σ _ R3 (F1.trans (F2.trans F3))
     ·exact q.elim
   |_=>exact q.elim
end
noncomputable def zgW(C:Addr)(m:Str)(sp:Sp)(dvs:List V)(E:St->XK)(ta:TE)(t:TA):TE:=fun σ H Q=>ta σ H fun x H1=>∃a dx fs,x=.ref a/\H1 a=some (.ins C dx fs)/\fs.lookup m=none ∧
 t σ H1 fun vs H2=>sp (x::(vs++dvs)) H2 Q (E σ)
noncomputable def zoq(C:Addr)(sp:Sp)(dvs:List V)(E:St->XK)(t:TA):TE:=fun σ H Q=>t σ H fun vs H1=>∀x dx,H1 x=none->H1 dx=none->dx≠x →
 sp (.ref x::(vs++dvs)) (upd (upd H1 dx (.own x)) x (.ins C dx [])) (fun v H2=>v=.non/\Q (.ref x) H2) (E σ)
section
variable{X:Cx}{CX:CXT}{k:Nat}{f C:Addr}{fd:FuncData}{ps:List Str}{sp:Sp}{dvs:List V}{ds:List Value}{E:St->XK}{x m:Str}{p pos apos:Pos}{e o:Expr}{es:List Expr}{ta:TE}{t:TA}
def zno(he:PE X o ta)(c:Cls X.K C)(hm:Meth X.K C m f)(F:FnOk X.prog X.w X.K X.mg X.base CX k f fd ps sp)(hr:Room k X.A)(hb:zcZ X.K fd ps ds)(hd:Vals dvs ds)(hx:zdm CX X E)(ha:PA X (e::es) t)
  (hst:starEach (e::es) X.env=(false,eval e X.env)::starEach es X.env) (hpl:(backTo pos (starEach es X.env)).any (·.1)=false)
  (ht:eval (.Call (.Attribute o m apos) (e::es) [] pos) X.env=(do
   let ov ← eval o X.env
   standAt apos.atName
   let (f,first) ← holding [ov] (getMethod ov m pl)
   callWith pos f first (backTo pos (starEach (e::es) X.env)) (backToKw pos (keywordEach [] X.env)))):
  PE X (.Call (.Attribute o m apos) (e::es) [] pos) (zgW C m sp dvs E ta t):=by
 intro pins s σ H Q I h;refine PySem.W.methodCall_KW (pl:=pl) (thn (he pins s σ H _ I h) fun u s1 ⟨x,H1,I1,rx,a,dx,fs,ex,ea,l,q⟩=>?_) ht;subst ex;obtain rfl:u=Value.ref a:=rx;refine zfW I1 ea c hm l ?_;refine ybC (first:=[.ref a]) (h₀:=X.base) I.ok.mod.kin hm.kp (thn (ha pos pins s1 σ H1 _ I1 q) fun us s2 ⟨vs,H2,I2,r,q2⟩=>⟨I2.kIn,?_⟩) hst hpl;exact zgj (us:=.ref a::us) (vs:=.ref a::vs) F hr hb hd hx I2 (.cons rfl r) q2
def zlm(he:PE X o ta)(c:Cls X.K C)(hm:Meth X.K C m f)(F:FnOk X.prog X.w X.K X.mg X.base CX k f fd ps sp)(hr:Room k X.A)(hb:zcZ X.K fd ps ds)(hd:Vals dvs ds)(hx:zdm CX X E)
  (ht:eval (.Call (.Attribute o m apos) [] [] pos) X.env=(do
   let ov ← eval o X.env
   standAt apos.atName
   let (f,first) ← holding [ov] (getMethod ov m pl)
   callWith pos f first (backTo pos (starEach [] X.env)) (backToKw pos (keywordEach [] X.env)))):
  PE X (.Call (.Attribute o m apos) [] [] pos) (zgW C m sp dvs E ta zuj):=by
 intro pins s σ H Q I h;refine PySem.W.methodCall_KW (pl:=pl) (thn (he pins s σ H _ I h) fun u s1 ⟨x,H1,I1,rx,a,dx,fs,ex,ea,l,q⟩=>?_) ht;subst ex;obtain rfl:u=Value.ref a:=rx;refine zfW I1 ea c hm l ?_;exact PySem.W.callWith_K0 (first:=[.ref a]) I1.kIn hm.kp (zgj (us:=[.ref a]) (vs:=[.ref a]) F hr hb hd hx I1 (.cons rfl .nil) q)
def zk4(M:Mk X.K C f)(F:FnOk X.prog X.w X.K X.mg X.base CX k f fd ps sp)(hr:Room (k+1) X.A)(hb:zcZ X.K fd ps ds)(hd:Vals dvs ds)
  (hx:zdm CX X E) (I:Inv X pins σ H s) (r:Vals vs us)
  (h:∀x dx,H x=none->H dx=none->dx≠x->sp (.ref x::(vs++dvs)) (upd (upd H dx (.own x)) x (.ins C dx [])) (fun v H2=>v=.non/\Q (.ref x) H2) (E σ)):
  wpAny (model X.prog X.w) X.A (call (.ref C) us) (EP X pins σ Q) X.xe s:=by
 have hq:=h (s.heap.objs.size+1) s.heap.objs.size (I.hok.fresh (ya6 _)) (I.hok.fresh (yal _)) (yay (ybU _));have I2:=Inv.made (C:=C) I;have r2:Vals (V.ref (s.heap.objs.size+1)::(vs++dvs)) (Value.ref (s.heap.objs.size+1)::(us++ds)):=.cons rfl (r.append hd)
 have hl:(Value.ref (s.heap.objs.size+1)::us++ds).length=ps.length:=by
  have e:=r2.length;rw[F.len _ _ _ _ hq]at e;exact e.symm
 refine ycY (znK (f:=f) I.kIn M.makes M.init (yby.mp M.fn) (ybu (F.run _ X.stack _ _ ⟨Value.ref (s.heap.objs.size+1)::us,[]⟩ (Value.ref (s.heap.objs.size+1)::(us++ds)) _ _ (E σ) (hr.make C us [])
  (I2.env0.make C us []) (hb _ (Value.ref (s.heap.objs.size+1)::us) I2.kIn hl) r2 hq) fun r s' hq'=>?_))
 cases r with
 |error e=>exact hx pins σ _ _ e s' I2 hq'|ok fl=>
  cases fl with
  |ret u=>
   obtain⟨v,H',I3,rv,ev,q3⟩:=I2.after hq';subst ev;exact⟨rv,⟨V.ref (s.heap.objs.size+1),H',I3,rfl,q3⟩⟩
  |next=>exact False.elim hq'|brk=>exact False.elim hq'|cont=>exact False.elim hq'
def znp(M:Mk X.K C f)(F:FnOk X.prog X.w X.K X.mg X.base CX k f fd ps sp)(hr:Room (k+1) X.A)(hg:Gl X x)(hm:X.mg x=some (.ref C))(hb:zcZ X.K fd ps ds)(hd:Vals dvs ds)(hx:zdm CX X E)
  (ha:PA X (e::es) t) (hdb:(x==("__debug__":Str))=false) (he:starEach (e::es) X.env=(false,eval e X.env)::starEach es X.env) (hpl:(backTo pos (starEach es X.env)).any (·.1)=false):
  PE X (.Call (.Name x p) (e::es) [] pos) (zoq C sp dvs E t):=by
 intro pins s σ H Q I h;refine ya2 (zda I hg hm ?_ hdb);refine ybC (h₀:=X.base) I.ok.mod.kin M.kp (thn (ha pos pins s σ H _ I h) fun us s1 ⟨vs,H1,I1,r,q⟩=>⟨I1.kIn,?_⟩) he hpl;exact zk4 M F hr hb hd hx I1 r q
end
section
variable{cl:Cf}{E:St->XK}{fs:List Fe}{fo:Fe}{G:List D->Sto->Out D}{σ:St}{H:Hp}{Q:VK}{n:Nat}{c m:Str}{ρ:Env}
theorem zd8:∀{fs:List Fe}{S S1:Sto}{ds:List D},zas fs ρ S=.ok ds S1->ds.length=fs.length
 |[],S,S1,ds,h=>by cases h;rfl
 |f::fs,S,S1,ds,h=>by
  unfold zas at h
  cases h1:f ρ S with
  |bad=>rw[h1]at h;cases h|exc c S2=>rw[h1]at h;cases h|ok d S2=>
   rw[h1]at h;dsimp only[Out.bind]at h
   cases h2:zas fs ρ S2 with
   |bad=>rw[h2]at h;cases h|exc c S3=>rw[h2]at h;cases h|ok es S3=>rw[h2]at h;cases h;rw[yae,yae,zd8 h2]
def zlz(R:Rel cl B σ w ρ S)(hv:Shd cl w v d)(h:zaG c m d S=true):∃a dx fs,v=.ref a/\w.H a=some (.ins (cl c) dx fs)/\fs.lookup m=none:=by
 unfold zaG at h
 cases d with
 |ref n=>
  dsimp only at h
  cases hS:S[n]? with
  |none=>rw[hS]at h;cases h|some ob=>
   rw[hS]at h;dsimp only at h;rw[yaa]at h;obtain⟨a,dx,fs,rfl,_,_,hH,hF⟩:=zfA R hv hS;have e:=yaj h.1;subst e;exact⟨a,dx,fs,rfl,hH,hF.miss (by simpa using h.2)⟩
 |_=>cases h
def zs3(q:tE cl E (zaU c m G fo fs) σ H Q)(hn:fs.length+1=n):zgW (cl c) m (zgP cl n false G) [] E (tE cl E fo) (tAs cl E fs) σ H Q:=by
 obtain⟨B,w,ρ,S,rfl,R,q⟩:=q;refine⟨B,w,ρ,S,rfl,R,?_⟩;unfold zaU at q
 cases hfo:fo ρ S with
 |bad=>rwa[hfo]at q|exc c S1=>rwa[hfo]at q|ok d S0=>
 rw[hfo]at q;intro v w0 R0 F0 h0;dsimp only[Out.bind]at q
 cases hok:zaG c m d S0 with
 |false=>rw[hok]at q;exact q.elim|true=>
 rw[hok,if_pos rfl]at q;obtain⟨a,dx,fs',rfl,hH,hm⟩:=zlz R0 h0 hok;refine⟨a,dx,fs',rfl,hH,hm,B,w0,ρ,S0,rfl,R0,?_⟩
 cases hf:zas fs ρ S0 with
 |bad=>rwa[hf]at q|exc c S1=>rw[hf]at q;exact fun w1 R1 F1=>q w1 R1 (F0.trans F1)|ok ds S1=>
  rw[hf]at q;intro vs w1 R1 F1 h1;dsimp only at q;refine⟨?_,w1.base,w1.inn,d::ds,S1,rfl,R1.wd.enter,?_,?_⟩
  ·rw[yaP,yae,h1.length,zd8 hf];exact hn
  ·rw[yaP];exact .cons ((h0.up F1).up (zbT w1)) (h1.up (zbT w1))
  cases hg:G (d::ds) S1 with
  |bad=>rwa[hg]at q|exc c S2=>
   rw[hg]at q;intro w2 W2 F2;obtain⟨R3,F3⟩:=R1.leave W2 F2;exact q (w1.back w2) R3 (F0.trans (F1.trans F3))
  |ok r S2=>
   rw[hg]at q;intro v w2 W2 F2 r2;obtain⟨R3,F3⟩:=R1.leave W2 F2;exact q v (w1.back w2) R3 (F0.trans (F1.trans F3)) (Shd.up (zct W2) r2)
def zs2(q:tN cl E (zaU c m G fo fs) σ H Q)(hn:fs.length+1=n):zgW (cl c) m (zgP cl n true G) [] E (tE cl E fo) (tAs cl E fs) σ H Q:=by
 obtain⟨B,w,ρ,S,rfl,R,q⟩:=q;refine⟨B,w,ρ,S,rfl,R,?_⟩;unfold zaU at q
 cases hfo:fo ρ S with
 |bad=>rwa[hfo]at q|exc c S1=>rwa[hfo]at q|ok d S0=>
 rw[hfo]at q;intro v w0 R0 F0 h0;dsimp only[Out.bind]at q
 cases hok:zaG c m d S0 with
 |false=>rw[hok]at q;exact q.elim|true=>
 rw[hok,if_pos rfl]at q;obtain⟨a,dx,fs',rfl,hH,hm⟩:=zlz R0 h0 hok;refine⟨a,dx,fs',rfl,hH,hm,B,w0,ρ,S0,rfl,R0,?_⟩
 cases hf:zas fs ρ S0 with
 |bad=>rwa[hf]at q|exc c S1=>rw[hf]at q;exact fun w1 R1 F1=>q w1 R1 (F0.trans F1)|ok ds S1=>
  rw[hf]at q;intro vs w1 R1 F1 h1;dsimp only at q;refine⟨?_,w1.base,w1.inn,d::ds,S1,rfl,R1.wd.enter,?_,?_⟩
  ·rw[yaP,yae,h1.length,zd8 hf];exact hn
  ·rw[yaP];exact .cons ((h0.up F1).up (zbT w1)) (h1.up (zbT w1))
  cases hg:G (d::ds) S1 with
  |bad=>rwa[hg]at q|exc c S2=>
   rw[hg]at q;intro w2 W2 F2;obtain⟨R3,F3⟩:=R1.leave W2 F2;exact q (w1.back w2) R3 (F0.trans (F1.trans F3))
  |ok r S2=>
   rw[hg]at q;intro v w2 W2 F2 r2;obtain⟨R3,F3⟩:=R1.leave W2 F2;obtain⟨a,o,i,rfl,k1,k2,t⟩:=r2;have hfr:w1.base.Fr a=none:=(W2.own a _ k1).elim (fun z=>by cases z) fun z=>z
   have k3:(w1.back w2).ow a=some .far:=by
    show(if(w1.base.Fr a).isSome=true then w1.ow a else Root.out (w2.ow a))=_;rw[hfr,k1];rfl
   have hb:B.Fr a=none:=by
    cases z:B.Fr a with
    |none=>rfl|some u=>rw[zcW R1.wd z]at hfr;cases hfr
   have hd:=zgz (w:=w1.back w2) (a:=a) (by rw[k3];exact yaF _);have:=q a o ((w1.back w2).del a) (R3.del k3 hb) (F0.trans (F1.trans (F3.trans hd))) (if_pos rfl) ((t.up (zct W2)).up hd);rwa[zkt (w:=w1.back w2) k2]at this
def zyr(hdv:∀w,Shds cl w dvs dds)(q:tE cl E (eMk c dds G fs) σ H Q)(hn:fs.length+dds.length+1=n):zoq (cl c) (zgP cl n false G) dvs E (tAs cl E fs) σ H Q:=by
 obtain⟨B,w,ρ,S,rfl,R,q⟩:=q;refine⟨B,w,ρ,S,rfl,R,?_⟩;unfold eMk at q
 cases hf:zas fs ρ S with
 |bad=>rwa[hf]at q|exc c S1=>rwa[hf]at q|ok ds S1=>
  rw[hf]at q;intro vs w1 R1 F1 h1;dsimp only[Out.bind]at q;intro x dx hx hdx ne;obtain⟨R2,F2⟩:=R1.made (c:=c) hx hdx ne
  have hmu:(w1.addO x dx (cl c) S1.length).mu[S1.length]?=some x:=by
   show(w1.mu++[x])[S1.length]?=some x;rw[yax (by rw[R1.wd.len];exact yal _),R1.wd.len,yb5];rfl
  refine⟨?_,(w1.addO x dx (cl c) S1.length).base,(w1.addO x dx (cl c) S1.length).inn,.ref S1.length::(ds++dds),S1++[⟨c,[]⟩],rfl,R2.wd.enter,?_,?_⟩
  ·rw[yae,yah,h1.length,zd8 hf,(hdv w1).length];exact hn
  ·exact .cons (.ref hmu) (((h1.up F2).up (zbT _)).append (hdv _))
  cases hg:G (.ref S1.length::(ds++dds)) (S1++[⟨c,[]⟩])with
  |bad=>rwa[hg]at q|exc c S2=>
   rw[hg]at q;intro w2 W2 F3;obtain⟨R3,F4⟩:=R2.leave W2 F3;exact q ((w1.addO x dx _ S1.length).back w2) R3 (F1.trans (F2.trans F4))
  |ok r S2=>
   rw[hg]at q;intro v w2 W2 F3 r2
   cases r with
   |non=>
    obtain⟨R3,F4⟩:=R2.leave W2 F3;refine⟨by cases r2;rfl,q (.ref x) ((w1.addO x dx _ S1.length).back w2) R3 (F1.trans (F2.trans F4)) (.ref (F4.mu _ _ hmu))⟩
   |_=>exact q.elim
end
end S2
namespace L2
open PySem PySem.Spec PyProof.Rows
end L2
namespace S2
open PySem PySem.Spec PyProof.Rows L2
end S2
namespace PySem
open Sem (wp)
namespace F
def zhq:typeLookup (.type "list") "keys"=pure none:=by rw[typeLookup_type,builtinLookup_eq_fast];kernel_rfl
end F
section
variable{prog:Program}{w:World}{A:Around}{E:Z5}{s:Shared}{a:Addr}{o:Obj}
theorem zlL{xs:Array Value}{k:Nat}{sl:Array (Option Value)}{Q:Option Value->Shared->Prop}(hx:s.heap.get? a=some {cls:=.type "list",dict:=none,data:=.seq xs k,slots:=sl})(hA:A.handled=none)
  (h:∀h' tk,(∀b o,s.heap.get? b=some o->h'.get? b=some o)->Q none {s with heap:=h',toks:=tk}):
  wpAny (model prog w) A (getAttr? (.ref a) "keys") Q E s:=by
 obtain⟨hp,g,d,tk,os⟩:=s;have hT:∀tk',(⟨hp,g,d,tk',os⟩:Shared).TypeIs (.ref a) "list":=fun _=>⟨_,hx,rfl⟩
 have f1:=sub_AttributeError;have f3:=yb6.lookup;have f4:=yb6.bind (.ref a);have f5:=am_list_getattr_none;unfold getAttr? getAttrBy? getAttrBy
 repeat (any_goals (first|assumption|exact hT _|((with_reducible show wpAny _ _ (call (Value.builtin "list.__getattribute__") _ _) _ _ _);refine ybN yb6 (hT _) am_entry_list_getattribute (F.args_list_getattribute_2 _ _) (meets_getattribute_miss_list a xs k sl "keys" _ F.zhq (by decide)) ⟨hx,hA,fun h' tk' e hx'=>?_⟩)|wp_step))
 obtain⟨t',u',he⟩:=hx'.there;show wpAny _ _ (getattributeRaised _ _ _ _ _ _ _) _ _ _;unfold getattributeRaised
 repeat (any_goals (first|assumption|wp_step))
 exact h _ _ fun b o e=>hx'.keeps b o e
end
namespace F
def zbE:entryFor table "dict.update.loop"=some Builtin.«dict.update.loop»:=entryFor_of_tree (by kernel_rfl)
theorem zaJ:plainId "dict.update.loop"=true:=by decide +kernel
end F
end PySem
namespace ST
open PySem PySem.Spec PyProof.Rows
section
variable{prog:Program}{w:World}{K:Type}[DecidableEq K]{knd:KeyKind prog w K}{A:Around}{R:Result->Shared->Prop}{I:Addr}{fp wr:List Addr}{G:Array GenState->Array GenState->Prop}{n:Nat}{P:Nat->Value->Prop}{St:Nat->Shared->Prop}
noncomputable def zoE(ks:Nat->K)(vf:Nat->Value)(i:Nat):List (K×Value):=(List.range i).foldl (fun acc j=>stored acc (ks j) (vf j)) []
def ze0{ks:Nat->K}{vf:Nat->Value}{i:Nat}:zoE ks vf (i+1)=stored (zoE ks vf i) (ks i) (vf i):=by
 unfold zoE;rw[List.range_succ,List.foldl_append];rfl
theorem zja{ks:Nat->K}{vf:Nat->Value}:∀{i:Nat},(zoE ks vf i).length<=i
 |0=>yal _|i+1=>by
  rw[ze0];refine yas ?_ (Nat.succ_le_succ (zja (ks:=ks) (vf:=vf) (i:=i)));unfold stored;split
  ·rw[yab];exact ya6 _
  ·rw[yah];exact yal _
theorem zmm(W:WalksS prog w A.in1 I fp wr G n P St)(S:Addr)(hSf:S ∉ fp)(T:Nat->Addr)(ks:Nat->K)(kf vf:Nat->Value)(hval:∀i v,P i v->v=.ref (T i))(hk:∀i,i<n->knd.is (ks i) (kf i)=true)(hT:∀i,i<n->T i ∉ S::wr)(hn:n<=sizeLine):
  ∀(k i:Nat) (tk:Tok) (s:Shared),n-i=k->i<=n->St i s->s.heap.DictOf knd S (zoE ks vf i)->(∀i,i<n->s.heap.IsTuple (T i) #[kf i,vf i]) →
   (∀s',Moved (S::wr) G s s'->s'.heap.DictOf knd S (zoE ks vf n)->R (.ok (.ret .none)) s') →
   codeAny (model prog w) A (.builtin "dict.update.loop" ⟨[.ref S,.ref I,.int i tk,.none],[]⟩) R s:=by
 have hSw:S ∉ wr:=fun h=>hSf (W.sub _ h)
 have hsub:∀b∈wr,b∈S::wr:=fun b hb=>yak _ hb
 intro k
 induction k with
 |zero=>
  intro i tk s hk' hi hst hS hTs hR
  have hin:i=n:=by omega
  subst hin;refine ybI PySem.F.zbE ?_;rw[ybS PySem.F.zaJ _];show wpAny _ A.in1 (pyNext (.ref I) >>= _) _ _ s;refine yac (W.done s _ _ hst fun s' hm=>?_);show wpAny _ A.in1 (Builtin.Dict.addKeywords S [] >>= _) _ _ s';exact yac (yap (yap (hR s' (hm.mono hsub) (hS.at fun o ho=>hm.heap S _ hSw ho))))
 |succ k ih=>
  intro i tk s hk' hi hst hS hTs hR
  have hlt:i<n:=by omega
  refine ybI PySem.F.zbE ?_;rw[ybS PySem.F.zaJ _];show wpAny _ A.in1 (pyNext (.ref I) >>= _) _ _ s;refine yac (W.item i s _ _ hlt hst fun v s' hP hst' hm=>?_);obtain rfl:=hval i v hP
  have hTs':∀i,i<n->s'.heap.IsTuple (T i) #[kf i,vf i]:=fun i hi=>by
   obtain⟨o,ho,r⟩:=hTs i hi;exact⟨o,hm.heap _ _ (fun z=>hT i hi (hsub _ z)) ho,r⟩
  have hS':=hS.at (h':=s'.heap) fun o ho=>hm.heap S _ hSw ho
  refine yac (ybb (yac ?_));refine wpAny_tryCatch ?_;unfold Builtin.Dict.pairItems;obtain⟨ot,hot,hct,nt,hdt⟩:=hTs' i hlt;have hTy:s'.TypeIs (.ref (T i)) "tuple":=⟨ot,hot,hct⟩;refine yac (wpAny_typeOf hTy ?_);rw[if_pos (by decide)];refine yac (ybo hot hdt (yap ?_));show wpAny _ _ (holding [kf i,vf i] (dictSet S (kf i) (vf i))) _ _ _;refine ybb (wpAny_dictSet_pairs (hk i hlt) hS' (fun h' hd hsb=>?_) (yas zja (by omega)));rw[<-ze0]at hd;refine yap ⟨plainId_quiet PySem.F.zaJ _,?_⟩;refine ih (i+1) _ _ (by omega) hlt (W.frame _ s' _ _ hst' (ya6 _) fun b hb o e=>?_) hd (fun j hj=>?_) fun s'' hm'' hS''=>?_
  ·rw[hsb.2 b (fun h:b=S=>hSf (by rw[<-h];exact hb))];exact e
  ·obtain⟨o,ho,r⟩:=hTs' j hj;exact⟨o,(hsb.2 _ (fun z=>hT j hj (by rw[z];exact yam))).trans ho,r⟩
  ·refine hR s'' (Moved.trans W.gtrans ((hm.mono hsub).then_heap (ya6 _) fun b o hb e=>?_) hm'') hS'';rw[hsb.2 b (fun h:b=S=>hb (by rw[h];exact yam))];exact e
end
end ST
namespace PySem
section
variable{prog:Program}{w:World}{K:Type}[DecidableEq K]{knd:KeyKind prog w K}{A:Around}{E:Z5}{s:Shared}
theorem zkc{l:Addr}{items:Array Value}{Q:Z5}(T:Nat->Addr)(ks:Nat->K)(kf vf:Nat->Value)(hh:A.handled=none){kl:Nat}{sl:Array (Option Value)}(hl:s.heap.get? l=some {cls:=.type "list",dict:=none,data:=.seq items kl,slots:=sl})
  (hi:∀(i:Nat) (v:Value),items[i]?=some v->v=.ref (T i)) (hk:∀i,i<items.size->knd.is (ks i) (kf i)=true) (hT:∀i,i<items.size->s.heap.IsTuple (T i) #[kf i,vf i]) (hn:items.size<=sizeLine)
  (h:∀(h':Heap) (tk:Nat),h'.DictOf knd s.heap.objs.size (ST.zoE ks vf items.size)->(∀b o,s.heap.get? b=some o->h'.get? b=some o)->Q (.ref s.heap.objs.size) {s with heap:=h',toks:=tk}):
  wpAny (model prog w) A (call (.type "dict") [.ref l]) Q E s:=by
 refine callType_codes (Q₁:=fun obj s₁=>obj=.ref s.heap.objs.size/\s₁={s with heap:=s.heap.push {cls:=.type "dict",data:=.dict #[]}}) F.kt_called_dict (F.kt_typeCall_dict_1 _) F.entry_dict_init (kt_code_dict_new _ ⟨rfl,rfl⟩) ?_;rintro obj s₁ ⟨rfl,rfl⟩;generalize hG:s.heap.push {cls:=.type "dict",data:=.dict #[]}=G;have hnew:G.DictOf knd s.heap.objs.size []:=hG ▸ Heap.DictOf.new s.heap;have upG:∀b o,s.heap.get? b=some o->G.get? b=some o:=fun b o e=>hG ▸ yaf _ e
 have hl':=upG _ _ hl;refine⟨hnew.typeIs,F.args_dict_init_2 _ _,?_⟩;unfold Builtin.«dict.__init__»;refine yac ?_;unfold Builtin.Dict.selfAndRest;refine yac (wpAny_notOrdered_dict hnew.typeIs ?_);show wpAny _ _ (pure (s.heap.objs.size,[Value.ref l])) _ _ _;refine yap ?_;show wpAny _ _ (Builtin.Dict.updateFrom "dict.__init__" s.heap.objs.size (.ref l) [] .none) _ _ _;unfold Builtin.Dict.updateFrom;refine yac (wpAny_typeOf (T:="list") ⟨_,hl',rfl⟩ ?_);rw[if_pos (by decide)];refine yac (zlL hl' (by simp[hh]) fun h₁ tk₁ k₁=>?_);refine yac (wpAny_rule ?_);have hl1:h₁.IsList l items:=⟨_,k₁ _ _ hl',rfl,_,rfl⟩;refine yac (ycU hl1 ?_);have hlS:l<s.heap.objs.size:=yao hl
 have hS1:s.heap.objs.size<h₁.objs.size:=by
  obtain⟨o,_,_,ho,_⟩:=hnew;exact yao (k₁ _ _ ho)
 have hh3:A.in1.in1.handled=none:=by simp[hh]
 have hneI:l≠h₁.objs.size:=yay (Nat.lt_trans hlS hS1);have kP:∀b o,s.heap.get? b=some o->∀o',(h₁.push o').get? b=some o:=fun b o e o'=>yaf _ (k₁ _ _ (upG _ _ e))
 refine yap ⟨plainId_quiet F.zaJ _,?_⟩;refine ST.zmm ((Walks.list hh3 _ l hneI items).toS) s.heap.objs.size ?_ T ks kf vf hi hk (fun i hi=>?_) hn (items.size-0) 0 _ _ (by omega) (yaM _) ⟨⟨_,yar _ rfl,rfl,rfl⟩,(hl1.push _)⟩ ?_ (fun i hi=>?_) ?_
 ·simp only[yat,yaK,ybY,or_false,not_or];exact⟨yay hS1,yaU hlS⟩
 ·obtain⟨o,ho,_⟩:=hT i hi;have:=yao ho;simp only[yat,yaK,ybY,or_false,not_or];exact⟨yay this,yay (Nat.lt_trans this hS1)⟩
 ·exact(hnew.at fun o e=>yaf _ (k₁ _ _ e))
 ·obtain⟨o,ho,r⟩:=hT i hi;exact⟨o,kP _ _ ho _,r⟩
 ·intro s' hm hS';obtain⟨h',g',d',tk',os'⟩:=s';have eg:g'=s.gens:=hm.gens;have ed:d'=s.drawn:=hm.drawn;have eo:os'=s.os:=hm.os;subst eg;subst ed;subst eo;refine⟨rfl,h h' tk' hS' fun b o e=>?_⟩;have hb1:b≠s.heap.objs.size:=yay (yao e);have hb2:b≠h₁.objs.size:=yay (Nat.lt_trans (yao e) hS1);exact hm.heap b o (by simp only[yat,yaK,ybY,or_false,not_or];exact⟨hb1,hb2⟩) (kP _ _ e _)
end
end PySem
namespace L2
open PySem PySem.Spec PySem.W PyProof.Rows
noncomputable def leS(a b:Str):Prop:=a.cps.toList<=b.cps.toList
noncomputable def zro(x:Str):List Str->List Str
 |[]=>[x]|y::r=>if decide (y.cps.toList<x.cps.toList)then y::zro x r else x::y::r
noncomputable def zaC:List Str->List Str
 |[]=>[]|x::r=>zro x (zaC r)
theorem zfj(x:Str):∀l:List Str,(zro x l).Perm (x::l)
 |[]=>.refl _|y::r=>by
  unfold zro;split
  ·exact((zfj x r).cons y).trans (List.Perm.swap x y r)
  ·exact .refl _
theorem zaE:∀l:List Str,(zaC l).Perm l
 |[]=>.refl _|x::r=>(zfj x (zaC r)).trans ((zaE r).cons x)
def zhs{a b c:Str}(h:leS a b)(h':leS b c):leS a c:=List.le_trans h h'
theorem zjs(x:Str):∀l:List Str,l.Pairwise leS->(zro x l).Pairwise leS
 |[],_=>List.pairwise_singleton _ _|y::r,h=>by
  have h1:=ybE.mp h;unfold zro;split
  ·rename_i hl;have hl:=yaj hl;refine ybE.mpr ⟨fun z hz=>?_,zjs x r h1.2⟩
   rcases yat.mp ((zfj x r).mem_iff.mp hz)with rfl|hz
   ·exact List.le_of_lt hl
   ·exact h1.1 z hz
  ·rename_i hl;have hl:¬ y.cps.toList<x.cps.toList:=fun z=>hl (yaz z)
   have hxy:leS x y:=List.not_lt.mp hl;refine ybE.mpr ⟨fun z hz=>?_,h⟩
   rcases yat.mp hz with rfl|hz
   ·exact hxy
   ·exact zhs hxy (h1.1 z hz)
theorem zc3:∀l:List Str,(zaC l).Pairwise leS
 |[]=>.nil|x::r=>zjs x _ (zc3 r)
theorem zhd:∀(p:Str) (l:List Str),risingS p l=true->(p::l).Pairwise leS
 |p,[],_=>List.pairwise_singleton _ _|p,x::r,h=>by
  have h':(!ltCps x.cps.toList p.cps.toList&&risingS x r)=true:=h;rw[yaa,yaG]at h';have ih:=zhd x r h'.2
  have hpx:leS p x:=by
   have e:=h'.1;rw[ltCps_eq]at e;exact List.not_lt.mp (of_decide_eq_false e)
  refine ybE.mpr ⟨fun z hz=>?_,ih⟩
  rcases yat.mp hz with rfl|hz
  ·exact hpx
  ·exact zhs hpx ((ybE.mp ih).1 z hz)
theorem zkN:∀(l:List Str),sortedS l=true->l.Pairwise leS
 |[],_=>.nil|x::r,h=>zhd x r h
def ziW{a b:Str}(h:a.cps.toList=b.cps.toList):a=b:=by
 cases a;cases b;simp only at h;congr 1;exact Array.toList_inj.mp h
def zjK{a b:List Str}(p:a.Perm b)(h:sortedS a=true):a=zaC b:=
 List.Perm.eq_of_pairwise (le:=leS) (fun x y _ _ h1 h2=>ziW (List.le_antisymm h1 h2)) (zkN a h) (zc3 b) (p.trans (zaE b).symm)
section
variable{X:Cx}{pins:Z3}{σ:St}{H:Hp}{s:Shared}{a:Addr}{kvs:List (Key×V)}{A:Around}{E:Z5}{ks:List Str}
theorem zev:∀{vs:List Value}{ss:List Str},StrsAre vs ss->Vals (ss.map V.str) vs
 |_,_,.nil=>.nil|_,_,.cons x t h=>.cons ⟨t,rfl⟩ (zev h)
theorem zex:∀{ks:List Str}{vs:List Value} (h:vs.length=ks.length),(∀(i:Nat) (v:Value) (k:Str),vs[i]?=some v->ks[i]?=some k->∃t,v=Value.str k t)->StrsAre vs ks
 |[],[],_,_=>.nil|k::ks,v::vs,h,hv=>by
  obtain⟨t,rfl⟩:=hv 0 v k rfl rfl;exact .cons k t (zex (by simpa using h) fun i v k h1 h2=>hv (i+1) v k (by simpa using h1) (by simpa using h2))
theorem zlJ:∀{kvs:List (Key×V)}{vs:List (Key×Value)},KV kvs vs->kvs.map (·.1)=vs.map (·.1)
 |_,_,.nil=>rfl|_,_,.cons h t=>by rw[yaw,yaw,h.1,zlJ t]
def znT{P:Program}{w:World}{k:Str}{v:Value}(h:(zax P w).is (Sum.inr k) v=true):∃t,v=Value.str k t:=by
 have h':Value.isStrOf k v=true:=h
 cases v<;>first|(cases h';done)|skip
 rename_i x t
 have e:x=k:=by simpa[Value.isStrOf]using h'
 exact⟨t,by rw[e]⟩
theorem zoa{Q:Z5}(hh:A.handled=none)(I:Inv X pins σ H s)(e:Rd H a (.dK kvs))(hk:kvs.map (·.1)=ks.map Sum.inr)(h64:ks.length<64)
  (h:∀p s',H p=none->Inv X pins σ (upd H p (.lst ((zaC ks).map V.str))) s'->Q (.ref p) s'):wpAny (model X.prog X.w) A (call (.builtin "sorted") [.ref a]) Q E s:=by
 obtain⟨z,hd,vs,rel,dd⟩:=zfv I.hok e;obtain⟨ep,da⟩:=dd.dictAt
 have hlen:vs.length=ks.length:=by
  rw[<-rel.length];have:=congrArg List.length hk;simpa using this
 have hkeys:vs.map (·.1)=ks.map Sum.inr:=by
  rw[<-hk];exact(zlJ rel).symm
 refine Calls.call_function_entry kind_sorted plain_sorted entry_sorted (args_sorted1 _) ?_;unfold Builtin.«sorted»;refine yac (m:=checkCount "sorted" 1 1 _) (yap ?_);refine yac (kdu_collect (A:=A.in1) (kdl_dict (prog:=X.prog) hd) hh da (by rw[hlen,ycK];omega) fun h' tk acc kp hacc=>?_)
 have hl:acc.toList.length=ks.length:=by rw[ya5,hacc.1,hlen]
 have hS:StrsAre acc.toList ks:=zex hl fun i v k h1 h2=>by
  obtain⟨k',x,e1,e2⟩:=hacc.2 i v (by rw[<-ybl];exact h1);have e3:=congrArg (fun l=>l[i]?) hkeys;simp only[yau,e1,h2,Option.map_some]at e3;cases e3;exact znT e2
 refine yac (wpAny_newList ?_ (by rw[hl,ycK];omega));have hoL:(h'.push (seqObj "list" acc.toList.toArray 0)).get? h'.objs.size=some (seqObj "list" acc.toList.toArray 0):=yar _ rfl;refine yac (ybb (ybW slot_list_sort ⟨_,hoL,rfl⟩ entry_list_sort (list_sort_treeK strKind_oneLt (s:={s with heap:=h'.push (seqObj "list" acc.toList.toArray 0),toks:=tk}) hoL hS.keysOf (fun v₁ v₂ zbR e=>keyKind_strs (by rw[<-e];exact hS)) (by rw[hl];exact h64) fun st' hp hs=>⟨_,rfl,?_⟩) (args_list_sort _)));refine yap ⟨_,rfl,?_⟩;obtain⟨ss',b1,b2,b3⟩:=sorted_out_str hS hp hs;obtain⟨e',he⟩:=sortedHeap_at (out:=(arrOf st').map (·.2)) hoL;have I1:=I.kept kp (t':=tk);have eu:=zjK b2 b3;refine h h'.objs.size _ (I1.hok.fresh (yal _)) (I1.laid (t':=tk) (o:=.lst ((zaC ks).map V.str)) (fun b o hb=>?_) (yal _) (show za3 X.prog X.w _ _ _ (.lst _)from⟨?_,((arrOf st').map (·.2)).toList,e',?_,?_⟩))
 ·have hlt:b<h'.objs.size:=yao hb;rw[sortedHeap_old (yay hlt) (by rw[size_push'];exact ybs hlt)];exact yaf _ hb
 ·rw[yab,(zaE ks).length_eq,ycK];omega
 ·rw[<-eu];exact zev b1
 ·rw[Array.toArray_toList];exact he
end
open PySem PySem.Spec PyProof.Rows
noncomputable def kvS(ps:List (Str×V)):List (Key×V):=ps.foldl (fun acc p=>ze1 acc (.inr p.1) p.2) []
theorem zqH{ps:List (Str×V)}:(kvS ps).length<=ps.length:=by
 have go:∀(ps:List (Str×V)) (acc:List (Key×V)),(ps.foldl (fun acc p=>ze1 acc (.inr p.1) p.2) acc).length<=acc.length+ps.length:=by
  intro ps
  induction ps with
  |nil=>intro acc;exact yal _|cons p ps ih=>
   intro acc;have h1:=ih (ze1 acc (.inr p.1) p.2);have h2:=zcQ acc (.inr p.1:Key) p.2;rw[yce,yae];omega
 have:=go ps [];rwa[ycb,Nat.zero_add]at this
section
variable{X:Cx}
theorem zgI(hc:X.calm=true):zdS X (.type "dict") (fun xs H Q=>∃(p:Addr) (qs:List Addr) (ps:List (Str×V)),xs=[.ref p]/\SqL X.K H p (qs.map V.ref)/\qs.length=ps.length/\(∀(i:Nat) q c,qs[i]?=some q->ps[i]?=some c->SqT X.K H q [.str c.1,c.2])/\∀l,H l=none->Q (.ref l) (upd H l (.dK (kvS ps)))):=by
 intro pins s σ H xs us Q I r h;obtain⟨p,qs,ps,rfl,hq,hn,ht,q⟩:=h;obtain⟨u,rfl,rx⟩:=zgb r;cases rx;obtain⟨its,rv,pl,hz⟩:=I.list hq
 have hl:its.length=ps.length:=by rw[<-rv.length,yab];exact hn
 have hz':ps.length<=sizeLine:=by rwa[yab,hn]at hz
 obtain⟨o,kl,ho,hc1,hc2,hc3⟩:=pl;obtain⟨c,dc,dt,sl⟩:=o;simp only at hc1 hc2 hc3;subst hc1 hc2 hc3
 have hch:∀i:Nat,∃kv:Value×Value,i<ps.length->s.heap.IsTuple (qs.getD i 0) #[kv.1,kv.2]/\zaV (.str (ps.getD i ("",.non)).1) kv.1/\zaV (ps.getD i ("",.non)).2 kv.2:=by
  intro i
  by_cases hi:i<ps.length
  ·have e1:qs[i]?=some (qs.getD i 0):=by rw[yaO,yad (by omega)];rfl
   have e2:ps[i]?=some (ps.getD i ("",.non)):=by rw[yaO,yad hi];rfl
   obtain⟨ts,rt,pt,_⟩:=I.tuple (ht i _ _ e1 e2)
   cases rt with
   |cons r1 rt=>
    cases rt with
    |cons r2 rt=>cases rt;exact⟨(_,_),fun _=>⟨pt,r1,r2⟩⟩
  ·exact⟨(.none,.none),fun z=>absurd z hi⟩
 obtain⟨kv,hkv⟩:=Classical.axiomOfChoice hch
 have hits:∀(i:Nat) (v:Value),its.toArray[i]?=some v->v=.ref (qs.getD i 0):=by
  intro i v hv;rw[ycB]at hv;have hi:i<its.length:=(yan.mp hv).1
  have e1:(qs.map V.ref)[i]?=some (.ref (qs.getD i 0)):=by rw[yau,yaO,yad (by omega)];rfl
  obtain⟨u,hu,ru⟩:=rv.get e1;rw[hu]at hv;cases hv;exact ru
 have hsz:its.toArray.size=ps.length:=by rw[yaq];exact hl
 refine zkc (knd:=zax X.prog X.w) (fun i=>qs.getD i 0) (fun i=>(.inr (ps.getD i ("",.non)).1:Key)) (fun i=>(kv i).1) (fun i=>(kv i).2) (I.ok.hd hc) ho hits (fun i hi=>zfb (k:=.inr _) (hkv i (hsz ▸ hi)).2.1) (fun i hi=>(hkv i (hsz ▸ hi)).1) (hsz ▸ hz') fun h' tk D k=>?_
 have rel:∀i,i<=ps.length->KV (kvS (ps.take i)) (ST.zoE (fun i=>(.inr (ps.getD i ("",.non)).1:Key)) (fun i=>(kv i).2) i):=by
  intro i
  induction i with
  |zero=>intro _;exact .nil|succ i ih=>
   intro hi
   have e2:ps[i]?=some (ps.getD i ("",.non)):=by rw[yaO,yad (by omega)];rfl
   rw[ST.ze0,List.take_succ,e2];unfold kvS;rw[List.foldl_append];exact(ih (by omega)).put _ (hkv i (by omega)).2.2
 have rel':=rel ps.length (yal _);rw[ybX]at rel';rw[hsz]at D;refine⟨.ref s.heap.objs.size,_,I.laid (t':=tk) (o:=.dK (kvS ps)) k (yal _) ⟨yas zqH hz',?_,_,rel',D⟩,rfl,q _ (I.hok.fresh (yal _))⟩;exact beq_false_of_ne (yaU I.big)
def zdH(hc:X.calm=true):zdS X (.builtin "sorted") (fun xs H Q=>∃(a:Addr) (kvs:List (Key×V)) (ks:List Str),xs=[.ref a]/\Rd H a (.dK kvs)/\kvs.map (·.1)=ks.map Sum.inr/\ks.length<64/\∀p,H p=none->Q (.ref p) (upd H p (.lst ((zaC ks).map V.str)))):=by
 intro pins s σ H xs us Q I r h;obtain⟨a,kvs,ks,rfl,ha,hk,h64,q⟩:=h;obtain⟨u,rfl,rx⟩:=zgb r;cases rx;exact zoa (I.ok.hd hc) I ha hk h64 fun p s' hp I'=>⟨.ref p,_,I',rfl,q p hp⟩
end
end L2
namespace S2
open PySem PySem.Spec PyProof.Rows L2
noncomputable def zx9:D->Option Str|.str k=>some k|_=>none
noncomputable def zxY:D->Option (List D)|.tup l=>some l|_=>none
def prO(d:D):Option (Str×D):=(zxY d).bind fun l=>match l with|[a,b]=>(zx9 a).map fun k=>(k,b)|_=>none
def zqd:List D->Option (List (Str×D))
 |[]=>some []|d::l=>(prO d).bind fun p=>(zqd l).map (p::·)
def zso{d:D}{p:Str×D}(h:prO d=some p):d=.tup [.str p.1,p.2]:=by
 cases d with
 |tup l=>
  cases l with
  |nil=>cases h|cons a l=>cases l with
   |nil=>cases h|cons b l=>cases l with
    |cons _ _=>cases h|nil=>cases a<;>first|(cases h;rfl)|(cases h;done)
 |_=>cases h
noncomputable def zp8(ps:List (Str×D)):List (D×D):=ps.foldl (fun acc p=>putS p.1 p.2 acc) []
def zit:List D->Option D|[.lst l]=>(zqd l).map fun ps=>.dic (zp8 ps)|_=>none
def zee:List D->Option D|[.dic ds]=>if zac ds&&decide (ds.length<64)then some (.lst ((zaC (zau ds)).map D.str))else none|_=>none
section
variable{X:Cx}{cl:Cf}
theorem zd3{k x:Str}{d:D}:∀{ds:List (D×D)},zac ds=true->zab x (putS k d ds)=if k=x then some d else zab x ds
 |[],_=>rfl|(.str y,e)::r,h=>by
  unfold zac at h;rw[yaa]at h;unfold putS
  by_cases hy:y=k
  ·subst hy;rw[if_pos rfl];unfold zab
   by_cases hx:y=x
   ·rw[if_pos hx,if_pos hx]
   ·rw[if_neg hx,if_neg hx,if_neg hx]
  ·rw[if_neg hy];unfold zab
   by_cases hx:y=x
   ·rw[if_pos hx,if_neg (fun z=>hy (hx.trans z.symm)),if_pos hx]
   ·rw[if_neg hx,zd3 h.2,if_neg hx]
theorem zeP{k:Str}{d:D}:∀{ds:List (D×D)},zac ds=true->zac (putS k d ds)=true
 |[],_=>rfl|(.str y,e)::r,h=>by
  have h':=h;unfold zac at h;rw[yaa]at h;unfold putS
  by_cases hy:y=k
  ·rw[if_pos hy];unfold zac;rw[yaa];exact h
  ·rw[if_neg hy];unfold zac;rw[yaa,zd3 h.2,if_neg (fun z=>hy z.symm)];exact⟨h.1,zeP h.2⟩
def znj{w:Wd}:∀{l:List D}{ps:List (Str×D)}{xs:List V},zqd l=some ps->Shds cl w xs l->∃(qs:List Addr) (vs:List (Str×V)),xs=qs.map V.ref/\qs.length=vs.length/\(∀(i:Nat) q c,qs[i]?=some q->vs[i]?=some c->w.H q=some (.tup [.str c.1,c.2]))/\Paired (fun(v:Str×V) (p:Str×D)=>v.1=p.1/\Shd cl w v.2 p.2) vs ps:=by
 intro l
 induction l with
 |nil=>
  intro ps xs e r;cases e;cases r;exact⟨[],[],rfl,rfl,(fun i q c z=>by cases z),.nil⟩
 |cons d l ih=>
  intro ps xs e r;obtain⟨p,e0,e⟩:=Option.bind_eq_some_iff.mp (show(prO d).bind (fun p=>(zqd l).map (p::·))=some ps from e);obtain⟨ps',e1,rfl⟩:=yaD.mp e;obtain rfl:=zso e0
  cases r with
  |cons r1 r2=>
   obtain⟨qs,vs,rfl,hn,hp,hv⟩:=ih e1 r2
   cases r1 with
   |tup ep k0 rt=>
    cases rt with
    |cons t1 t2=>
     cases t2 with
     |cons t2 t3=>
      cases t3;cases t1;refine⟨_::qs,(p.1,_)::vs,rfl,congrArg Nat.succ hn,fun i q c h1 h2=>?_,.cons ⟨rfl,t2⟩ hv⟩
      cases i with
      |zero=>cases h1;cases h2;exact ep|succ i=>exact hp i q c h1 h2
theorem zi8{w:Wd}:∀{vs:List (Str×V)}{ps:List (Str×D)}{kvs:List (Key×V)}{ds:List (D×D)},Paired (fun(v:Str×V) (p:Str×D)=>v.1=p.1/\Shd cl w v.2 p.2) vs ps->ShdK cl w kvs ds->zac ds=true →
  ShdK cl w (vs.foldl (fun acc p=>ze1 acc (.inr p.1) p.2) kvs) (ps.foldl (fun acc p=>putS p.1 p.2 acc) ds)/\zac (ps.foldl (fun acc p=>putS p.1 p.2 acc) ds)=true
 |_,_,_,_,.nil,h,o=>⟨h,o⟩|_,_,_,_,.cons ⟨e,hv⟩ t,h,o=>by
  rw[yce,yce,e];exact zi8 t (h.putS o hv) (zeP o)
def zrc(hc:X.calm=true):zon X cl (.type "dict") zit:=by
 intro pins s σ H xs us Q I r h;obtain⟨w,ds,d,rfl,hx,hg,q⟩:=h;unfold zit at hg;split at hg
 ·rename_i l;obtain⟨ps,h1,rfl⟩:=yaD.mp hg
  cases hx with
  |cons h2 h3=>
   cases h3;obtain⟨p,ys,rfl,ep,rs⟩:=h2.lstI;obtain⟨qs,vs,rfl,hn,hp,hv⟩:=znj h1 rs;exact zgI hc pins s σ w.H _ us Q I r ⟨p,qs,vs,rfl,SqL.of ep,hn,fun i q c e1 e2=>SqT.of (hp i q c e1 e2),fun l hl=>q _ _ w (Grow.refl _) hl (.dicK (zi8 hv .nil rfl).1)⟩
 ·cases hg
theorem zdY{w:Wd}:∀{l:List Str},Shds cl w (l.map V.str) (l.map D.str)
 |[]=>.nil|i::l=>.cons (.str i) (zdY (l:=l))
def zmx(hc:X.calm=true):zon X cl (.builtin "sorted") zee:=by
 intro pins s σ H xs us Q I r h;obtain⟨w,ds,d,rfl,hx,hg,q⟩:=h;unfold zee at hg;split at hg
 ·rename_i l;split at hg
  ·rename_i ho;rw[yaa,yaT]at ho;cases hg
   cases hx with
   |cons h2 h3=>
    cases h3;obtain⟨p,kvs,rfl,ep,rs⟩:=h2.dicI;obtain⟨k1,k2⟩:=zeQ rs ho.1;exact zdH hc pins s σ w.H _ us Q I r ⟨p,kvs,_,rfl,ep,k1,by rw[k2];exact ho.2,fun l hl=>q _ _ w (Grow.refl _) hl (.lst zdY)⟩
  ·cases hg
 ·cases hg
end
end S2
namespace L2
open PySem PySem.Spec PyProof.Rows
def zm0{X:Cx}(hu:X.A.units+1<cLine):zxu X (fun o i v H Q=>∃a H',o=.ref a/\zrl H a i v H'/\Q H'):=by
 intro pins s σ H o i v ov iv vv Q I ro ri rv h;obtain⟨a,H',rfl,g,q⟩:=h;cases ro;exact zhH hu I g ri rv fun s' I'=>⟨H',I',q⟩
end L2
namespace S2
open PySem PySem.Spec PyProof.Rows L2
noncomputable def zmj:Fe:=fun _ S=>.ok (.dic []) S
def zg2(i:Nat)(ρ:Env):Option (List (D×D)):=match ρ[i]? with|some (some (true,.dic ds))=>if zac ds&&zaD ds.length then some ds else none|_=>none
def zdJ(i:Nat)(fk fe:Fe):Fs:=fun ρ S=>match zg2 i ρ with
 |some ds=>(match fe ρ S with
  |.ok d S1=>(match fk ρ S1 with
   |.ok k S2=>(match k with
    |.str x=>.nx (ρ.set i (some (true,.dic (putS x d ds)))) S2|_=>.bad)
   |.exc c S2=>.ex c ρ S2|.bad=>.bad)
  |.exc c S1=>.ex c ρ S1|.bad=>.bad)
 |_=>.bad
section
variable{X:Cx}{cl:Cf}{E:St->XK}{own:Bool}{a b e:Expr}{f g fe fk:Fe}{pos pos':Pos}{i:Nat}{x:Str}{ap cp:Pos}
def zpW:PE X (.Dict [] [] pos) (tN cl E zmj):=PE.imp zjc fun σ H Q ⟨B,w,ρ,S,e,R,q⟩=>by
 subst e;intro p hp;exact q p _ w R (Fut.refl _) hp (.dicK .nil)
def zi0{B:Base}{σ:St}{w:Wd}{ρ:Env}{S:Sto}{ds:List (D×D)}(R:Rel cl B σ w ρ S)(h:zg2 i ρ=some ds):∃p kvs,σ[i]?=some (some (.ref p))/\w.ow p=some (.slot i)/\w.H p=some (.dK kvs)/\ShdK cl w kvs ds/\zac ds=true/\zaD ds.length=true:=by
 unfold zg2 at h;split at h
 ·rename_i ds' hd;split at h
  ·rename_i ho;cases h;rw[yaa]at ho;obtain⟨v,e1,p,o,rfl,h1,h2,t⟩:=R.slots i true _ hd
   cases t with
   |dicK t=>exact⟨p,_,e1,h1,h2,t,ho.1,ho.2⟩
  ·cases h
 ·cases h
def zpA{p3:Pos}(hu:X.A.units+1<cLine)(hN:X.N[i]?=some x)(hv:Vis X.env.scope x)(hd:(x==("__debug__":Str))=false)(hcd:(x==("__classdict__":Str))=false)(hk:PE X a (tE cl E fk))(he:PE X e (tE cl E fe))(sw:swapsWithSole [.Subscript (.Name x pos') a p3] e pos.line X.env=pure false)(sw2:swappedStores [.Subscript (.Name x pos') a p3] e X.env=pure none)
  (ha:∀v,assign (.Subscript (.Name x pos') a p3) X.env v=(do
   let ov ← holding [v] (eval (.Name x pos') X.env)
   let iv ← holding [v,ov] (eval a X.env)
   standAt p3
   holding [v,ov,iv] (setItem ov iv v)
   release [v,ov,iv] [])):
  PS X (.Assign [.Subscript (.Name x pos') a p3] e pos) (tS cl E own (zdJ i fk fe)):=by
 refine PS.imp (zoH he (zss (za0 hN hv hd hcd) hk (zm0 hu) ha) sw sw2 rfl) ?_;rintro De σ H ⟨B,w,ρ,S,rfl,R,q⟩;unfold zdJ at q
 cases hs:zg2 i ρ with
 |none=>rw[hs]at q;exact q.elim|some ds=>
  rw[hs]at q;refine⟨B,w,ρ,S,rfl,R,?_⟩
  cases hev:fe ρ S with
  |bad=>rwa[hev]at q|exc c S1=>rw[hev]at q;exact fun w' R' F'=>q σ w' R' F'|ok d S1=>
   rw[hev]at q;intro v w1 R1 F1 sv;obtain⟨p,kvs,e1,_,_,_,_,_⟩:=zi0 R1 hs;refine⟨_,e1,B,w1,ρ,S1,rfl,R1,?_⟩;dsimp only at q
   cases hkv:fk ρ S1 with
   |bad=>rwa[hkv]at q|exc c S2=>rw[hkv]at q;exact fun w' R' F'=>q σ w' R' (F1.trans F')|ok k S2=>
    rw[hkv]at q;intro y w2 R2 F2 sy;dsimp only at q
    cases k with
    |str k=>
     cases sy;obtain⟨p',kvs',e1',h1,h2,t,ho,hm⟩:=zi0 R2 hs;rw[e1]at e1';cases e1';refine⟨p,_,rfl,zrl.k (k:=.inr k) h2 (by rw[t.length];exact zdX hm),?_⟩;exact q σ _ (R2.mut (d0:=.non) e1 h1 (.dicK (t.putS ho (sv.up F2)))) ((F1.trans F2).trans (zen (by rw[h1];exact yaF _)))
    |_=>exact q.elim
end
noncomputable def zv3(nm:List (Str×NameKind))(ts:List Expr):Bool:=ts.any fun|.Name x _=>!decide (nm.lookup x=some .local)|_=>false
theorem ztz{α β:Type}(f:α->Option β):∀(l:List α),(∃a∈l,f a=none)->(l.filterMap f).length<l.length
 |[],h=>by obtain⟨_,h,_⟩:=h;cases h
 |a::l,h=>by
  rw[yae,ybZ];have hle:=List.length_filterMap_le f l
  cases ha:f a with
  |none=>exact Nat.lt_succ_of_le hle|some b=>
   show(l.filterMap f).length+1<_;obtain⟨c,hc,e⟩:=h
   rcases yat.mp hc with rfl|hc
   ·rw[ha]at e;cases e
   ·have:=ztz f l ⟨c,hc,e⟩;omega
section
variable{X:Cx}{cl:Cf}{E:St->XK}{own:Bool}{nm:List (Str×NameKind)}
def zrd(hs:X.env.scope.names=nm)(h:zv3 nm ts=true):swappedStores [.Tuple ts k p] (.Tuple vs k2 p2) X.env=pure none:=by
 unfold swappedStores;dsimp only;split
 ·rfl
 ·split
  ·rfl
  ·split
   ·rfl
   ·rename_i hn;exfalso;apply hn;rw[ych];left;rw[bne_iff_ne];apply yay;apply ztz;unfold zv3 at h;rw[List.any_eq_true]at h;obtain⟨x,hx,hb⟩:=h;refine⟨x,hx,?_⟩
    cases x with
    |Name y q=>
     have hb':¬ nm.lookup y=some .local:=by simpa using hb
     have:¬ X.env.kindOf y=some .local:=by unfold Env.kindOf;rw[hs];exact hb'
     simp[this]
    |_=>cases hb
variable{i j h:Nat}{x y z:Str}{a e:Expr}{f f1:Fe}{px py pz pt pt2 p2 pos:Pos}{kt k2:Nat}
end
noncomputable def Base.hold(B:Base)(p:Addr)(o:HO):Base:=⟨fun a=>if a=p then some o else B.Fr a,fun a=>if a=p then some .far else B.fw a⟩
section
variable{cl:Cf}{B:Base}{σ:St}{w:Wd}{ρ:Env}{S:Sto}
theorem Rel.hold(R:Rel cl B σ w ρ S)(hp:w.H p=none):Rel cl (B.hold p o) σ (w.addAs p o .far) ρ S:=by
 have ff:=zbP (w:=w) (p:=p) (o:=o) (r:=.far) hp
 have kp:∀a u,w.H a=some u->(w.addAs p o .far).H a=some u/\(w.addAs p o .far).ow a=w.ow a:=fun a u ha=>by
  have n:a≠p:=zav ha hp;refine⟨?_,?_⟩
  ·show upd w.H p o a=_;rw[zaf n];exact ha
  ·show(if a=p then _ else if w.ow a=some Root.far then some Root.far else w.ow a)=_;rw[if_neg n];split
   ·rename_i e;exact e.symm
   ·rfl
 refine⟨⟨fun a u h=>?_,fun a r h=>?_,R.wd.len,fun n ob h=>?_,R.wd.tab.keep ff fun P ps h1 h2=>⟨(kp P _ h1).1,(kp P _ h1).2.trans h2⟩⟩,R.len,fun j b e hj=>?_⟩
 ·by_cases ha:a=p
  ·subst ha;have h':(if a=a then some o else B.Fr a)=some u:=h;rw[if_pos rfl]at h';cases h';exact⟨zaq,by show(if a=a then some Root.far else _)=(if a=a then some Root.far else _);rw[if_pos rfl,if_pos rfl]⟩
  ·have h':(if a=p then some o else B.Fr a)=some u:=h;rw[if_neg ha]at h';have:=kp a u (R.wd.fr a u h').1;refine⟨this.1,this.2.trans ?_⟩;show _=(if a=p then some Root.far else B.fw a);rw[if_neg ha];exact(R.wd.fr a u h').2
 ·by_cases ha:a=p
  ·have h':(if a=p then some Root.far else if w.ow a=some Root.far then some Root.far else w.ow a)=some r:=h;rw[if_pos ha]at h';cases h';exact .inl rfl
  ·have h':(if a=p then some Root.far else if w.ow a=some Root.far then some Root.far else w.ow a)=some r:=h;rw[if_neg ha]at h';split at h'
   ·cases h';exact .inl rfl
   ·rcases R.wd.own a r h' with z|z
    ·exact .inl z
    ·refine .inr ?_;show(if a=p then some o else B.Fr a)=none;rw[if_neg ha];exact z
 ·obtain⟨a,e,x⟩:=R.wd.obj n ob h;exact⟨a,e,x.keep ff fun b u hb _=>kp b u hb⟩
 ·obtain⟨v,e1,x⟩:=R.slots j b e hj;exact⟨v,e1,x.keep ff fun a u ha hr=>⟨(kp a u ha).1,(kp a u ha).2.trans hr⟩⟩
def Rel.unhold(R:Rel cl (B.hold p o) σ w ρ S)(hB:B.Fr p=none):Rel cl B σ w ρ S:=by
 refine⟨⟨fun a u h=>?_,fun a r h=>?_,R.wd.len,R.wd.obj,R.wd.tab⟩,R.len,R.slots⟩
 ·have na:a≠p:=fun z=>by rw[z,hB]at h;cases h
  have h2:=R.wd.fr a u (show(if a=p then some o else B.Fr a)=some u by rw[if_neg na];exact h);exact⟨h2.1,h2.2.trans (show(if a=p then some Root.far else B.fw a)=_ from if_neg na)⟩
 ·rcases R.wd.own a r h with z|z
  ·exact .inl z
  ·have z':(if a=p then some o else B.Fr a)=none:=z;split at z'
   ·cases z'
   ·exact .inr z'
end
section
variable{cl:Cf}{w:Wd}{n:Nat}{B:Base}{σ:St}{ρ:Env}{S:Sto}
def Rel.newo{a dx p:Addr}{ob:Ob}{fs:List (Str×V)}{f:Str}{o0:HO}{d0:D}(R:Rel cl B σ w ρ S)(hn:S[n]?=some ob)(hmu:w.mu[n]?=some a)(how:w.ow a=some (.obj n))(hH:w.H a=some (.ins (cl ob.cls) dx fs))(hF:zc2 cl w n fs ob.fs)(hp:w.H p=none)(ht:Top cl w o0 d0):
  Rel cl B σ ((w.addF p o0 n f).mut a (.ins (cl ob.cls) dx (zdv f (.ref p) fs))) ρ (S.set n (ob.put f true (.tup [d0])))/\Fut w ((w.addF p o0 n f).mut a (.ins (cl ob.cls) dx (zdv f (.ref p) fs))):=by
 have hap:a≠p:=zav hH hp
 have kp:∀b u,w.H b=some u->w.ow b≠some (.obj n)->((w.addF p o0 n f).mut a (.ins (cl ob.cls) dx (zdv f (.ref p) fs))).H b=some u/\((w.addF p o0 n f).mut a (.ins (cl ob.cls) dx (zdv f (.ref p) fs))).ow b=w.ow b:=fun b u hb hne=>by
  have hbp:b≠p:=zav hb hp;refine⟨?_,?_⟩
  ·show upd (upd w.H p _) a _ b=_;rw[zaf (fun z=>hne (by rw[z];exact how)),zaf hbp];exact hb
  ·show(if b=p then _ else w.ow b)=_;rw[if_neg hbp]
 have ff:Fut w ((w.addF p o0 n f).mut a (.ins (cl ob.cls) dx (zdv f (.ref p) fs))):=⟨fun b u hb hk=>by
  have:=kp b u hb (by rw[hk];exact fun z=>by cases z)
  exact⟨this.1,this.2.trans hk⟩,fun _ _ h=>h⟩
 have hB:B.Fr a=none:=(R.wd.own a _ how).elim (fun z=>by cases z) fun z=>z
 have hBp:B.Fr p=none:=by
  cases z:B.Fr p with
  |none=>rfl|some u=>have:=(R.wd.fr p u z).1;rw[hp]at this;cases this
 have Hp:((w.addF p o0 n f).mut a (.ins (cl ob.cls) dx (zdv f (.ref p) fs))).H p=some o0:=by
  show upd (upd w.H p _) a _ p=_;rw[zaf hap.symm,zaq]
 have owp:((w.addF p o0 n f).mut a (.ins (cl ob.cls) dx (zdv f (.ref p) fs))).ow p=some (.fld n f):=if_pos rfl
 have owa:((w.addF p o0 n f).mut a (.ins (cl ob.cls) dx (zdv f (.ref p) fs))).ow a=some (.obj n):=by
  show(if a=p then _ else w.ow a)=_;rw[if_neg hap];exact how
 refine⟨⟨⟨fun b u h=>?_,fun b r h=>?_,by rw[yaN];exact R.wd.len,fun m ob' h=>?_,R.wd.tab.keep ff fun P ps h1 h2=>⟨(kp P _ h1 (by rw[h2];simp)).1,(kp P _ h1 (by rw[h2];simp)).2.trans h2⟩⟩,R.len,fun i o e h=>?_⟩,ff⟩
 ·have:=kp b u (R.wd.fr b u h).1 fun z=>by
   rcases R.wd.own b _ z with y|y
   ·cases y
   ·rw[h]at y;cases y
  exact⟨this.1,this.2.trans (R.wd.fr b u h).2⟩
 ·have h':(if b=p then some (Root.fld n f)else w.ow b)=some r:=h;split at h'
  ·rename_i z;rw[z];exact .inr hBp
  ·exact R.wd.own b r h'
 ·rcases zij h with⟨rfl,rfl⟩|⟨hne,h⟩
  ·refine⟨a,hmu,owa,dx,_,zaq,?_⟩;refine zc2.put (hF.keepF ff fun b u g hb hg=>?_) (.inr ⟨rfl,d0,rfl,p,o0,rfl,owp,Hp,ht.up ff⟩);have:=kp b u hb (by rw[hg];exact fun z=>by cases z);exact⟨this.1,this.2.trans hg⟩
  ·obtain⟨b,e,x⟩:=R.wd.obj m ob' h;exact⟨b,e,x.keep ff fun b u hb hm=>kp b u hb fun z=>by rw[z]at hm;exact hne hm.symm⟩
 ·obtain⟨v,e1,x⟩:=R.slots i o e h
  exact⟨v,e1,x.keep ff fun b u hb hr=>by
   have:=kp b u hb (by rw[hr];exact fun z=>by cases z)
   exact⟨this.1,this.2.trans hr⟩⟩
def Rel.seto{a dx c:Addr}{ob:Ob}{fs:List (Str×V)}{f:Str}{o0:HO}{d0:D}(R:Rel cl B σ w ρ S)(hn:S[n]?=some ob)(hmu:w.mu[n]?=some a)(how:w.ow a=some (.obj n))(hH:w.H a=some (.ins (cl ob.cls) dx fs))(hF:zc2 cl w n fs ob.fs)
  (hl:fs.lookup f=some (.ref c)) (hc:w.ow c=some (.fld n f)) (ht:Top cl w o0 d0) (nd:zeE ob=true):
  Rel cl B σ (w.mut c o0) ρ (S.set n (ob.put f true (.tup [d0])))/\Fut w (w.mut c o0):=by
 have ff:=zen (w:=w) (p:=c) (o:=o0) (by rw[hc];exact yaF _)
 have kp:∀b o,w.H b=some o->w.ow b≠some (.fld n f)->(w.mut c o0).H b=some o/\(w.mut c o0).ow b=w.ow b:=fun b o hb hne=>⟨by
  show upd w.H c _ b=_
  rw[zaf (fun z=>hne (by rw[z];exact hc))];exact hb,rfl⟩
 have hB:B.Fr c=none:=(R.wd.own c _ hc).elim (fun z=>by cases z) fun z=>z
 refine⟨⟨⟨fun b o h=>?_,R.wd.own,by rw[yaN];exact R.wd.len,fun m' ob' h=>?_,R.wd.tab.keep ff fun P ps h1 h2=>⟨(kp P _ h1 (by rw[h2];simp)).1,(kp P _ h1 (by rw[h2];simp)).2.trans h2⟩⟩,R.len,fun i o e h=>?_⟩,ff⟩
 ·refine⟨?_,(R.wd.fr b o h).2⟩;show upd w.H c _ b=_;rw[zaf (fun z=>by rw[z,hB]at h;cases h)];exact(R.wd.fr b o h).1
 ·rcases zij h with⟨rfl,rfl⟩|⟨hne,h⟩
  ·refine⟨a,hmu,how,dx,fs,?_,?_⟩
   ·exact(kp a _ hH (by rw[how];exact fun z=>by cases z)).1
   ·refine zc2.dic (a:=c) ff (fun b o g hg hb hr=>?_) (.inr ⟨rfl,d0,rfl,c,o0,rfl,hc,zaq,ht.up ff⟩) hF (yaj nd) hl
    ·exact⟨(kp b o hb (by rw[hr];exact fun z=>hg (by cases z;rfl))).1,hr⟩
  ·obtain⟨b,e,x⟩:=R.wd.obj m' ob' h;exact⟨b,e,x.keep ff fun b o hb hm=>kp b o hb fun z=>by rw[z]at hm;exact hne hm.symm⟩
 ·obtain⟨v',e1,x⟩:=R.slots i o e h;exact⟨v',e1,x.keep ff fun b o hb hr=>⟨(kp b o hb (by rw[hr];exact fun z=>by cases z)).1,hr⟩⟩
end
noncomputable def zrn(cn f:Str)(d:D)(S:Sto):Option (Nat×Ob×D):=match d with
 |.ref n=>(match S[n]? with
  |some ob=>if ob.cls=cn then(match ob.fs.lookup f with|some (true,.tup [d])=>some (n,ob,d)|_=>none)else none
  |none=>none)
 |_=>none
section
variable{cl:Cf}{cn:Str}{X:Cx}{E:St->XK}{e:Expr}{fe:Fe}{f:Str}{pos:Pos}{B:Base}{σ:St}{w:Wd}{ρ:Env}{S:Sto}
def zt2{v:V}{d:D}{n:Nat}{ob:Ob}{d0:D}(hk:zga cl cn f)(R:Rel cl B σ w ρ S)(hv:Shd cl w v d)(hd:zrn cn f d S=some (n,ob,d0)):
  ∃a dx fs c o,v=.ref a/\S[n]?=some ob/\w.mu[n]?=some a/\w.ow a=some (.obj n)/\w.H a=some (.ins (cl ob.cls) dx fs)/\zc2 cl w n fs ob.fs/\Cls cl.K (cl ob.cls)/\zcx cl.K (cl ob.cls) f/\fs.lookup f=some (.ref c)/\w.ow c=some (.fld n f)/\w.H c=some o/\Top cl w o d0:=by
 unfold zrn at hd
 cases d with
 |ref n'=>
  dsimp only at hd
  cases hS:S[n']? with
  |none=>rw[hS]at hd;cases hd|some ob'=>
   rw[hS]at hd;dsimp only at hd;split at hd
   ·rename_i hfk;split at hd
    ·rename_i ds' hl;cases hd;obtain⟨a,dx,fs,rfl,hmu,how,hH,hF⟩:=zfA R hv hS;obtain⟨v,lv,fr⟩:=hF.look hl
     rcases fr with⟨z,_⟩|⟨_,d1,z,c,o,rfl,c1,c2,c3⟩
     ·cases z
     ·cases z;exact⟨a,dx,fs,c,o,rfl,hS,hmu,how,hH,hF,hfk ▸ hk.1,hfk ▸ hk.2,lv,c1,c2,c3⟩
    ·cases hd
   ·cases hd
 |_=>cases hd
end
noncomputable abbrev Fq:=Env->Sto->Option D
noncomputable def tQ(cl:Cf)(g:Fq):TE:=fun σ H Q=>∃B w ρ S d,w.H=H/\Rel cl B σ w ρ S/\g ρ S=some d/\∀v,Shd cl w v d->Q v H
def zin:List Fq->Env->Sto->Option (List D)
 |[],_,_=>some []|g::gs,ρ,S=>(g ρ S).bind fun d=>(zin gs ρ S).map (d::·)
noncomputable def zbI(i:Nat):Fq:=fun ρ _=>match ρ[i]? with|some (some (false,d))=>some d|_=>none
section
variable{X:Cx}{cl:Cf}{e o:Expr}{es:List Expr}{g:Fq}{gs:List Fq}{pos:Pos}{f cn:Str}
def zsg{i:Nat}{x:Str}(hN:X.N[i]?=some x)(hv:Vis X.env.scope x)(hd:(x==("__debug__":Str))=false)(hcd:(x==("__classdict__":Str))=false):PE X (.Name x pos) (tQ cl (zbI i)):=by
 refine PE.imp (za0 hN hv hd hcd) ?_;rintro σ H Q ⟨B,w,ρ,S,d,rfl,R,hg,q⟩;unfold zbI at hg;split at hg
 ·rename_i d' hi;cases hg;obtain⟨v,ev,rv⟩:=R.slots i false _ hi;exact⟨v,ev,q v rv⟩
 ·cases hg
noncomputable def tQs(cl:Cf)(gs:List Fq):TA:=fun σ H Q=>∃B w ρ S ds,w.H=H/\Rel cl B σ w ρ S/\zin gs ρ S=some ds/\∀vs,Shds cl w vs ds->Q vs H
def zsf:PA X [] (tQs cl []):=PA.imp zcg fun σ H Q ⟨B,w,ρ,S,ds,e,R,h,q⟩=>by cases h;exact q [] .nil
def zp2(he:PE X e (tQ cl g))(ht:PA X es (tQs cl gs))(hs:starEach (e::es) X.env=(false,eval e X.env)::starEach es X.env):PA X (e::es) (tQs cl (g::gs)):=by
 refine PA.imp (zba he ht hs) ?_;rintro σ H Q ⟨B,w,ρ,S,ds,rfl,R,hg,q⟩;unfold zin at hg
 cases h1:g ρ S with
 |none=>rw[h1]at hg;cases hg|some d1=>
  rw[h1]at hg
  cases h2:zin gs ρ S with
  |none=>rw[h2]at hg;cases hg|some ds1=>
   rw[h2]at hg;cases hg;exact⟨B,w,ρ,S,d1,rfl,R,h1,fun v hv=>⟨B,w,ρ,S,ds1,rfl,R,h2,fun vs hvs=>q _ (.cons hv hvs)⟩⟩
end
noncomputable def zjd(cn f:Str)(ρ:Env)(S:Sto)(i:Nat):Option (Nat×Ob×D):=match ρ[i]? with|some (some (false,d))=>zrn cn f d S|_=>none
def zfD(cn f:Str)(i:Nat):Fs:=fun ρ S=>match ρ[i]? with
 |some (some (false,.ref n))=>(match S[n]? with
   |some ob=>if decide (ob.cls=cn)&&decide (ob.fs.length<1000)then .nx ρ (S.set n (ob.put f true (.tup [.lst []])))else .bad
   |none=>.bad)
 |_=>.bad
def zm5(cn f:Str)(i:Nat)(g:Fq):Fs:=fun ρ S=>match zjd cn f ρ S i,g ρ S with
 |some (n,ob,.lst l),some d=>if zaD l.length&&zeE ob then .nx ρ (S.set n (ob.put f true (.tup [.lst (l++[d])])))else .bad
 |_,_=>.bad
def zn4(cn f:Str)(i:Nat):Fe:=fun ρ S=>match zjd cn f ρ S i with
 |some (n,ob,.lst l)=>(match l[l.length-1]? with|some d=>if zeE ob then .ok d (S.set n (ob.put f true (.tup [.lst l.dropLast])))else .bad|none=>.bad)
 |_=>.bad
def zeK(cn f:Str)(i:Nat):Fe:=fun ρ S=>match zjd cn f ρ S i with
 |some (_,_,.lst l)=>.ok (.int l.length) S|_=>.bad
section
variable{X:Cx}{cl:Cf}{E:St->XK}{own:Bool}{e:Expr}{es:List Expr}{g:Fq}{gs:List Fq}{pos pos' apos ap cp p p2:Pos}{f cn:Str}{i:Nat}{x:Str}
def zeh{B:Base}{σ:St}{w:Wd}{ρ:Env}{S:Sto}{n:Nat}{ob:Ob}{d0:D}(hk:zga cl cn f)(R:Rel cl B σ w ρ S)(h:zjd cn f ρ S i=some (n,ob,d0)):
  ∃a dx fs c o,σ[i]?=some (some (.ref a))/\S[n]?=some ob/\w.mu[n]?=some a/\w.ow a=some (.obj n)/\w.H a=some (.ins (cl ob.cls) dx fs)/\zc2 cl w n fs ob.fs/\Cls cl.K (cl ob.cls)/\zcx cl.K (cl ob.cls) f/\fs.lookup f=some (.ref c)/\w.ow c=some (.fld n f)/\w.H c=some o/\Top cl w o d0:=by
 unfold zjd at h;split at h
 ·rename_i d hi;obtain⟨v,ev,rv⟩:=R.slots i false _ hi;obtain⟨a,dx,fs,c,o,rfl,h1⟩:=zt2 hk R rv h;exact⟨a,dx,fs,c,o,ev,h1⟩
 ·cases h
def zpF(hN:X.N[i]?=some x)(hv:Vis X.env.scope x)(hd:(x==("__debug__":Str))=false)(hcd:(x==("__classdict__":Str))=false)(sm:Same' cl X)(hk:zga cl cn f)(hs:swapsWith (.List [] p) (some (.Attribute (.Name x p2) f apos)) pos.line X.env=pure false):PS X (.Assign [.Attribute (.Name x p2) f apos] (.List [] p) pos) (tS cl E own (zfD cn f i)):=by
 refine PS.imp (zjb (za0 hN hv hd hcd) (zoL zcg) hs) ?_;rintro De σ H ⟨B,w,ρ,S,rfl,R,q⟩;refine⟨by decide,fun pd hpd=>?_⟩;unfold zfD at q;split at q
 ·rename_i n hi;obtain⟨v,ev,rv⟩:=R.slots i false _ hi
  cases hS:S[n]? with
  |none=>rw[hS]at q;exact q.elim|some ob=>
   rw[hS]at q;dsimp only at q;split at q
   ·rename_i hc0;rw[yaa]at hc0;obtain⟨a,dx,fs,rfl,hmu,how,hH,hF⟩:=zfA R rv hS;rw[sm.kk];refine⟨_,ev,a,_,dx,fs,rfl,?_,yaj hc0.1 ▸ hk.1,yaj hc0.1 ▸ hk.2,by rw[hF.len];exact yaj hc0.2,?_⟩
    ·rw[zaf (zav hH hpd)];exact hH
    ·obtain⟨R3,F3⟩:=R.newo (f:=f) hS hmu how hH hF hpd (.lst .nil);exact q σ _ R3 F3
   ·exact q.elim
 ·exact q.elim
def zpI(hN:X.N[i]?=some x)(hv:Vis X.env.scope x)(hd:(x==("__debug__":Str))=false)(hcd:(x==("__classdict__":Str))=false)(sm:Same' cl X)(hk:zga cl cn f)(hb:attributeBase (.Name x p) f X.env (eval (.Name x p) X.env)=eval (.Name x p) X.env)(he:PE X e (tQ cl g))(hbase:attributeBase (.Attribute (.Name x p) f apos) "append" X.env (eval (.Attribute (.Name x p) f apos) X.env)=eval (.Attribute (.Name x p) f apos) X.env)
  (hpl:zbx e=true) (hln:(ap.endLine==cp.line)=true):PS X (.Expr (.Call (.Attribute (.Attribute (.Name x p) f apos) "append" ap) [e] [] cp) pos) (tS cl E own (zm5 cn f i g)):=by
 refine PS.imp (ze2 (zlo (es:=[]) ybc yb3 yb4 ze5 (zcr (za0 hN hv hd hcd) hb) (zba he zcg (zbd hpl)) (hbase:=hbase) (hfew:=zfX (by simp[hpl]) (by simp)) (hline:=hln) (hs:=zbd hpl) (hplain:=rfl))) ?_;rintro De σ H ⟨B,w,ρ,S,rfl,R,q⟩;unfold zm5 at q;split at q
 ·rename_i n ob l d hl hg;obtain⟨a,dx,fs,c,o,ev,hS,hmu,how,hH,hF,c1,c2,lv,oc,hc,t⟩:=zeh hk R hl;split at q
  ·rename_i hz;rw[yaa]at hz
   cases t with
   |lst t=>
    rw[sm.kk];refine⟨_,ev,a,_,dx,fs,_,rfl,hH,c1,c2,lv,.inl ⟨rfl,_,SqL.of hc⟩,B,w,ρ,S,d,rfl,R,hg,fun v h'=>?_⟩;refine⟨c,_,v,rfl,rfl,hc,by rw[t.length];exact zdX hz.1,?_⟩;obtain⟨R3,F3⟩:=R.seto hS hmu how hH hF lv oc (.lst (t.append (.cons h' .nil))) hz.2;exact q σ _ R3 F3
  ·exact q.elim
 ·exact q.elim
def zpS(hN:X.N[i]?=some x)(hv:Vis X.env.scope x)(hd:(x==("__debug__":Str))=false)(hcd:(x==("__classdict__":Str))=false)(sm:Same' cl X)(hk:zga cl cn f)(hb:attributeBase (.Name x p) f X.env (eval (.Name x p) X.env)=eval (.Name x p) X.env)(hbase:attributeBase (.Attribute (.Name x p) f apos) "pop" X.env (eval (.Attribute (.Name x p) f apos) X.env)=eval (.Attribute (.Name x p) f apos) X.env)
  (hln:(ap.endLine==cp.line)=true):PE X (.Call (.Attribute (.Attribute (.Name x p) f apos) "pop" ap) [] [] cp) (tE cl E (zn4 cn f i)):=by
 refine PE.imp (zsw ybc PySem.F.slot_list_pop PySem.F.type_list_pop zs1 (zcr (za0 hN hv hd hcd) hb) (hbase:=hbase) (hline:=hln)) ?_;rintro σ H Q ⟨B,w,ρ,S,rfl,R,q⟩;unfold zn4 at q
 cases hl:zjd cn f ρ S i with
 |none=>rw[hl]at q;exact q.elim|some u=>
  obtain⟨n,ob,d0⟩:=u;rw[hl]at q
  cases d0 with
  |lst l=>
   dsimp only at q;obtain⟨a,dx,fs,c,o,ev,hS,hmu,how,hH,hF,c1,c2,lv,oc,hc,t⟩:=zeh hk R hl
   cases hy:l[l.length-1]? with
   |none=>rw[hy]at q;exact q.elim|some d=>
    rw[hy]at q;dsimp only at q
    cases hnd:zeE ob with
    |false=>rw[hnd,if_neg (by decide)]at q;exact q.elim
    |true=>
     rw[hnd,if_pos rfl]at q
     cases t with
     | @lst xs _ t=>
      obtain⟨v,ev',rv⟩:=t.at hy;rw[sm.kk]
      have hdl:Shds cl w xs.dropLast l.dropLast:=by
       rw[List.dropLast_eq_take,List.dropLast_eq_take,t.length];exact t.take _
      refine⟨_,ev,a,_,dx,fs,_,rfl,hH,c1,c2,lv,.inl ⟨rfl,_,SqL.of hc⟩,c,xs,v,rfl,rfl,hc,by rw[t.length];exact ev',?_⟩;obtain⟨R3,F3⟩:=R.seto hS hmu how hH hF lv oc (.lst hdl) hnd;exact q v _ R3 F3 (rv.up F3)
  |_=>exact q.elim
def zpT{q1:Pos}{y:Str}(hN:X.N[i]?=some x)(hv:Vis X.env.scope x)(hd:(x==("__debug__":Str))=false)(hcd:(x==("__classdict__":Str))=false)(sm:Same' cl X)(hk:zga cl cn f)(hb:attributeBase (.Name x p) f X.env (eval (.Name x p) X.env)=eval (.Name x p) X.env)(hg:Gl X "len")(hm:X.mg "len"=none):
  PE X (.Call (.Name "len" q1) [.Attribute (.Name x p) f apos] [] cp) (tE cl E (zeK cn f i)):=by
 refine PE.imp (zcP zcw hg hm PySem.boot_len (zba (zcr (za0 hN hv hd hcd) hb) zcg)) ?_;rintro σ H Q ⟨B,w,ρ,S,rfl,R,q⟩;unfold zeK at q
 cases hl:zjd cn f ρ S i with
 |none=>rw[hl]at q;exact q.elim|some u=>
  obtain⟨n,ob,d0⟩:=u;rw[hl]at q
  cases d0 with
  |lst l=>
   dsimp only at q;obtain⟨a,dx,fs,c,o,ev,hS,hmu,how,hH,hF,c1,c2,lv,oc,hc,t⟩:=zeh hk R hl
   cases t with
   |lst t=>
    rw[sm.kk];refine⟨_,ev,a,_,dx,fs,_,rfl,hH,c1,c2,lv,c,_,rfl,.inl (SqL.of hc),?_⟩;rw[t.length];exact q _ w R (Fut.refl _) (.int _)
  |_=>exact q.elim
end
noncomputable def eQ(g:Fq):Fe:=fun ρ S=>match g ρ S with|some d=>.ok d S|none=>.bad
def dicI(cn f:Str)(ρ:Env)(S:Sto)(i:Nat):Option (Nat×Ob×List (D×D)):=match zjd cn f ρ S i with
 |some (n,ob,.dic ds)=>if zac ds then some (n,ob,ds)else none
 |_=>none
def zne(cn f:Str)(i:Nat)(g:Fq):Fq:=fun ρ S=>match g ρ S,dicI cn f ρ S i with|some (.str k),some (_,_,ds)=>some (.bl (zab k ds).isSome)|_,_=>none
def zfE(cn f:Str)(i:Nat)(g:Fq):Fq:=fun ρ S=>match g ρ S,dicI cn f ρ S i with|some (.str k),some (_,_,ds)=>some (.bl (!(zab k ds).isSome))|_,_=>none
def zp5(cn f:Str)(i:Nat)(g:Fq):Fq:=fun ρ S=>match g ρ S,dicI cn f ρ S i with|some (.str k),some (_,_,ds)=>zab k ds|_,_=>none
def zhg(cn f:Str)(i:Nat)(g:Fq):Fq:=fun ρ S=>match g ρ S,dicI cn f ρ S i with|some (.str k),some (_,_,ds)=>some ((zab k ds).getD .non)|_,_=>none
def zk2(cn f:Str)(i:Nat):Fs:=fun ρ S=>match ρ[i]? with
 |some (some (false,.ref n))=>(match S[n]? with
   |some ob=>if decide (ob.cls=cn)&&decide (ob.fs.length<1000)then .nx ρ (S.set n (ob.put f true (.tup [.dic []])))else .bad
   |none=>.bad)
 |_=>.bad
def zjN(cn f:Str)(i:Nat)(gk ge:Fq):Fs:=fun ρ S=>match gk ρ S,ge ρ S,dicI cn f ρ S i with
 |some (.str k),some d,some (n,ob,ds)=>if zaD ds.length&&zeE ob then .nx ρ (S.set n (ob.put f true (.tup [.dic (putS k d ds)])))else .bad
 |_,_,_=>.bad
def zjO(cn f:Str)(i:Nat)(gk:Fq):Fs:=fun ρ S=>match gk ρ S,dicI cn f ρ S i with
 |some (.str k),some (n,ob,ds)=>if zeE ob then(if(zab k ds).isSome then .nx ρ (S.set n (ob.put f true (.tup [.dic (dropS k ds)])))else .nx ρ S)else .bad
 |_,_=>.bad
section
variable{X:Cx}{cl:Cf}{E:St->XK}{own:Bool}{e o:Expr}{g gk ge:Fq}{pos apos ap cp p p2 p3:Pos}{f cn:Str}{i:Nat}{x:Str}{σ:St}{H:Hp}{Q:VK}
def zpu(q:tE cl E (eQ g) σ H Q):tQ cl g σ H Q:=by
 obtain⟨B,w,ρ,S,rfl,R,q⟩:=q;unfold eQ at q
 cases hg:g ρ S with
 |none=>rw[hg]at q;exact q.elim|some d=>rw[hg]at q;exact⟨B,w,ρ,S,d,rfl,R,hg,fun v hv=>q v w R (Fut.refl _) hv⟩
def zu5(h:PE X e (tQ cl g)):PE X e (tE cl E (eQ g)):=PE.imp h fun _ _ _ q=>zpu q
def zgF{B:Base}{w:Wd}{ρ:Env}{S:Sto}{n:Nat}{ob:Ob}{ds:List (D×D)}(hk:zga cl cn f)(R:Rel cl B σ w ρ S)(h:dicI cn f ρ S i=some (n,ob,ds)):
  ∃a dx fs c kvs,σ[i]?=some (some (.ref a))/\S[n]?=some ob/\w.mu[n]?=some a/\w.ow a=some (.obj n)/\w.H a=some (.ins (cl ob.cls) dx fs)/\zc2 cl w n fs ob.fs/\Cls cl.K (cl ob.cls)/\zcx cl.K (cl ob.cls) f/\fs.lookup f=some (.ref c)/\w.ow c=some (.fld n f)/\w.H c=some (.dK kvs)/\ShdK cl w kvs ds/\zac ds=true:=by
 unfold dicI at h;split at h
 ·rename_i n' ob' ds' hl;split at h
  ·rename_i ho;cases h;obtain⟨a,dx,fs,c,o,ev,h1,h2,h3,h4,h5,h6,h7,h8,h9,h10,t⟩:=zeh hk R hl;obtain⟨kvs,rfl,t2⟩:=zpo t ho;exact⟨a,dx,fs,c,kvs,ev,h1,h2,h3,h4,h5,h6,h7,h8,h9,h10,t2,ho⟩
  ·cases h
 ·cases h
def zfL{w:Wd}{v:V}{k:Str}(h:Shd cl w v (.str k)):v=.str k:=by cases h;rfl
def znd{B:Base}{w:Wd}{ρ:Env}{S:Sto}{k:Str}{n:Nat}{ob:Ob}{ds:List (D×D)}{P:Option V->Prop}(hk:zga cl cn f)(kk:X.K=cl.K)(R:Rel cl B σ w ρ S)(h:dicI cn f ρ S i=some (n,ob,ds))
  (hq:∀ov:Option V,(ov=none/\zab k ds=none)\/(∃v d,ov=some v/\zab k ds=some d/\Shd cl w v d)->P ov):
  ∃v,σ[i]?=some (some v)/\∃a C dx fs c,v=.ref a/\w.H a=some (.ins C dx fs)/\Cls X.K C/\zcx X.K C f/\fs.lookup f=some (.ref c)/\IsD w.H c/\∃ov,zhZ w.H c (.str k) ov/\P ov:=by
 obtain⟨a,dx,fs,c,kvs,ev,_,_,_,h4,_,h6,h7,h8,_,h10,t,ho⟩:=zgF hk R h;rw[kk];exact⟨_,ev,a,_,dx,fs,c,rfl,h4,h6,h7,h8,.inl ⟨kvs,.inl h10⟩,_,zhZ.k (k:=.inr k) h10,hq _ (zch k t ho)⟩
def zxo(hk:zga cl cn f)(kk:X.K=cl.K)(q:tQ cl (zne cn f i g) σ H Q):zwE (tQ cl g) (zuS X.K (zuO i) f) σ H Q:=by
 obtain⟨B,w,ρ,S,d,rfl,R,hg,q⟩:=q;unfold zne at hg;split at hg
 ·rename_i k n ob ds h1 h2;cases hg;refine⟨B,w,ρ,S,_,rfl,R,h1,fun v hv=>?_⟩;rw[zfL hv]
  obtain⟨v',e0,a,C,dx,fs,c,e1,e2,e3,e4,e5,_,ov,e6,e7⟩:=znd (P:=fun ov=>Q (.bl ov.isSome) w.H) hk kk R h2 fun ov h=>by
   rcases h with⟨rfl,h⟩|⟨_,_,rfl,h,_⟩<;>rw[h]at q<;>exact q _ (.bl _)
  exact⟨v',e0,a,C,dx,fs,_,e1,e2,e3,e4,e5,c,ov,rfl,e6,e7⟩
 ·cases hg
def zoR(hk:zga cl cn f)(kk:X.K=cl.K)(q:tQ cl (zfE cn f i g) σ H Q):zkJ (tQ cl g) (zuS X.K (zuO i) f) σ H Q:=by
 obtain⟨B,w,ρ,S,d,rfl,R,hg,q⟩:=q;unfold zfE at hg;split at hg
 ·rename_i k n ob ds h1 h2;cases hg;refine⟨B,w,ρ,S,_,rfl,R,h1,fun v hv=>?_⟩;rw[zfL hv]
  obtain⟨v',e0,a,C,dx,fs,c,e1,e2,e3,e4,e5,_,ov,e6,e7⟩:=znd (P:=fun ov=>Q (.bl (!ov.isSome)) w.H) hk kk R h2 fun ov h=>by
   rcases h with⟨rfl,h⟩|⟨_,_,rfl,h,_⟩<;>rw[h]at q<;>exact q _ (.bl _)
  exact⟨v',e0,a,C,dx,fs,_,e1,e2,e3,e4,e5,c,ov,rfl,e6,e7⟩
 ·cases hg
variable(hN:X.N[i]?=some x)(hv:Vis X.env.scope x)(hd:(x==("__debug__":Str))=false)(hcd:(x==("__classdict__":Str))=false)(sm:Same' cl X)(hk:zga cl cn f)(hb:attributeBase (.Name x p) f X.env (eval (.Name x p) X.env)=eval (.Name x p) X.env)
include hN hv hd hcd sm hk hb
def zsi(hu:X.A.units+1<cLine)(he:PE X e (tQ cl g))(hm:behindInMarks .In (.Attribute (.Name x p) f apos)=false):PE X (.Compare e [.In] [.Attribute (.Name x p) f apos] pos) (tQ cl (zne cn f i g)):=
 PE.imp (zoN (zoO hu he (zcr (za0 hN hv hd hcd) hb)) hm) fun _ _ _ q=>zxo hk sm.kk q
def zp3(hu:X.A.units+1<cLine)(he:PE X e (tQ cl g))(hm:behindInMarks .NotIn (.Attribute (.Name x p) f apos)=false):PE X (.Compare e [.NotIn] [.Attribute (.Name x p) f apos] pos) (tQ cl (zfE cn f i g)):=
 PE.imp (zoN (zhk hu he (zcr (za0 hN hv hd hcd) hb)) hm) fun _ _ _ q=>zoR hk sm.kk q
def zse(hu:X.A.units+1<cLine)(he:PE X e (tQ cl g))(hm:behindInMarks .In (.Attribute (.Name x p) f apos)=false):PT X (.Compare e [.In] [.Attribute (.Name x p) f apos] pos) (tTr cl E (eQ (zne cn f i g))):=
 PT.imp (zoF (zoO hu he (zcr (za0 hN hv hd hcd) hb)) hm) fun _ _ _ q=>zxo hk sm.kk (zpu (zgV q))
def zp1(hu:X.A.units+1<cLine)(he:PE X e (tQ cl g))(hm:behindInMarks .NotIn (.Attribute (.Name x p) f apos)=false):PT X (.Compare e [.NotIn] [.Attribute (.Name x p) f apos] pos) (tTr cl E (eQ (zfE cn f i g))):=
 PT.imp (zoF (zhk hu he (zcr (za0 hN hv hd hcd) hb)) hm) fun _ _ _ q=>zoR hk sm.kk (zpu (zgV q))
def zp4(hu:X.A.units+1<cLine)(he:PE X e (tQ cl g))(m:M1 X (.Attribute (.Name x p) f apos) "get" ap e cp):PE X (.Call (.Attribute (.Attribute (.Name x p) f apos) "get" ap) [e] [] cp) (tQ cl (zhg cn f i g)):=by
 refine PE.imp (znt hu (zcr (za0 hN hv hd hcd) hb) he m) ?_;rintro σ H Q ⟨B,w,ρ,S,d,rfl,R,hg,q⟩;unfold zhg at hg;split at hg
 ·rename_i k n ob ds h1 h2;cases hg
  obtain⟨v',e0,a,C,dx,fs,c,e1,e2,e3,e4,e5,e55,ov,e6,e7⟩:=znd (P:=fun ov=>Q (ov.getD .non) w.H) hk sm.kk R h2 fun ov h=>by
   rcases h with⟨rfl,h⟩|⟨_,_,rfl,h,r⟩<;>rw[h]at q
   ·exact q _ .non
   ·exact q _ r
  refine⟨v',e0,a,C,dx,fs,_,e1,e2,e3,e4,e5,c,rfl,e55,B,w,ρ,S,_,rfl,R,h1,fun v hv=>?_⟩;rw[zfL hv];exact⟨ov,e6,e7⟩
 ·cases hg
def zsh(hu:X.A.units+1<cLine)(he:PE X e (tQ cl g))(hs:zv9 e):PE X (.Subscript (.Attribute (.Name x p) f apos) e pos) (tQ cl (zp5 cn f i g)):=by
 refine PE.imp (zqo hu (zcr (za0 hN hv hd hcd) hb) he hs) ?_;rintro σ H Q ⟨B,w,ρ,S,d,rfl,R,hg,q⟩;unfold zp5 at hg;split at hg
 ·rename_i k n ob ds h1 h2
  obtain⟨v',e0,a,C,dx,fs,c,e1,e2,e3,e4,e5,e55,ov,e6,v,rfl,e7⟩:=znd (P:=fun ov=>∃v,ov=some v/\Q v w.H) hk sm.kk R h2 fun ov h=>by
   rcases h with⟨rfl,h⟩|⟨v,_,rfl,h,r⟩<;>rw[h]at hg
   ·cases hg
   ·cases hg;exact⟨v,rfl,q _ r⟩
  refine⟨v',e0,a,C,dx,fs,_,e1,e2,e3,e4,e5,B,w,ρ,S,_,rfl,R,h1,fun y hv=>?_⟩;rw[zfL hv];exact⟨c,v,rfl,e6,e7⟩
 ·cases hg
omit hb
def zpG(hs:swapsWith (.Dict [] [] p) (some (.Attribute (.Name x p2) f apos)) pos.line X.env=pure false):PS X (.Assign [.Attribute (.Name x p2) f apos] (.Dict [] [] p) pos) (tS cl E own (zk2 cn f i)):=by
 refine PS.imp (zjb (za0 hN hv hd hcd) zjc hs) ?_;rintro De σ H ⟨B,w,ρ,S,rfl,R,q⟩;intro pd hpd;unfold zk2 at q;split at q
 ·rename_i n hi;obtain⟨v,ev,rv⟩:=R.slots i false _ hi
  cases hS:S[n]? with
  |none=>rw[hS]at q;exact q.elim|some ob=>
   rw[hS]at q;dsimp only at q;split at q
   ·rename_i hc0;rw[yaa]at hc0;obtain⟨a,dx,fs,rfl,hmu,how,hH,hF⟩:=zfA R rv hS;rw[sm.kk];refine⟨_,ev,a,_,dx,fs,rfl,?_,yaj hc0.1 ▸ hk.1,yaj hc0.1 ▸ hk.2,by rw[hF.len];exact yaj hc0.2,?_⟩
    ·rw[zaf (zav hH hpd)];exact hH
    ·obtain⟨R3,F3⟩:=R.newo (f:=f) hS hmu how hH hF hpd (.dicK .nil);exact q σ _ R3 F3
   ·exact q.elim
 ·exact q.elim
include hb
def zpB(hu:X.A.units+1<cLine)(hek:PE X e (tQ cl gk))(heo:PE X o (tQ cl ge))(hs:swapsWith o (some (.Subscript (.Attribute (.Name x p) f apos) e p3)) pos.line X.env=pure false):PS X (.Assign [.Subscript (.Attribute (.Name x p) f apos) e p3] o pos) (tS cl E own (zjN cn f i gk ge)):=by
 refine PS.imp (zqc hu (zcr (za0 hN hv hd hcd) hb) hek heo hs) ?_;rintro De σ H ⟨B,w,ρ,S,rfl,R,q⟩;unfold zjN at q;split at q
 ·rename_i k d n ob ds h1 h2 h3;split at q
  ·rename_i hz;rw[yaa]at hz;refine⟨B,w,ρ,S,_,rfl,R,h2,fun v hv=>?_⟩;obtain⟨a,dx,fs,c,kvs,ev,hS,hmu,how,hH,hF,c1,c2,lv,oc,hc,t,ho⟩:=zgF hk R h3;rw[sm.kk];refine⟨_,ev,a,_,dx,fs,_,rfl,hH,c1,c2,lv,B,w,ρ,S,_,rfl,R,h1,fun y hy=>?_⟩;rw[zfL hy];refine⟨c,_,rfl,zrl.k (k:=.inr k) hc (by rw[t.length];exact zdX hz.1),?_⟩;obtain⟨R3,F3⟩:=R.seto hS hmu how hH hF lv oc (.dicK (t.putS ho hv)) hz.2;exact q σ _ R3 F3
  ·exact q.elim
 ·exact q.elim
def zpC{j:Nat}(hek:PE X e (tQ cl gk))(m:M2 X (.Attribute (.Name x p) f apos) "pop" ap e (.Constant .none j p2) cp):PS X (.Expr (.Call (.Attribute (.Attribute (.Name x p) f apos) "pop" ap) [e,.Constant .none j p2] [] cp) pos) (tS cl E own (zjO cn f i gk)):=by
 refine PS.imp (ze2 (znr (zcr (za0 hN hv hd hcd) hb) hek zoK m)) ?_;rintro De σ H ⟨B,w,ρ,S,rfl,R,q⟩;unfold zjO at q;split at q
 ·rename_i k n ob ds h1 h3;split at q
  ·rename_i hz;obtain⟨a,dx,fs,c,kvs,ev,hS,hmu,how,hH,hF,c1,c2,lv,oc,hc,t,ho⟩:=zgF hk R h3;rw[sm.kk];refine⟨_,ev,a,_,dx,fs,_,rfl,hH,c1,c2,lv,c,rfl,.inl ⟨kvs,.inl hc⟩,B,w,ρ,S,_,rfl,R,h1,fun y hy=>?_⟩;rw[zfL hy];refine⟨kvs,.inr k,hc,rfl,fun v hv=>?_,fun hn=>?_⟩
   ·rcases zch k t ho with⟨z,_⟩|⟨_,_,_,z,_⟩
    ·rw[z]at hv;cases hv
    ·rw[z]at q;simp only[ycS,ycT]at q;obtain⟨R3,F3⟩:=R.seto hS hmu how hH hF lv oc (.dicK (t.dropS (k:=k) ho)) hz;exact q σ _ R3 F3
   ·rcases zch k t ho with⟨_,z⟩|⟨_,_,z,_⟩
    ·rw[z]at q;simp only[Option.isSome_none,ybD,yc3]at q;exact q σ w R (Fut.refl _)
    ·rw[z]at hn;cases hn
  ·exact q.elim
 ·exact q.elim
end
def zjQ(cn f:Str)(i:Nat)(gs:List Fq):Fs:=fun ρ S=>match zjd cn f ρ S i,zin gs ρ S with
 |some (n,ob,.lst l),some ds=>if zaD l.length&&zaD ds.length&&zeE ob then .nx ρ (S.set n (ob.put f true (.tup [.lst (l++[.tup ds])])))else .bad
 |_,_=>.bad
section
variable{X:Cx}{cl:Cf}{E:St->XK}{own:Bool}{es:List Expr}{gs:List Fq}{pos apos ap cp p p2:Pos}{f cn:Str}{i kk:Nat}{x:Str}
def zpH(hN:X.N[i]?=some x)(hv:Vis X.env.scope x)(hd:(x==("__debug__":Str))=false)(hcd:(x==("__classdict__":Str))=false)(sm:Same' cl X)(hk:zga cl cn f)(hb:attributeBase (.Name x p) f X.env (eval (.Name x p) X.env)=eval (.Name x p) X.env)(he:PA X es (tQs cl gs))(hbase:attributeBase (.Attribute (.Name x p) f apos) "append" X.env (eval (.Attribute (.Name x p) f apos) X.env)=eval (.Attribute (.Name x p) f apos) X.env)
  (hln:(ap.endLine==cp.line)=true):PS X (.Expr (.Call (.Attribute (.Attribute (.Name x p) f apos) "append" ap) [.Tuple es kk p2] [] cp) pos) (tS cl E own (zjQ cn f i gs)):=by
 refine PS.imp (ze2 (zlo (es:=[]) ybc yb3 yb4 ze5 (zcr (za0 hN hv hd hcd) hb) (zba (zoI he) zcg (zbd rfl)) (hbase:=hbase) (hfew:=zfX rfl (by simp)) (hline:=hln) (hs:=zbd rfl) (hplain:=rfl))) ?_;rintro De σ H ⟨B,w,ρ,S,rfl,R,q⟩;unfold zjQ at q;split at q
 ·rename_i n ob l ds hl hg;obtain⟨a,dx,fs,c,o,ev,hS,hmu,how,hH,hF,c1,c2,lv,oc,hc,t⟩:=zeh hk R hl;split at q
  ·rename_i hz;rw[yaa,yaa]at hz
   cases t with
   |lst t=>
    rw[sm.kk];refine⟨_,ev,a,_,dx,fs,_,rfl,hH,c1,c2,lv,.inl ⟨rfl,_,SqL.of hc⟩,B,w,ρ,S,ds,rfl,R,hg,fun vs hvs=>⟨by rw[hvs.length];exact zaQ hz.1.2,fun pn hpn=>?_⟩⟩;have gr:=zaB hpn (.tup vs);have R2:Rel cl B σ (w.add pn (.tup vs)) ρ S:=R.grow gr;obtain⟨a',dx',fs',c',o',ev',_,hmu',how',hH',hF',_,_,lv',oc',hc',t'⟩:=zeh hk R2 hl;rw[ev]at ev';cases ev';have e1:=(gr.keep a _ hH).1;rw[hH']at e1;cases e1;rw[lv]at lv';cases lv';have e2:=(gr.keep c _ hc).1;rw[hc']at e2;cases e2
    cases t' with
    |lst t'=>
     refine⟨c,_,_,rfl,rfl,hc',by rw[t.length];exact zdX hz.1.1,?_⟩;obtain⟨R3,F3⟩:=R2.seto hS hmu' how' hH' hF' lv oc' (.lst (t'.append (.cons (Shd.newT hpn hvs) .nil))) hz.2;exact q σ _ R3 (gr.fut.trans F3)
  ·exact q.elim
 ·exact q.elim
end
def zk0(cn f:Str)(i:Nat)(d:D):Fs:=fun ρ S=>match ρ[i]? with
 |some (some (false,.ref n))=>(match S[n]? with
   |some ob=>if decide (ob.cls=cn)&&decide (ob.fs.length<1000)then .nx ρ (S.set n (ob.put f true (.tup [d])))else .bad
   |none=>.bad)
 |_=>.bad
noncomputable def zjP(cn f:Str)(i:Nat)(g:Fe):Fs:=fun ρ S=>match g ρ S with|.ok d S1=>zk0 cn f i d ρ S1|.exc c S1=>.ex c ρ S1|.bad=>.bad
section
variable{X:Cx}{cl:Cf}{E:St->XK}{own:Bool}{pos apos apos2 cp p p2 p3:Pos}{f g cn:Str}{i j:Nat}{x y:Str}
def zqx{B:Base}{w:Wd}{σ:St}{ρ:Env}{S:Sto}{De:Ends}{pd:Addr}{o0:HO}{d:D}(hk:zga cl cn f)(kk:X.K=cl.K)(R:Rel cl B σ w ρ S)(hpd:w.H pd=none)(ht:Top cl w o0 d)(q:zh0 cl E own B w De (zk0 cn f i d ρ S)):
  ∃v,σ[i]?=some (some v)/\∃a C dx fs,v=.ref a/\upd w.H pd o0 a=some (.ins C dx fs)/\Cls X.K C/\zcx X.K C f/\fs.length<1000/\De.nx σ (upd (upd w.H pd o0) a (.ins C dx (zdv f (.ref pd) fs))):=by
 unfold zk0 at q;split at q
 ·rename_i n hi;obtain⟨v,ev,rv⟩:=R.slots i false _ hi
  cases hS:S[n]? with
  |none=>rw[hS]at q;exact q.elim|some ob=>
   rw[hS]at q;dsimp only at q;split at q
   ·rename_i hc0;rw[yaa]at hc0;obtain⟨a,dx,fs,rfl,hmu,how,hH,hF⟩:=zfA R rv hS;rw[kk];refine⟨_,ev,a,_,dx,fs,rfl,?_,yaj hc0.1 ▸ hk.1,yaj hc0.1 ▸ hk.2,by rw[hF.len];exact yaj hc0.2,?_⟩
    ·rw[zaf (zav hH hpd)];exact hH
    ·obtain⟨R3,F3⟩:=R.newo (f:=f) hS hmu how hH hF hpd ht;exact q σ _ R3 F3
   ·exact q.elim
 ·exact q.elim
def zpD{e:Expr}{h:Fe}(hN:X.N[i]?=some x)(hv:Vis X.env.scope x)(hd:(x==("__debug__":Str))=false)(hcd:(x==("__classdict__":Str))=false)(kk:X.K=cl.K)(hk:zga cl cn f)(he:PE X e (tN cl E h))
  (hs:swapsWith e (some (.Attribute (.Name x p) f apos)) pos.line X.env=pure false):PS X (.Assign [.Attribute (.Name x p) f apos] e pos) (tS cl E own (zjP cn f i h)):=by
 refine PS.imp (zjb (za0 hN hv hd hcd) he hs) ?_;rintro De σ H ⟨B,w,ρ,S,rfl,R,q⟩;refine⟨B,w,ρ,S,rfl,R,?_⟩;unfold zjP at q
 cases hf:h ρ S with
 |bad=>rwa[hf]at q|exc c S1=>rw[hf]at q;exact fun w' R' F'=>q σ w' R' F'|ok d S1=>
  rw[hf]at q;intro pd o w' R' F' hpd ht;exact zqx hk kk R' hpd ht (zh0.up F' q)
end
def eSm(g:Str->D->Option D)(fo f:Fe):Fe:=fun ρ S=>(fo ρ S).bind fun d S1=>match d with|.str x=>(f ρ S1).bind fun d S2=>Out.of (g x d) S2|_=>.bad
noncomputable def MtS(X:Cx)(cl:Cf)(id:String)(g:Str->D->Option D):Prop:=MtR X id fun x vs H Q=>∃(y:Str) (w:Wd) (d:D) (v:V) (r:D),w.H=H/\x=.str y/\vs=[v]/\Shd cl w v d/\g y d=some r/\∀v' w',Grow w w'->Shd cl w' v' r->Q v' w'.H
section
variable{X:Cx}{cl:Cf}{E:St->XK}{o e e2:Expr}{fo f f2:Fe}
def zu1{name:Str}{id:String}{g:Str->D->Option D}{ap cp:Pos}(slot:Slot "str" name id)(hty:typeOf (.builtin id)=pure (.type "method_descriptor"))(hm:MtS X cl id g)(ho:PE X o (tE cl E fo))(he:PE X e (tE cl E f))(hpl:zbx e=true)
  (hb:attributeBase o name X.env (eval o X.env)=eval o X.env) (hln:(ap.endLine==cp.line)=true):PE X (.Call (.Attribute o name ap) [e] [] cp) (tE cl E (eSm g fo f)):=by
 refine PE.imp (zlo (es:=[]) PySem.F.plainAttrs_str slot hty hm ho (zaR he zeB (zbd hpl)) hb (zfX (by simp[hpl]) (by simp)) hln (zbd hpl) rfl) ?_;rintro σ H Q ⟨B,w,ρ,S,rfl,R,q⟩;refine⟨B,w,ρ,S,rfl,R,?_⟩;unfold eSm at q
 cases hf:fo ρ S with
 |bad=>rwa[hf]at q|exc c S1=>rwa[hf]at q|ok d S1=>
  rw[hf]at q;intro v w1 R1 F1 sh;dsimp only[Out.bind]at q
  cases d with
  |str x=>
   cases sh;refine⟨rfl,B,w1,ρ,S1,rfl,R1,?_⟩
   cases h2:f ρ S1 with
   |bad=>rw[h2]at q;exact q.elim|exc c S2=>rw[h2]at q;simp only[zas,h2,Out.bind];exact fun w' R' F'=>q w' R' (F1.trans F')|ok d2 S2=>
    rw[h2]at q;simp only[zas,h2,Out.bind];intro vs w2 R2 F2 shs;dsimp only[Out.bind]at q
    cases shs with
    |cons h1 hn=>
     cases hn
     cases hg:g x d2 with
     |none=>rw[hg]at q;exact q.elim|some r=>rw[hg]at q;exact⟨x,w2,d2,_,r,rfl,rfl,rfl,h1,hg,fun v' w' gr s=>q v' w' (R2.grow gr) (F1.trans (F2.trans gr.fut)) s⟩
  |_=>exact q.elim
noncomputable def zmh(x:Str):D->Option D|.str y=>some (.bl (Txt.endswith x y))|_=>none
def zqB:MtS X cl "str.endswith" zmh:=by
 intro pins s σ H x vs v us Q I rx rv h;obtain⟨y,w,d,v',r,rfl,rfl,rfl,sh,hg,q⟩:=h;obtain⟨t,rfl⟩:=rx;obtain⟨u,rfl,ru⟩:=rv.one
 cases d with
 |str z=>
  cases sh;cases hg;obtain⟨t',rfl⟩:=ru;exact call_gives PySem.F.slot_str_endswith (ybM _ _ _) PySem.F.entry_str_endswith (PySem.F.args_str_endswith_2 _ _) (gives_str_endswith _ _ _ _) ⟨.bl _,w.H,I,rfl,q _ w (Grow.refl _) (.bl _)⟩
 |_=>cases hg
noncomputable def zjt(x:Str):D->Option D|.str y=>(Builtin.Str.occurrences x y 0 x.length 1).head?.map fun i=>.int (i:Nat)|_=>none
def znH:MtS X cl "str.index" zjt:=by
 intro pins s σ H x vs v us Q I rx rv h;obtain⟨y,w,d,v',r,rfl,rfl,rfl,sh,hg,q⟩:=h;obtain⟨t,rfl⟩:=rx;obtain⟨u,rfl,ru⟩:=rv.one
 cases d with
 |str z=>
  cases sh;obtain⟨t',rfl⟩:=ru;obtain⟨i,hi,rfl⟩:=yaD.mp hg;obtain⟨l,hl⟩:=List.head?_eq_some_iff.mp hi;exact call_gives PySem.F.slot_str_index (ybM _ _ _) PySem.F.entry_str_index (PySem.F.args_str_index_2 _ _) (gives_str_index _ _ _ _ i l hl) ⟨.int _,w.H,I.tok _,⟨_,rfl⟩,q _ w (Grow.refl _) (.int _)⟩
 |_=>cases hg
noncomputable def zeU:List D->Option (List Str)
 |[]=>some []|.str x::l=>(zeU l).map (x::·)|_::_=>none
theorem zgY{w:Wd}:∀{xs:List V}{ds:List D}{ts:List Str}{its:List Value},Shds cl w xs ds->zeU ds=some ts->Vals xs its->∃l:List (Str×Tok),its=strValues l/\l.map (·.1)=ts
 |_,_,ts,its,.nil,h,r=>by cases h;cases r;exact⟨[],rfl,rfl⟩
 |_,_,ts,its,.cons (d:=d) s t,h,r=>by
  cases d with
  |str x=>
   cases s;obtain⟨ts',h1,rfl⟩:=yaD.mp h
   cases r with
   |cons r1 r2=>
    obtain⟨tk,rfl⟩:=r1;obtain⟨l,rfl,rfl⟩:=zgY t h1 r2;exact⟨(x,tk)::l,rfl,rfl⟩
  |_=>cases h
theorem zgS:∀(l:List (Str×Tok)),Vals ((l.map (·.1)).map V.str) (strValues l)
 |[]=>.nil|p::l=>.cons ⟨_,rfl⟩ (zgS l)
def zfG(x:Str):D->Option D|.lst l=>(zeU l).bind fun ts=>if JoinOk x ts then some (.str (Txt.join x ts))else none|_=>none
def zqA:MtS X cl "str.join" zfG:=by
 intro pins s σ H x vs v us Q I rx rv h;obtain⟨y,w,d,v',r,rfl,rfl,rfl,sh,hg,q⟩:=h;obtain⟨t,rfl⟩:=rx;obtain⟨u,rfl,ru⟩:=rv.one
 cases d with
 |lst z=>
  cases sh with
  |lst e k rs=>
   cases ru
   cases ht:zeU z with
   |none=>unfold zfG at hg;dsimp only at hg;rw[ht]at hg;cases hg|some ts=>
    unfold zfG at hg;dsimp only at hg;rw[ht]at hg;dsimp only[Option.bind]at hg;split at hg
    ·rename_i hj;cases hg;obtain⟨its,r,p,_⟩:=I.list (SqL.of (K:=X.K) e);obtain⟨l,rfl,rfl⟩:=zgY rs ht r;refine ybN PySem.F.slot_str_join (ybM _ _ _) PySem.F.entry_str_join (PySem.F.args_str_join_2 _ _) (meets_str_join_list y t _ l ?_) ⟨p.isList,post_join l ⟨joinOk_length hj,fun t' k=>⟨.str _,w.H,I.tok _,⟨_,rfl⟩,q _ w (Grow.refl _) (.str _)⟩⟩⟩;unfold JoinOk at hj;rwa[yaG]at hj
    ·cases hg
 |_=>cases hg
noncomputable def zdV(x:Str):D->Option D|.str y=>if !(y.length==0)&&zaD x.length then some (.lst ((Txt.split x y).map D.str))else none|_=>none
def znG:MtS X cl "str.split" zdV:=by
 intro pins s σ H x vs v us Q I rx rv h;obtain⟨y,w,d,v',r,rfl,rfl,rfl,sh,hg,q⟩:=h;obtain⟨t,rfl⟩:=rx;obtain⟨u,rfl,ru⟩:=rv.one
 cases d with
 |str z=>
  cases sh;obtain⟨t',rfl⟩:=ru;unfold zdV at hg;dsimp only at hg;split at hg
  ·rename_i hz;cases hg;rw[yaa,yaG]at hz;have hs:y.length+2<=sizeLine:=yas (Nat.add_le_add_right (yaj hz.2) 2) (by decide)
   have hn:(Builtin.Str.partsBetween y (Builtin.Str.occurrences y z 0 y.length (y.length+1)) z.length).length<=sizeLine:=by
    have e1:=StrLaws.occ_length_le y z 0 y.length (y.length+1);rw[length_partsBetween];omega
   have fin:∀(l:List (Str×Tok)) (k:Nat),l.map (·.1)=Txt.split y z->l.length<=sizeLine->EP X pins σ Q (.ref s.heap.objs.size) {s with heap:=s.heap.push {cls:=.type "list",data:=.seq (strValues l).toArray},toks:=k}:=fun l k e hl=>by
    have hf:=I.hok.fresh (a:=s.heap.objs.size) (yal _);refine⟨.ref s.heap.objs.size,_,I.laid (t':=k) (o:=.lst ((l.map (·.1)).map V.str)) (fun b ob q=>yaf _ q) (yal _) ?_,rfl,q _ (w.add _ _) (zaB hf _) ?_⟩
    ·exact⟨by rw[yab,yab];exact hl,_,0,zgS l,yar _ rfl⟩
    ·rw[<-e];exact Shd.newL hf zdY
   cases h1:(decide (y.length<z.length)||decide (Builtin.Str.strKind y<Builtin.Str.strKind z))
   ·cases hf:(Builtin.Str.occurrences y z 0 y.length (y.length+1)).isEmpty
    ·refine ybN ybB (ybM _ _ _) yck (yb7 _ _) (meets_str_split_sep y z t t' h1 hz.1 hf (by omega) hn) ?_;show wants _ _ _ {s with toks:=_,heap:=s.heap.push {cls:=.type "list",data:=.seq (strsFrom s.toks (Builtin.Str.partsBetween y (Builtin.Str.occurrences y z 0 y.length (y.length+1)) z.length)).toArray}};rw[strsFrom_eq];refine fin (numbered s.toks _) _ ((numbered_texts _ _).trans ((if_neg (ycO h1)).trans (if_neg (ycO hf))).symm) ?_;have:=congrArg List.length (numbered_texts s.toks (Builtin.Str.partsBetween y (Builtin.Str.occurrences y z 0 y.length (y.length+1)) z.length));rw[yab]at this;rw[this];exact hn
    ·exact ybN ybB (ybM _ _ _) yck (yb7 _ _) (meets_str_split_not_found y z t t' h1 hz.1 hf)
      (fin [(y,t)] s.toks ((if_neg (ycO h1)).trans (if_pos hf)).symm (show 1<=sizeLine by decide))
   ·exact ybN ybB (ybM _ _ _) yck (yb7 _ _) (meets_str_split_cannot_occur y z t t' h1)
     (fin [(y,t)] s.toks (if_pos h1).symm (show 1<=sizeLine by decide))
  ·cases hg
 |_=>cases hg
noncomputable def zos:List D->Option D|[.int i]=>if decide (-1000<=i/\i<=1000)then some (.str (toString i))else none|_=>none
def ztT:zki X cl (.type "str") zos:=by
 intro pins s σ H xs us Q I r h;obtain⟨w,ds,d,rfl,hx,hg,q⟩:=h;unfold zos at hg;split at hg
 ·rename_i i;split at hg
  ·rename_i hz;cases hg;have hz:=yaj hz
   cases hx with
   |cons h1 h2=>
    cases h2;obtain rfl:=h1.intI;refine zhM pins s σ w.H _ us Q I r ⟨i,rfl,?_,q _ w (Grow.refl _) (.str _)⟩;have:=Nat.log2_le_self i.natAbs;omega
  ·cases hg
 ·cases hg
def zeH(fo f f2:Fe):Fe:=fun ρ S=>(fo ρ S).bind fun d S1=>match d with
 |.dic ds=>if zac ds then(f ρ S1).bind fun k S2=>(f2 ρ S2).bind fun z S3=>match k with|.str x=>.ok ((zab x ds).getD z) S3|_=>.bad else .bad
 |_=>.bad
def zm1{ap cp:Pos}(hu:X.A.units+1<cLine)(ho:PE X o (tE cl E fo))(he:PE X e (tE cl E f))(hf:PE X e2 (tE cl E f2))(h1:zbx e=true)(h2:zbx e2=true)(hb:attributeBase o "get" X.env (eval o X.env)=eval o X.env)(hln:(ap.endLine==cp.line)=true):
  PE X (.Call (.Attribute o "get" ap) [e,e2] [] cp) (tE cl E (zeH fo f f2)):=by
 refine PE.imp (zns hu ho he hf ⟨hb,zfX (by simp[h1,h2]) (by simp),hln,by rw[zbd h1,zbd h2];rfl⟩) ?_;rintro σ H Q ⟨B,w,ρ,S,rfl,R,q⟩;refine⟨B,w,ρ,S,rfl,R,?_⟩;unfold zeH at q
 cases hfo:fo ρ S with
 |bad=>rwa[hfo]at q|exc c S1=>rwa[hfo]at q|ok d S1=>
  rw[hfo]at q;intro v w1 R1 F1 sh;dsimp only[Out.bind]at q
  cases d with
  |dic ds=>
   dsimp only at q
   by_cases hon:zac ds=true
   ·rw[if_pos hon]at q
    cases sh with
    |dicK ea ka ra=>
     refine⟨_,rfl,.inl ⟨_,.inr ⟨_,ea⟩⟩,B,w1,ρ,S1,rfl,R1,?_⟩
     cases h3:f ρ S1 with
     |bad=>rw[h3]at q;exact q.elim|exc c S2=>rw[h3]at q;exact fun w' R' F'=>q w' R' (F1.trans F')|ok k S2=>
      rw[h3]at q;intro y w2 R2 F2 sy;dsimp only[Out.bind]at q;refine⟨B,w2,ρ,S2,rfl,R2,?_⟩
      cases h4:f2 ρ S2 with
      |bad=>rw[h4]at q;exact q.elim|exc c S3=>rw[h4]at q;exact fun w' R' F'=>q w' R' (F1.trans (F2.trans F'))|ok z S3=>
       rw[h4]at q;intro zv w3 R3 F3 sz;dsimp only[Out.bind]at q
       cases k with
       |str x=>
        cases sy;dsimp only at q;have F13:=F2.trans F3;have e3:=(F13.keep _ _ ea ka).1
        rcases zch x (ra.up F13) hon with⟨g1,g2⟩|⟨v',d',g1,g2,g3⟩
        ·rw[g2]at q;exact⟨none,.inl ⟨_,.inr x,.inr ⟨_,e3⟩,rfl,g1.symm⟩,q zv w3 R3 (F1.trans F13) sz⟩
        ·rw[g2]at q;exact⟨some v',.inl ⟨_,.inr x,.inr ⟨_,e3⟩,rfl,g1.symm⟩,q v' w3 R3 (F1.trans F13) g3⟩
       |_=>exact q.elim
   ·rw[if_neg hon]at q;exact q.elim
  |_=>exact q.elim
def zj8(k:Str)(f:Fe):Fe:=fun ρ S=>(f ρ S).bind fun d S1=>.ok (.dic [(.str k,d)]) S1
def zpV{k:Str}{ke e:Expr}{fe:Fe}{pos:Pos}(hk:PE X ke (tC (.str k)))(he:PE X e (tE cl E fe)):PE X (.Dict [some ke] [e] pos) (tN cl E (zj8 k fe)):=by
 refine PE.imp (zqn (znk hk he zqe) rfl rfl (by simp) (by show 1<=15;decide)) ?_;rintro σ H Q ⟨B,w,ρ,S,rfl,R,q⟩;intro pd hpd;have Rh:=R.hold (o:=.dK []) hpd;have fa:=zbP (w:=w) (p:=pd) (o:=.dK []) (r:=.far) hpd
 have hB:B.Fr pd=none:=by
  cases z:B.Fr pd with
  |none=>rfl|some x=>have:=(R.wd.fr pd x z).1;rw[hpd]at this;cases this
 unfold zj8 at q;refine⟨B.hold pd (.dK []),w.addAs pd (.dK []) .far,ρ,S,rfl,Rh,?_⟩
 cases hf:fe ρ S with
 |bad=>rwa[hf]at q|exc c S1=>rw[hf]at q;exact fun w' R' F'=>q w' (R'.unhold hB) (fa.trans F')|ok d S1=>
  rw[hf]at q;dsimp only[Out.bind]at q;intro v w2 R2 F2 sh2;have hpp:=R2.wd.fr pd (.dK []) (show(if pd=pd then some (HO.dK [])else B.Fr pd)=some (.dK [])from if_pos rfl);have how:w2.ow pd=some .far:=hpp.2.trans (show(B.hold pd (.dK [])).fw pd=some Root.far from if_pos rfl)
  have hfar:w2.ow pd≠none:=by rw[how];exact yaF _
  have fd:=zgz (w:=w2) (a:=pd) hfar;refine⟨hpp.1,[(.inr k,v)],rfl,(by show 1<=15;decide),?_⟩
  have eu:upd w2.H pd (.dK (zfP [] [((.inr k:Key),v)]))=upd (w2.del pd).H pd (.dK [(.inr k,v)]):=by
   funext b;unfold upd
   by_cases hb':b=pd
   ·rw[if_pos hb',if_pos hb'];rfl
   ·rw[if_neg hb',if_neg hb'];show _=(if b=pd then none else w2.H b);rw[if_neg hb']
  rw[eu];exact q pd _ (w2.del pd) ((R2.unhold hB).del how hB) (fa.trans (F2.trans fd)) (if_pos rfl) (.dicK (.consS (sh2.up fd) .nil))
end
section
variable{X:Cx}{cl:Cf}
noncomputable def zlq(x:Str):D->Option D|.str y=>if !(y.length==0)&&zaD x.length then some (.tup [.str (Txt.partition x y).1,.str (Txt.partition x y).2.1,.str (Txt.partition x y).2.2])else none|_=>none
def zqz:MtS X cl "str.partition" zlq:=by
 intro pins s σ H x vs v us Q I rx rv h;obtain⟨y,w,d,v',r,rfl,rfl,rfl,sh,hg,q⟩:=h;obtain⟨t,rfl⟩:=rx;obtain⟨u,rfl,ru⟩:=rv.one
 cases d with
 |str z=>
  cases sh;obtain⟨t',rfl⟩:=ru;unfold zlq at hg;dsimp only at hg;split at hg
  ·rename_i hz;cases hg;rw[yaa,yaG]at hz;have hs:y.length<=sizeLine:=yas (yaj hz.2) (by decide);have hf:=I.hok.fresh (a:=s.heap.objs.size) (yal _)
   have fin:∀(a b c:Str) (ta tb tc:Tok) (k:Nat),(a,b,c)=Txt.partition y z->EP X pins σ Q (.ref s.heap.objs.size) {s with heap:=s.heap.push {cls:=.type "tuple",data:=.seq [.str a ta,.str b tb,.str c tc].toArray},toks:=k}:=fun a b c ta tb tc k e=>by
    refine⟨.ref s.heap.objs.size,_,I.laid (t':=k) (o:=.tup [.str a,.str b,.str c]) (fun b ob q=>yaf _ q) (yal _) ?_,rfl,q _ (w.add _ _) (zaB hf _) ?_⟩
    ·exact⟨(by decide:(3:Nat)<=sizeLine),_,.cons ⟨_,rfl⟩ (.cons ⟨_,rfl⟩ (.cons ⟨_,rfl⟩ .nil)),zpe.new _ _⟩
    ·rw[<-e];exact Shd.newT hf (.cons (.str _) (.cons (.str _) (.cons (.str _) .nil)))
   refine ybN PySem.F.slot_str_partition (ybM _ _ _) PySem.F.entry_str_partition (PySem.F.args_str_partition_2 _ _) (meets_str_partition y z t t' hz.1 hs) ?_;unfold Txt.partition at fin
   revert fin
   cases Builtin.Str.occurrences y z 0 y.length 1 with
   |nil=>intro fin;exact fin _ _ _ _ _ _ _ rfl|cons i r=>intro fin;exact fin _ _ _ _ _ _ _ rfl
  ·cases hg
 |_=>cases hg
end
end S2
namespace L2
open PySem PySem.Spec PyProof.Rows
end L2
namespace S2
open PySem PySem.Spec PyProof.Rows L2
def zj6(cn f:Str)(i:Nat):Fe:=fun ρ S=>match dicI cn f ρ S i with
 |some (_,_,ds)=>if ds.length<64 then .ok (.lst ((zaC (zau ds)).map D.str)) S else .bad
 |none=>.bad
section
variable{X:Cx}{cl:Cf}{E:St->XK}{pos apos cp p:Pos}{f cn:Str}{i:Nat}{x:Str}
theorem zkV{q1:Pos}(hN:X.N[i]?=some x)(hv:Vis X.env.scope x)(hd:(x==("__debug__":Str))=false)(hcd:(x==("__classdict__":Str))=false)(hc:X.calm=true)(sm:Same' cl X)(hk:zga cl cn f)(hb:attributeBase (.Name x p) f X.env (eval (.Name x p) X.env)=eval (.Name x p) X.env)(hg:Gl X "sorted")(hm:X.mg "sorted"=none):
  PE X (.Call (.Name "sorted" q1) [.Attribute (.Name x p) f apos] [] cp) (tN cl E (zj6 cn f i)):=by
 refine PE.imp (zcP (zdH hc) hg hm (by decide +kernel) (zba (zcr (za0 hN hv hd hcd) hb) zcg)) ?_;rintro σ H Q ⟨B,w,ρ,S,rfl,R,q⟩;unfold zj6 at q
 cases hl:dicI cn f ρ S i with
 |none=>rw[hl]at q;exact q.elim|some u=>
  obtain⟨n,ob,ds⟩:=u;rw[hl]at q;dsimp only at q
  by_cases hz:ds.length<64
  ·rw[if_pos hz]at q;obtain⟨a,dx,fs,c,kvs,ev,hS,hmu,how,hH,hF,c1,c2,lv,oc,hc',t,ho⟩:=zgF hk R hl;obtain⟨k1,k2⟩:=zeQ t ho;rw[sm.kk];exact⟨_,ev,a,_,dx,fs,_,rfl,hH,c1,c2,lv,c,kvs,zau ds,rfl,.inl hc',k1,by rw[k2];exact hz,fun pn hpn=>q pn _ w R (Fut.refl _) hpn (.lst zdY)⟩
  ·rw[if_neg hz]at q;exact q.elim
end
def zfp(g:Str->Str->Option Bool):Fs:=
 zak (zcc 1 true (zj7 [eUn (zkp g "NoFill") (zai 0),eUn (zkp g "NoName") (zai 0),eUn (zkp g "NoPlace") (zai 0),eUn (zkp g "NoText") (zai 0)]))
 (zak (zcc 1 false (zaj zbD (zai 1) (zj7 [eUn (zkp g "NoTile") (zai 0),eUn (zkp g "Nothing") (zai 0),eUn (zkp g "Unlike") (zai 0)])))
 (zak (sIf (eOr (zaj neD (eMt zf3 1 (zad (.bl true))) (zad (.int 1))) (eUn zcl (eUn (zkp g "ValueError") (zai 0)))) (zak (za6 (zad (.str "wrong"))) sNx) sNx)
 (zak (za6 (zaj ixD (zj7 [zad (.str "no fill"),zad (.str "no name"),zad (.str "no place"),zad (.str "no text"),zad (.str "no tile"),zad (.str "nothing"),zad (.str "unlike")]) (eMt zfV 1 (zad (.bl true))))) sNx)))
def zmL(g:Str->Str->Option Bool)(c:Str)(S:Sto):Out D:=match zfp g [some (false,.exc c),none] S with|.rt d S'=>.ok d S'|_=>.bad
noncomputable def zhL(ρ:Env):List Nat->Option (List D)
 |[]=>some []|i::is=>match ρ[i]? with|some (some (false,d))=>(zhL ρ is).map (d::·)|_=>none
def zdR(und:Str->Str->Bool)(isx:Str->Str->Option Bool)(caps:List Nat)(fb:Fe):Fe:=fun ρ S=>match zhL ρ caps with
 |none=>.bad|some ds=>match fb (ds.map fun d=>some (false,d)) S with
  |.ok d S'=>.ok d S'|.exc c S'=>if und c "FloorError"then zmL isx c S' else .bad
  |.bad=>.bad
structure CapsOk(X:Cx)(N:List Str)(caps:List Nat):Prop where
 len:caps.length=N.length
 at':∀(j:Nat) (x:Str) (i:Nat),N[j]?=some x->caps[j]?=some i->X.N[i]?=some x/\X.env.scope.names.lookup x=some .cell/\X.fn x=true
noncomputable def zua(cl:Cf)(und:Str->Str->Bool)(isx:Str->Str->Option Bool)(P:Program)(wo:PySem.World)(K:PySem.W.Frag)(mg:Z6)(base:Heap)(k:Nat)(cod:Option (Addr×Str))(e:Expr)(N:List Str)(fb:Fe):Prop:=
 ∀(X:Cx) (E:St->XK) (caps:List Nat) (p pos:Pos),X.prog=P->X.w=wo->X.K=K->X.mg=mg->X.base=base->Room k X.A->X.calm=true->Gl X "_law_told" -> (∀c,cod=some c->X.env.code=.ref c.1/\X.env.qual=c.2)->CapsOk X N caps →
  PE X (.Call (.Name "_law_told" p) [e] [] pos) (tE cl E (zdR und isx caps fb))
theorem zjB{cl:Cf}{B:Base}{σ:St}{w:Wd}{ρ:Env}{S:Sto}(R:Rel cl B σ w ρ S):∀{caps:List Nat}{ds:List D},zhL ρ caps=some ds->∃vs,vs.length=caps.length/\(∀(j i:Nat) (v:V),caps[j]?=some i->vs[j]?=some v->σ[i]?=some (some v))/\Shds cl w vs ds
 |[],ds,h=>by cases h;exact⟨[],rfl,fun j i v h=>by simp at h,.nil⟩
 |i::is,ds,h=>by
  unfold zhL at h;split at h
  ·rename_i d hd
   cases h1:zhL ρ is with
   |none=>rw[h1]at h;cases h|some ds'=>
    rw[h1]at h;cases h;obtain⟨vs,l,e,sh⟩:=zjB R h1;obtain⟨v,e1,x⟩:=R.slots i false d hd;refine⟨v::vs,by rw[yae,yae,l],fun j i' v' h1 h2=>?_,.cons x sh⟩
    cases j with
    |zero=>cases h1;cases h2;exact e1|succ j=>exact e j i' v' h1 h2
  ·cases h
def Rel.tabUp{cl:Cf}{B:Base}{σ:St}{w:Wd}{ρ:Env}{S:Sto}{P:Addr}{ps ps':Array Value}(R:Rel cl B σ w ρ S)(h1:w.H P=some (.tbl ps))(h2:w.ow P=some .tab)(h3:∀q,cl.tabs P=some q->zmF w q ps'):
  Rel cl B σ (w.mut P (.tbl ps')) ρ S/\Fut w (w.mut P (.tbl ps')):=by
 have ff:=zen (w:=w) (p:=P) (o:=.tbl ps') (by rw[h2];exact yaF _)
 have kp:∀a u,w.H a=some u->w.ow a≠some .tab->(w.mut P (.tbl ps')).H a=some u/\(w.mut P (.tbl ps')).ow a=w.ow a:=fun a u ha hn=>⟨by
  show upd w.H P _ a=_
  rw[zaf (fun z=>hn (by rw[z];exact h2))];exact ha,rfl⟩
 have hB:B.Fr P=none:=(R.wd.own P _ h2).elim (fun z=>by cases z) fun z=>z
 refine⟨⟨⟨fun a u h=>?_,R.wd.own,R.wd.len,fun n ob h=>?_,fun P' q h=>?_⟩,R.len,fun i o d h=>?_⟩,ff⟩
 ·refine⟨?_,(R.wd.fr a u h).2⟩;show upd w.H P _ a=_;rw[zaf (fun z=>by rw[z,hB]at h;cases h)];exact(R.wd.fr a u h).1
 ·obtain⟨a,e,x⟩:=R.wd.obj n ob h;exact⟨a,e,x.keep ff fun b u hb hn=>kp b u hb fun z=>by rwa[z]at hn⟩
 ·by_cases hP:P'=P
  ·subst hP;exact⟨ps',zaq,h2,(h3 q h).up ff⟩
  ·obtain⟨qs,g1,g2,g3⟩:=R.wd.tab P' q h;refine⟨qs,?_,g2,g3.up ff⟩;show upd w.H P _ P'=_;rw[zaf hP];exact g1
 ·obtain⟨v,e1,x⟩:=R.slots i o d h;refine⟨v,e1,x.keep ff fun a u ha hr=>?_⟩;have:=kp a u ha (by rw[hr];simp);exact⟨this.1,this.2.trans hr⟩
structure FnI where
 ar:Nat
 own:Bool
 run:List D->Sto->Out D
structure ObE where
 cur:Str
 fk:Str->Str->Bool
 df:Str->Bool
 mt:Str->Option (Str×FnI)
 mks:Str->Option (List D×FnI)
structure Genv where
 con:Str->Option D
 fn:Str->Option FnI
 blt:Str->Bool
 exc:Str->Bool
 und:Str->Str->Bool
 isx:Str->Str->Option Bool
 ob:ObE
 ds:Str->Bool
 lam:Expr->Option (List Str×Fe)
 cod:Option (Addr×Str)
abbrev bmV:List Value:=[.type "ValueError",.type "Exception",.type "BaseException",.type "object"]
structure GOk(cl:Cf)(G:Genv)(P:Program)(wo:PySem.World)(K:PySem.W.Frag)(mg:Z6)(base:Heap)(k:Nat):Prop where
 con:∀x d,G.con x=some d->∃v u,mg x=some u/\zaV v u/\∀w,Shd cl w v d
 fn:∀x fi,G.fn x=some fi->∃f fd ps,mg x=some (.ref f)/\PySem.W.keepIn K (.ref f)=true/\zcZ K fd ps []/\FnOk P wo K mg base (CXE P wo) k f fd ps (zgP cl fi.ar fi.own fi.run)
 blt:∀x,G.blt x=true->mg x=none
 exc:∀c,G.exc c=true->mg c=some (.ref (cl c))/\PySem.W.excIn K (cl c) bmV "ValueError.__new__"=true
 und:∀c C,G.und c C=true->L2.zrk K (cl c) (cl C)
 isx:∀c C b,G.isx c C=some b->PySem.W.ExcCls K (cl c)/\PySem.W.kitOne K (.ref (cl c)) (clsV cl C)=some b
 fk:∀c f,G.ob.fk c f=true->zga cl c f
 mt:∀m c fi,G.ob.mt m=some (c,fi)->∃f fd ps,Cls K (cl c)/\Meth K (cl c) m f/\zcZ K fd ps []/\FnOk P wo K mg base (CXE P wo) k f fd ps (zgP cl fi.ar fi.own fi.run)
 mks:∀c dds fi,G.ob.mks c=some (dds,fi)->∃f fd ps dvs ds k',k'+1<=k/\mg c=some (.ref (cl c))/\Mk K (cl c) f/\zcZ K fd ps []/\zcZ K fd ps ds/\Vals dvs ds/\(∀w,Shds cl w dvs dds)/\FnOk P wo K mg base (CXE P wo) k' f fd ps (zgP cl fi.ar false fi.run)
 tl:∀e N fb,G.lam e=some (N,fb)->zua cl G.und G.isx P wo K mg base k G.cod e N fb
noncomputable abbrev Names:=List (Str×NameKind)
structure Gx(cl:Cf)(G:Genv)(k:Nat)(X:Cx)(nm:Names)(N:List Str)(E:St->XK):Prop where
 gok:GOk cl G X.prog X.w X.K X.mg X.base k
 room:Room k X.A
 calm:X.calm=true
 pass:zdm (CXE X.prog X.w) X E
 eN:X.N=N
 kk:X.K=cl.K
 pp:X.prog=cl.P
 ww:X.w=cl.wo
 nd:N.Nodup
 vis:∀x kd,nm.lookup x=some kd->∃kd',X.env.scope.names.lookup x=some kd'/\(kd'=kd\/(kd=.free/\kd'=.cell))
 fnx:∀x,nm.lookup x=some .local->X.env.scope.names.lookup x=some .local
 cod:∀c,G.cod=some c->X.env.code=.ref c.1/\X.env.qual=c.2
 fnc:∀x,nm.lookup x=some .cell->X.fn x=true
noncomputable def idx:List Str->Str->Option Nat
 |[],_=>none|y::l,x=>if y=x then some 0 else(idx l x).map (·+1)
theorem zfk:∀{N:List Str}{x:Str}{i:Nat},idx N x=some i->N[i]?=some x
 |y::l,x,i,h=>by
  unfold idx at h;split at h
  ·rename_i e;cases h;rw[e];rfl
  ·cases hr:idx l x with
   |none=>rw[hr]at h;cases h|some j=>rw[hr]at h;cases h;simpa using zfk hr
noncomputable def zje(x:Str):Bool:=!(x==("__debug__":Str))&&!(x==("__classdict__":Str))&&!decide (x="__name__")
def zhl(h:zje x=true):(x==("__debug__":Str))=false/\(x==("__classdict__":Str))=false/\x ≠ "__name__":=by
 unfold zje at h;simp only[yaa,yaG,ycl]at h;exact⟨h.1.1,h.1.2,h.2⟩
noncomputable def zvK:Option NameKind->Bool|some .local=>true|some .cell=>true|some .free=>true|_=>false
def ziZ(nm:Names)(N:List Str)(x:Str):Option Nat:=if zvK (nm.lookup x)&&zje x then idx N x else none
noncomputable def zbB(nm:Names)(x:Str):Bool:=decide (nm.lookup x=some .globalImplicit)&&zje x
section
variable{cl:Cf}{G:Genv}{k:Nat}{X:Cx}{nm:Names}{N:List Str}{E:St->XK}
def Gx.slot(g:Gx cl G k X nm N E)(h:ziZ nm N x=some i):X.N[i]?=some x/\Vis X.env.scope x/\(x==("__debug__":Str))=false/\(x==("__classdict__":Str))=false:=by
 unfold ziZ at h;split at h
 ·rename_i hv;rw[yaa]at hv;obtain⟨h1,h2,_⟩:=zhl hv.2;refine⟨by rw[g.eN];exact zfk h,?_,h1,h2⟩
  cases hk:nm.lookup x with
  |none=>rw[hk]at hv;exact absurd hv.1 (by decide)
  |some kd=>
   obtain⟨kd',e,z⟩:=g.vis x kd hk;rw[hk]at hv;unfold Vis;rw[e]
   rcases z with rfl|⟨_,rfl⟩
   ·cases kd'<;>first|exact .inl rfl|exact .inr (.inl rfl)|exact .inr (.inr rfl)|exact absurd hv.1 (by decide)
   ·exact .inr (.inl rfl)
 ·cases h
def Gx.glob(g:Gx cl G k X nm N E)(h:zbB nm x=true):Gl X x/\(x==("__debug__":Str))=false/\x ≠ "__name__":=by
 unfold zbB at h;rw[yaa]at h;obtain⟨h1,_,h3⟩:=zhl h.2;obtain⟨kd',e,z⟩:=g.vis x _ (yaj h.1)
 rcases z with rfl|⟨z,_⟩
 ·exact⟨e,h1,h3⟩
 ·cases z
end
noncomputable def okE:Expr->Bool|.Starred _ _=>false|.Set _ _ _=>false|_=>true
def zay(h:okE e=true):zbx e=true:=by cases e<;>first|rfl|cases h
def ze4(h:okE e=true):behindInMarks op e=false:=by cases e<;>first|rfl|cases h
def zgn(h:okE e=true)(v:Value):foldedSetIterable e env v=pure v:=by cases e<;>first|rfl|cases h
noncomputable def zcK:Expr->Bool|.IfExp _ _ _ _=>false|_=>true
def ltD:=ztS fun i j=>decide (i<j)
def leD:=zvx
def gtD:=ztS fun i j=>decide (j<i)
section
variable{cl:Cf}{G:Genv}{k:Nat}{X:Cx}{nm:Names}{N:List Str}{E:St->XK}
theorem Gx.units(g:Gx cl G k X nm N E):X.A.units+64<cLine:=g.room.units
def Gx.un(g:Gx cl G k X nm N E){n:Nat}(h:n<=64):X.A.units+n<cLine:=Nat.lt_of_le_of_lt (Nat.add_le_add_left h _) g.units
def Gx.same(g:Gx cl G k X nm N E):Same' cl X:=⟨g.kk,g.pp,g.ww⟩
def zzb(hp:args.all zbx=true)(hl:args.length<30):methodCallForm (args.length+0) (backTo pos (starEach args env)) (backToKw pos (keywordEach [] env))=true:=by
 have h:=zbN (pos:=pos) (env:=env) hp;unfold methodCallForm
 have h1:(backTo pos (starEach args env)).all (!·.1)=true:=by
  rw[List.all_eq_not_any_not];simpa using h
 rw[h1];show(true&&true&&decide (args.length+0+0<30))=true;rw[yaz (by omega)];rfl
def zly(hb:attributeBase o m env (eval o env)=eval o env)(hf:methodCallForm (args.length+0) (backTo pos (starEach args env)) (backToKw pos (keywordEach [] env))=true)(hp:(ap.endLine==pos.line)=true):
  eval (.Call (.Attribute o m ap) args [] pos) env=(do
   let ov ← eval o env
   standAt ap.atName
   let (f,first) ← holding [ov] (getMethod ov m (do return (← importBound o env).getD true))
   callWith pos f first (backTo pos (starEach args env)) (backToKw pos (keywordEach [] env))):=by
 show(do
  let ov ← attributeBase o m env (eval o env)
  standAt ap.atName
  methodCall o m ap pos env ov (args.length+0) (backTo pos (starEach args env)) (backToKw pos (keywordEach [] env)))=_
 rw[hb]
 have e:∀ov,methodCall o m ap pos env ov (args.length+0) (backTo pos (starEach args env)) (backToKw pos (keywordEach [] env))=(do
   let (f,first) ← holding [ov] (getMethod ov m (do return (← importBound o env).getD true))
   callWith pos f first (backTo pos (starEach args env)) (backToKw pos (keywordEach [] env))):=fun ov=>by
  unfold methodCall calleeOf methodCallPos;rw[hf,hp];rfl
 simp only[e]
end
theorem zog:bootBuiltins "all"=some (.builtin "all"):=by decide +kernel
theorem zf8:bootBuiltins "tuple"=some (.type "tuple"):=by decide +kernel
theorem zof:bootBuiltins "int"=some (.type "int"):=by decide +kernel
theorem zmz:bootBuiltins "bool"=some (.type "bool"):=by decide +kernel
theorem zjC:bootBuiltins "str"=some (.type "str"):=by decide +kernel
noncomputable def gd{α:Type}:(b:Bool)->(b=true->Option α)->Option α|true,k=>k rfl|false,_=>none
structure Dn(G:Genv)(nm:Names)(N:List Str)(e:Expr)where
 o:Bool
 f:Fe
 q:okE e=true
 ok:∀{cl k X E},Gx cl G k X nm N E->(o=true->PE X e (tN cl E f))/\PE X e (tE cl E f)/\(zcK e=true->PT X e (tTr cl E f))
noncomputable abbrev Rec(G:Genv):=∀nm N e,Option (Dn G nm N e)
structure Do(G:Genv)(nm:Names)(N:List Str)(e:Expr)where
 f:Fe
 q:okE e=true
 ok:∀{cl k X E},Gx cl G k X nm N E->PE X e (tH cl E f)
structure DL(G:Genv)(nm:Names)(N:List Str)(es:List Expr)where
 fs:List Fe
 q:es.all zbx=true
 l:fs.length=es.length
 ok:∀{cl k X E},Gx cl G k X nm N E->PA X es (tAs cl E fs)
structure DH(G:Genv)(nm:Names)(N:List Str)(es:List Expr)where
 fs:List Fe
 q:es.all zbx=true
 ok:∀{cl k X E},Gx cl G k X nm N E->PA X es (tHs cl E fs)
structure Sl(G:Genv)(nm:Names)(N:List Str)(x:Str)where
 i:Nat
 ok:∀{cl k X E},Gx cl G k X nm N E->X.N[i]?=some x/\Vis X.env.scope x/\(x==("__debug__":Str))=false/\(x==("__classdict__":Str))=false
noncomputable def zs4(f:Str):Bool:=decide (f="done")||decide (f="undone")
noncomputable def zo6(f:Str):Bool:=decide (f="named")
structure FA(G:Genv)(nm:Names)(N:List Str)(e:Expr)where
 i:Nat
 f:Str
 ok:∀{cl k X E},Gx cl G k X nm N E->∃x p ap,e=.Attribute (.Name x p) f ap/\X.N[i]?=some x/\Vis X.env.scope x/\(x==("__debug__":Str))=false/\(x==("__classdict__":Str))=false/\zga cl G.ob.cur f
structure Dq(G:Genv)(nm:Names)(N:List Str)(e:Expr)where
 q:Fq
 pl:zbx e=true
 ok:∀{cl k X E},Gx cl G k X nm N E->PE X e (tQ cl q)
section
variable{G:Genv}(rc:Rec G){nm:Names}{N:List Str}{e:Expr}
noncomputable def zjG(f:Fe)(q:okE e=true)(hv:∀env whole,isTrue e env whole=(do let v ← whole;standAt e.pos;holding [v] (truthy v)))(p:∀{cl k X E},Gx cl G k X nm N E->PE X e (tE cl E f)):Option (Dn G nm N e):=some ⟨false,f,q,fun g=>⟨nofun,p g,fun _=>zg0 (p g) (hv _)⟩⟩
noncomputable def zul(f:Fe)(q:okE e=true)(hv:∀env whole,isTrue e env whole=(do let v ← whole;standAt e.pos;holding [v] (truthy v)))(p:∀{cl k X E},Gx cl G k X nm N E->PE X e (tN cl E f)):Option (Dn G nm N e):=some ⟨true,f,q,fun g=>⟨fun _=>p g,zez (p g),fun _=>zg0 (zez (p g)) (hv _)⟩⟩
def slO(G:Genv)(nm:Names)(N:List Str)(x:Str):Option (Sl G nm N x):=match h:ziZ nm N x with|some i=>some ⟨i,fun g=>g.slot h⟩|none=>none
noncomputable def hld(a:Dn G nm N e):Do G nm N e:=⟨a.f,a.q,fun g=>zc4 (a.ok g).2.1⟩
def Sl.v{x:Str}{p:Pos}(s:Sl G nm N x){cl k X E}(g:Gx cl G k X nm N E):PE X (.Name x p) (tE cl E (zae s.i))/\PE X (.Name x p) (tH cl E (zai s.i))/\PE X (.Name x p) (tQ cl (zbI s.i)):=by
 obtain⟨s1,s2,s3,s4⟩:=s.ok g;exact⟨zr2 s1 s2 s3 s4,zkY s1 s2 s3 s4,zsg s1 s2 s3 s4⟩
def opE(nm:Names)(N:List Str):∀e,Option (Do G nm N e)
 |.Name x p=>(match slO G nm N x with|some s=>some ⟨zai s.i,rfl,fun g=>(s.v g).2.1⟩|none=>(rc nm N (.Name x p)).map hld)
 |e=>(rc nm N e).map hld
def shL(nm:Names)(N:List Str):∀es,Option (DL G nm N es)
 |[]=>some ⟨[],rfl,rfl,fun _=>zeB⟩|e::es=>(rc nm N e).bind fun a=>(shL nm N es).map fun b=>⟨a.f::b.fs,by rw[ya3,zay a.q,b.q];rfl,by rw[yae,yae,b.l],fun g=>zaR (a.ok g).2.1 (b.ok g) (zbd (zay a.q))⟩
def opL(nm:Names)(N:List Str):∀es,Option (DH G nm N es)
 |[]=>some ⟨[],rfl,fun _=>zow⟩|e::es=>(opE rc nm N e).bind fun a=>(opL nm N es).map fun b=>⟨a.f::b.fs,by rw[ya3,zay a.q,b.q];rfl,fun g=>zkQ (a.ok g) (b.ok g) (zbd (zay a.q))⟩
def faG(G:Genv)(nm:Names)(N:List Str):∀e,Option (FA G nm N e)
 |.Attribute (.Name x p) f ap=>gd (G.ob.fk G.ob.cur f) fun hf=>(slO G nm N x).map fun s=>⟨s.i,f,fun g=>⟨x,p,ap,rfl,(s.ok g).1,(s.ok g).2.1,(s.ok g).2.2.1,(s.ok g).2.2.2,g.gok.fk _ _ hf⟩⟩|_=>none
noncomputable def quG(G:Genv)(nm:Names)(N:List Str):∀e,Option (Dq G nm N e)
 |.Name x _=>(slO G nm N x).map fun s=>⟨zbI s.i,rfl,fun g=>(s.v g).2.2⟩|.Call (.Attribute o m ap) [.Name y _] [] cp=>gd (decide (m="get")&&(ap.endLine==cp.line)) fun hc=>(faG G nm N o).bind fun a=>gd (zo6 a.f) fun _=>(slO G nm N y).map fun s=>⟨zhg G.ob.cur a.f a.i (zbI s.i),rfl,fun g=>by
  rw[yaa]at hc;obtain rfl:=yaj hc.1;obtain⟨i,f,ok⟩:=a;obtain⟨x,p,ap',rfl,s1,s2,s3,s4,fk⟩:=ok g
  exact zp4 s1 s2 s3 s4 g.same fk rfl (g.un (by decide)) (s.v g).2.2 ⟨rfl,rfl,hc.2,rfl⟩⟩
 |_=>none
structure DQ(G:Genv)(nm:Names)(N:List Str)(es:List Expr)where
 gs:List Fq
 ok:∀{cl k X E},Gx cl G k X nm N E->PA X es (tQs cl gs)
def quL(G:Genv)(nm:Names)(N:List Str):∀es,Option (DQ G nm N es)
 |[]=>some ⟨[],fun _=>zsf⟩|e::es=>(quG G nm N e).bind fun a=>(quL G nm N es).map fun b=>⟨a.q::b.gs,fun g=>zp2 (a.ok g) (b.ok g) (zbd a.pl)⟩
def zzf:∀op,Option {gg // ∀{cl X},OpD X cl (binaryOp op) gg}
 |.Add=>some ⟨zbD,zoP⟩|.Mult=>some ⟨zji,zsK⟩|.Mod=>some ⟨zoS,zsL⟩|.FloorDiv=>some ⟨ztJ,zsO⟩|_=>none
noncomputable def zqU:Expr->Bool|.Constant .none _ _=>true|_=>false
def zv2(b:Expr):∀op,Option {gg // ∀{cl G k X nm N E},Gx cl G k X nm N E->OpD X cl (compareOp op) gg}
 |.Eq=>some ⟨eqD,fun g=>zvo g.kk g.units⟩|.NotEq=>some ⟨neD,fun g=>zsJ g.kk g.units⟩|.Lt=>some ⟨ltD,fun _=>zif zvj⟩|.LtE=>some ⟨leD,fun _=>zsM⟩|.Gt=>some ⟨gtD,fun _=>zif zvl⟩
 |.In=>some ⟨inD,fun g=>zvn g.kk g.units⟩|.NotIn=>some ⟨zmK,fun g=>zsI g.kk g.units⟩
 |.Is=>gd (zqU b) fun _=>some ⟨zj2,fun _=>zsN⟩|_=>none
structure DB(G:Genv)(nm:Names)(N:List Str)(op:BoolOp)(es:List Expr)where
 f:Fe
 ok:∀{cl k X E p},Gx cl G k X nm N E->PE X (.BoolOp op es p) (tE cl E f)/\PW X (.BoolOp op es p) (tTr cl E f)
noncomputable def boE:BoolOp->Fe->Fe->Fe|.And=>zgQ|.Or=>eOr
noncomputable def ztZ(nm:Names)(N:List Str)(op:BoolOp):∀es,Option (DB G nm N op es)
 |[]=>none|[a]=>gd (zcK a) fun ht=>(rc nm N a).map fun fa=>⟨fa.f,fun g=>⟨zst (fa.ok g).2.1,by
   cases op with
   |And=>exact zp6 ((fa.ok g).2.2 ht)|Or=>exact zoD ((fa.ok g).2.2 ht)⟩⟩
 |a::b::r=>gd (zcK a) fun ht=>(rc nm N a).bind fun fa=>(ztZ nm N op (b::r)).map fun fb=>⟨boE op fa.f fb.f,fun g=>by
   have h1:=fa.ok g;have h2:=fun p=>fb.ok (p:=p) g
   cases op with
   |And=>exact⟨zr9 h1.2.1 (h2 _).1,zrM (h1.2.2 ht) (h2 _).2⟩|Or=>exact⟨zu3 h1.2.1 (h2 _).1,zrL (h1.2.2 ht) (h2 _).2⟩⟩
noncomputable def zv1(nm:Names)(N:List Str)(a:Expr)(p:Pos):∀ops bs,Option (Dn G nm N (.Compare a ops bs p))
 |[op],[b]=>(zv2 b op).bind fun gg=>(opE rc nm N a).bind fun fa=>(opE rc nm N b).map fun fb=>⟨false,zaj gg.1 fa.f fb.f,rfl,fun g=>⟨nofun,zr8 (gg.2 g) (fa.ok g) (fb.ok g) (ze4 fb.q),fun _=>zou (gg.2 g) (fa.ok g) (fb.ok g) (ze4 fb.q)⟩⟩|[op,op'],[b,c]=>(zv2 b op).bind fun gg=>(zv2 c op').bind fun gg'=>(opE rc nm N a).bind fun fa=>(opE rc nm N b).bind fun fb=>(opE rc nm N c).map fun fc=>⟨false,zdl gg.1 gg'.1 fa.f fb.f fc.f,rfl,fun g=>
   have hm:lastMarks [op,op'] [b,c]=false:=ze4 fc.q
   ⟨nofun,zm2 (gg.2 g) (gg'.2 g) (fa.ok g) (fb.ok g) (fc.ok g) hm,fun _=>zmV (gg.2 g) (gg'.2 g) (fa.ok g) (fb.ok g) (fc.ok g) hm⟩⟩
 |_,_=>none
def inF(nm:Names)(N:List Str)(a:Expr)(p:Pos):∀ops bs,Option (Dn G nm N (.Compare a ops bs p)):=match a with
 |.Name y py=>fun ops bs=>match ops,bs with
  |[op],[b]=>(faG G nm N b).bind fun t=>gd (zo6 t.f) fun _=>(slO G nm N y).bind fun s=>match op with
   |.In=>some ⟨false,eQ (zne G.ob.cur t.f t.i (zbI s.i)),rfl,fun g=>by
     obtain⟨i,f,ok⟩:=t;obtain⟨x,p,ap',rfl,s1,s2,s3,s4,fk⟩:=ok g
     exact⟨nofun,zu5 (zsi s1 s2 s3 s4 g.same fk rfl (g.un (by decide)) (s.v g).2.2 rfl),fun _=>zse s1 s2 s3 s4 g.same fk rfl (g.un (by decide)) (s.v g).2.2 rfl⟩⟩
   |.NotIn=>some ⟨false,eQ (zfE G.ob.cur t.f t.i (zbI s.i)),rfl,fun g=>by
     obtain⟨i,f,ok⟩:=t;obtain⟨x,p,ap',rfl,s1,s2,s3,s4,fk⟩:=ok g
     exact⟨nofun,zu5 (zp3 s1 s2 s3 s4 g.same fk rfl (g.un (by decide)) (s.v g).2.2 rfl),fun _=>zp1 s1 s2 s3 s4 g.same fk rfl (g.un (by decide)) (s.v g).2.2 rfl⟩⟩
   |_=>none
  |_,_=>none
 |_=>fun _ _=>none
structure BI(x:Str)where
 g:List D->Option D
 nw:Bool
 ok:∀{cl G k X nm N E},Gx cl G k X nm N E->∃v,bootBuiltins x=some v/\((∃id,v=.builtin id)\/∃T,v=.type T)/\(if nw then zon X cl v g else zki X cl v g)
def zt1(x:Str):Option (BI x):=
 if h:x="len"then some ⟨zc1,false,fun g=>⟨_,h ▸ PySem.boot_len,.inl ⟨_,rfl⟩,ztU g.kk⟩⟩
 else if h:x="all"then some ⟨zmM,false,fun g=>⟨_,h ▸ zog,.inl ⟨_,rfl⟩,ztV g.calm⟩⟩
 else if h:x="tuple"then some ⟨zcb,false,fun g=>⟨_,h ▸ zf8,.inr ⟨_,rfl⟩,zoc⟩⟩
 else if h:x="str"then some ⟨zos,false,fun g=>⟨_,h ▸ zjC,.inr ⟨_,rfl⟩,ztT⟩⟩
 else if h:x="dict"then some ⟨zit,true,fun g=>⟨.type "dict",by rw[h];decide +kernel,.inr ⟨_,rfl⟩,zrc g.calm⟩⟩
 else if h:x="sorted"then some ⟨zee,true,fun g=>⟨.builtin "sorted",by rw[h];decide +kernel,.inl ⟨_,rfl⟩,zmx g.calm⟩⟩
 else none
structure TI(x:Str)where
 T:String
 ok:bootBuiltins x=some (.type T)
noncomputable def zxW(x:Str):Option (TI x):=if h:x="int"then some ⟨"int",h ▸ zof⟩else if h:x="bool"then some ⟨"bool",h ▸ zmz⟩else if h:x="tuple"then some ⟨"tuple",h ▸ zf8⟩else if h:x="str"then some ⟨"str",h ▸ zjC⟩else none
theorem zt0{cl k X E}(bi:BI x)(g:Gx cl G k X nm N E)(hg:zbB nm x=true)(hb:G.blt x=true)(a:DH G nm N (e::es)):
  (bi.nw=true->PE X (.Call (.Name x p) (e::es) [] pos) (tN cl E (zaz bi.g a.fs)))/\PE X (.Call (.Name x p) (e::es) [] pos) (tE cl E (zaz bi.g a.fs)):=by
 obtain⟨g1,g2,g3⟩:=g.glob hg;have m:=g.gok.blt x hb;have hp:=a.q;rw[ya3,yaa]at hp;have st:=zbd (es:=es) (env:=X.env) hp.1;have pl:=zbN (pos:=pos) (env:=X.env) hp.2;obtain⟨v,hv,hk,hc⟩:=bi.ok g
 cases hn:bi.nw with
 |false=>
  rw[hn]at hc;have hc:zki X cl v bi.g:=hc;refine⟨nofun,?_⟩
  rcases hk with⟨id,rfl⟩|⟨T,rfl⟩
  ·exact PE.imp (zcP hc g1 m hv (a.ok g) g3 g2 st pl) fun _ _ _ q=>zrI (fun _ _ _ z=>z) q
  ·exact PE.imp (ze3 hc g1 m hv (a.ok g) g3 g2 st pl) fun _ _ _ q=>zrI (fun _ _ _ z=>z) q
 |true=>
  rw[hn]at hc;have hc:zon X cl v bi.g:=hc
  have n:PE X (.Call (.Name x p) (e::es) [] pos) (tN cl E (zaz bi.g a.fs)):=by
   rcases hk with⟨id,rfl⟩|⟨T,rfl⟩
   ·exact PE.imp (zcP hc g1 m hv (a.ok g) g3 g2 st pl) fun _ _ _ q=>zrH (fun _ _ _ z=>z) q
   ·exact PE.imp (ze3 hc g1 m hv (a.ok g) g3 g2 st pl) fun _ _ _ q=>zrH (fun _ _ _ z=>z) q
  exact⟨fun _=>n,zez n⟩
def zza{cl k X E}{x:Str}{args:List Expr}{p pos:Pos}{fi:FnI}(g:Gx cl G k X nm N E)(hg:zbB nm x=true)(hfi:G.fn x=some fi)(a:DL G nm N args)(hl:args.length=fi.ar):
  (fi.own=true->PE X (.Call (.Name x p) args [] pos) (tN cl E (eFn fi.run a.fs)))/\PE X (.Call (.Name x p) args [] pos) (tE cl E (eFn fi.run a.fs)):=by
 obtain⟨g1,g2,g3⟩:=g.glob hg;obtain⟨fa,fd,ps,m1,m2,m3,m4⟩:=g.gok.fn x fi hfi;have hlen:a.fs.length=fi.ar:=a.l.trans hl
 have main:PE X (.Call (.Name x p) args [] pos) (zgX (zgP cl fi.ar fi.own fi.run) [] E (tAs cl E a.fs)):=by
  cases args with
  |nil=>
   refine PE.imp (zln m4 g.room g1 m1 m2 m3 .nil g.pass g2) ?_;have:a.fs=[]:=ya0 a.l;rw[this];rintro σ H Q ⟨B,w,ρ,S,rfl,R,q⟩;exact q [] w R (Fut.refl _) .nil
  |cons e es=>
   have a2:=a.q;rw[ya3,yaa]at a2;exact znx m4 g.room g1 m1 m2 m3 .nil g.pass (a.ok g) g2 (zbd a2.1) (zbN a2.2)
 cases ho:fi.own with
 |false=>
  rw[ho]at main;exact⟨nofun,PE.imp main fun _ _ _ q=>ztY q hlen⟩
 |true=>
  rw[ho]at main;have n:PE X (.Call (.Name x p) args [] pos) (tN cl E (eFn fi.run a.fs)):=PE.imp main fun _ _ _ q=>ztX q hlen
  exact⟨fun _=>n,zez n⟩
noncomputable def zhO{args:List Expr}{x:Str}{p pos:Pos}(o:Bool)(f:Fe)(h:∀{cl k X E},Gx cl G k X nm N E->(o=true->PE X (.Call (.Name x p) args [] pos) (tN cl E f))/\PE X (.Call (.Name x p) args [] pos) (tE cl E f)):Option (Dn G nm N (.Call (.Name x p) args [] pos)):=some ⟨o,f,rfl,fun g=>⟨(h g).1,(h g).2,fun _=>zg0 (h g).2 fun _=>rfl⟩⟩
def zv4(nm:Names)(N:List Str)(x:Str)(p pos:Pos)(args:List Expr):Option (Dn G nm N (.Call (.Name x p) args [] pos)):=gd (zbB nm x) fun hg=>match hf:G.fn x with
 |some fi=>gd (decide (args.length=fi.ar)) fun hl=>(shL rc nm N args).bind fun a=>zhO fi.own (eFn fi.run a.fs) fun g=>zza g hg hf a (yaj hl)|none=>gd (G.blt x) fun hb=>match args with
  |[]=>none|e::es=>(zt1 x).bind fun bi=>(opL rc nm N (e::es)).bind fun a=>zhO bi.nw (zaz bi.g a.fs) fun g=>zt0 bi g hg hb a
noncomputable def zy1(nm:Names)(N:List Str)(x:Str)(p pos:Pos):∀args,Option (Dn G nm N (.Call (.Name x p) args [] pos))
 |[a,.Name t _]=>gd (decide (x="isinstance")&&(zbB nm x&&G.blt x&&zbB nm t&&G.blt t)) fun hc=>(zxW t).bind fun T=>(opE rc nm N a).bind fun fa=>zhO false (eUn (zel T.T) fa.f) fun g=>⟨nofun,by
  simp only[yaa]at hc;obtain⟨hx,⟨⟨h1,h2⟩,h3⟩,h4⟩:=hc;obtain rfl:=yaj hx;obtain⟨t1,t2,t3⟩:=g.glob h3
  exact zpU (g.glob h1).1 (g.gok.blt _ h2) t1 (g.gok.blt _ h4) T.ok t3 t2 (zay fa.q) (fa.ok g)⟩
 |_=>none
def zys(nm:Names)(N:List Str)(x:Str)(p pos:Pos):∀args,Option (Dn G nm N (.Call (.Name x p) args [] pos))
 |[.Call (.Name y _) [a] [] _]=>gd (decide (x="len")&&decide (y="set")&&(zbB nm x&&G.blt x&&zbB nm y&&G.blt y)) fun hc=>(rc nm N a).bind fun fa=>zhO false (eUn zdK fa.f) fun g=>⟨nofun,by
  simp only[yaa]at hc;obtain⟨⟨hx,hy⟩,⟨⟨h1,h2⟩,h3⟩,h4⟩:=hc;obtain rfl:=yaj hx;obtain rfl:=yaj hy
  exact zkW g.calm (g.un (by decide)) (g.glob h1).1 (g.gok.blt _ h2) (g.glob h3).1 (g.gok.blt _ h4) (fa.ok g).2.1 (zbd (zay fa.q))⟩
 |[.Attribute o f ap]=>gd (zbB nm x&&G.blt x) fun hg=>(faG G nm N (.Attribute o f ap)).bind fun t=>if hx:x="len"then gd (zs4 t.f) fun _=>zhO false (zeK G.ob.cur t.f t.i) fun g=>⟨nofun,by
   subst hx;rw[yaa]at hg;obtain⟨i,f',ok⟩:=t;obtain⟨x,p,ap',e,s1,s2,s3,s4,fk⟩:=ok g;cases e
   exact zpT (y:="") s1 s2 s3 s4 g.same fk rfl (g.glob hg.1).1 (g.gok.blt _ hg.2)⟩
  else if hx:x="sorted"then gd (zo6 t.f) fun _=>zhO true (zj6 G.ob.cur t.f t.i) fun g=>by
   subst hx;rw[yaa]at hg;obtain⟨i,f',ok⟩:=t;obtain⟨x,p,ap',e,s1,s2,s3,s4,fk⟩:=ok g;cases e;exact⟨fun _=>zkV s1 s2 s3 s4 g.calm g.same fk rfl (g.glob hg.1).1 (g.gok.blt _ hg.2),zez (zkV s1 s2 s3 s4 g.calm g.same fk rfl (g.glob hg.1).1 (g.gok.blt _ hg.2))⟩
  else none
 |_=>none
def zvt{cl k X E}{x:Str}{args:List Expr}{p pos:Pos}{dds:List D}{fi:FnI}(g:Gx cl G k X nm N E)(hg:zbB nm x=true)(hm:G.ob.mks x=some (dds,fi))(hne:args.isEmpty=false)(a:DL G nm N args)(hl:args.length+1=fi.ar):PE X (.Call (.Name x p) args [] pos) (tE cl E (eMk x [] fi.run a.fs)):=by
 obtain⟨f,fd,ps,dvs,ds,k',hk,mC,M,B0,BD,vd,sd,F⟩:=g.gok.mks x dds fi hm;obtain⟨g1,g2,g3⟩:=g.glob hg
 cases args with
 |nil=>cases hne|cons e es=>
  have a2:=a.q;rw[ya3,yaa]at a2;exact PE.imp (znp M F (g.room.mono hk) g1 mC B0 .nil g.pass (a.ok g) g2 (zbd a2.1) (zbN a2.2)) fun _ _ _ q=>zyr (dds:=[]) (fun _=>.nil) q (by rw[a.l];exact hl)
def mkG(nm:Names)(N:List Str)(x:Str)(p pos:Pos)(args:List Expr):Option (Dn G nm N (.Call (.Name x p) args [] pos)):=match hm:G.ob.mks x with
 |some c=>gd (zbB nm x&&(!args.isEmpty&&decide (args.length+1=c.2.ar))) fun hc=>(shL rc nm N args).bind fun a=>zhO false (eMk x [] c.2.run a.fs) fun g=>⟨nofun,by
  simp only[yaa,yaG,yaT]at hc
  exact zvt g hc.1 hm hc.2.1 a hc.2.2⟩
 |none=>none
structure Cp(G:Genv)(nm:Names)(N:List Str)(xs:List Str)where
 cs:List Nat
 ok:∀{cl k X E},Gx cl G k X nm N E->CapsOk X xs cs
noncomputable def ztW(G:Genv)(nm:Names)(N:List Str):∀xs,Option (Cp G nm N xs)
 |[]=>some ⟨[],fun _=>⟨rfl,fun j x i h=>by simp at h⟩⟩
 |x::xs=>gd (decide (nm.lookup x=some .cell)) fun hx=>match hi:idx N x with
  |some i=>(ztW G nm N xs).map fun c=>⟨i::c.cs,fun g=>by
   have hx:=yaj hx;have c:=c.ok g;refine⟨by rw[yae,yae,c.len],fun j y i' e1 e2=>?_⟩
   cases j with
   |zero=>
    cases e1;cases e2;refine⟨by rw[g.eN];exact zfk hi,?_,g.fnc _ hx⟩;obtain⟨kd,a1,a2⟩:=g.vis _ _ hx
    rcases a2 with z|⟨z,_⟩
    ·rwa[z]at a1
    ·cases z
   |succ j=>exact c.at' j y i' e1 e2⟩
  |none=>none
def zuM(nm:Names)(N:List Str)(x:Str)(p pos:Pos):∀args,Option (Dn G nm N (.Call (.Name x p) args [] pos))
 |[e]=>gd (decide (x="_law_told")&&zbB nm x) fun hc=>match hl:G.lam e with
  |some r=>(ztW G nm N r.1).bind fun c=>zhO false (zdR G.und G.isx c.cs r.2) fun g=>⟨nofun,by
   rw[yaa]at hc;obtain rfl:=yaj hc.1
   exact g.gok.tl e r.1 r.2 hl _ _ c.cs p pos rfl rfl rfl rfl rfl g.room g.calm (g.glob hc.2).1 g.cod (c.ok g)⟩
  |none=>none
 |_=>none
noncomputable def zux{o:Expr}{m:Str}{ap cp:Pos}{args:List Expr}(w:Bool)(f:Fe)(h:∀{cl k X E},Gx cl G k X nm N E->(w=true->PE X (.Call (.Attribute o m ap) args [] cp) (tN cl E f))/\PE X (.Call (.Attribute o m ap) args [] cp) (tE cl E f)):Option (Dn G nm N (.Call (.Attribute o m ap) args [] cp)):=some ⟨w,f,rfl,fun g=>⟨(h g).1,(h g).2,fun _=>zg0 (h g).2 fun _=>rfl⟩⟩
noncomputable def zpf(o:Expr):Prop:=∀m env,attributeBase o m env (eval o env)=eval o env
structure Bo(o:Expr):Type where
 ok:zpf o
noncomputable def zwA:∀o,Option (Bo o)|.Name _ _=>some ⟨fun _ _=>rfl⟩|.Constant _ _ _=>some ⟨fun _ _=>rfl⟩|.Subscript _ _ _=>some ⟨fun _ _=>rfl⟩|_=>none
noncomputable def zye:∀o,Option (Bo o)|.Name _ _=>some ⟨fun _ _=>rfl⟩|.Call (.Name _ _) (_::_) _ _=>some ⟨fun _ _=>rfl⟩|.Attribute (.Name _ _) _ _=>some ⟨fun _ _=>rfl⟩|_=>none
structure Sm(m:Str)where
 g:Str->D->Option D
 ok:∃id,Slot "str" m id/\typeOf (.builtin id)=pure (.type "method_descriptor")/\∀{X cl},MtS X cl id g
def zya(m:Str):Option (Sm m):=if h:m="endswith"then some ⟨zmh,_,h ▸ PySem.F.slot_str_endswith,PySem.F.type_str_endswith,zqB⟩else if h:m="join"then some ⟨zfG,_,h ▸ PySem.F.slot_str_join,PySem.F.type_str_join,zqA⟩else if h:m="split"then some ⟨zdV,_,h ▸ ybB,PySem.F.type_str_split,znG⟩else if h:m="partition"then some ⟨zlq,_,h ▸ PySem.F.slot_str_partition,PySem.F.type_str_partition,zqz⟩else if h:m="index"then some ⟨zjt,_,h ▸ PySem.F.slot_str_index,PySem.F.type_str_index,znH⟩else none
def zxX(nm:Names)(N:List Str)(o:Expr)(m:Str)(ap cp:Pos):∀args,Option (Dn G nm N (.Call (.Attribute o m ap) args [] cp))
 |[a]=>gd (ap.endLine==cp.line) fun hl=>(zwA o).bind fun b=>(zya m).bind fun s=>(rc nm N o).bind fun fo=>(rc nm N a).bind fun fa=>zux false (eSm s.g fo.f fa.f) fun g=>⟨nofun,by
   obtain⟨id,s1,s2,s3⟩:=s.ok
   exact zu1 s1 s2 s3 (fo.ok g).2.1 (fa.ok g).2.1 (zay fa.q) (b.ok _ _) hl⟩
 |[a,a2]=>gd (decide (m="get")&&(ap.endLine==cp.line)) fun hc=>(zwA o).bind fun b=>(rc nm N o).bind fun fo=>(rc nm N a).bind fun fa=>(rc nm N a2).bind fun fb=>zux false (zeH fo.f fa.f fb.f) fun g=>⟨nofun,by
   rw[yaa]at hc;obtain rfl:=yaj hc.1
   exact zm1 (g.un (by decide)) (fo.ok g).2.1 (fa.ok g).2.1 (fb.ok g).2.1 (zay fa.q) (zay fb.q) (b.ok _ _) hc.2⟩
 |_=>none
noncomputable def zym(nm:Names)(N:List Str)(o:Expr)(m:Str)(ap cp:Pos):∀args,Option (Dn G nm N (.Call (.Attribute o m ap) args [] cp))
 |[]=>gd (decide (m="pop")&&(ap.endLine==cp.line)) fun hc=>(faG G nm N o).bind fun t=>gd (zs4 t.f) fun _=>zux false (zn4 G.ob.cur t.f t.i) fun g=>⟨nofun,by
   rw[yaa]at hc;obtain rfl:=yaj hc.1;obtain⟨i,f,ok⟩:=t;obtain⟨x,p,ap',rfl,s1,s2,s3,s4,fk⟩:=ok g
   exact zpS s1 s2 s3 s4 g.same fk rfl rfl hc.2⟩
 |_=>none
def zqC{cl k X E}{o:Expr}{m c:Str}{fi:FnI}{args:List Expr}{ap pos:Pos}(g:Gx cl G k X nm N E)(h1:G.ob.mt m=some (c,fi))(b:zpf o)(z3:(ap.endLine==pos.line)=true)(z4:args.length<30)(hl:args.length+1=fi.ar)(fo:Dn G nm N o)(a:DL G nm N args):
  (fi.own=true->PE X (.Call (.Attribute o m ap) args [] pos) (tN cl E (zaU c m fi.run fo.f a.fs)))/\PE X (.Call (.Attribute o m ap) args [] pos) (tE cl E (zaU c m fi.run fo.f a.fs)):=by
 obtain⟨f,fd,ps,c1,c2,c3,c4⟩:=g.gok.mt m c fi h1
 have hlen:a.fs.length+1=fi.ar:=by rw[a.l];exact hl
 have ht:=zly (ap:=ap) (b m X.env) (zzb (pos:=pos) a.q z4) z3
 have main:PE X (.Call (.Attribute o m ap) args [] pos) (zgW (cl c) m (zgP cl fi.ar fi.own fi.run) [] E (tE cl E fo.f) (tAs cl E a.fs)):=by
  cases args with
  |nil=>
   have e0:a.fs=[]:=ya0 a.l;rw[e0];refine PE.imp (zlm (fo.ok g).2.1 c1 c2 c4 g.room c3 .nil g.pass ht) ?_;rintro σ H Q ⟨B,w,ρ,S,rfl,R,q⟩;refine⟨B,w,ρ,S,rfl,R,?_⟩
   cases hfo:fo.f ρ S with
   |bad=>rwa[hfo]at q|exc c S1=>rwa[hfo]at q|ok d S1=>
    rw[hfo]at q;intro v w1 R1 F1 sh;obtain⟨a,dx,fs,e1,e2,e3,B',w',ρ',S',e4,R',q⟩:=q v w1 R1 F1 sh;refine⟨a,dx,fs,e1,e2,e3,?_⟩;have:=q [] w' R' (Fut.refl _) .nil;rwa[e4]at this
  |cons e es=>
   have a2:=a.q;rw[ya3,yaa]at a2;exact zno (fo.ok g).2.1 c1 c2 c4 g.room c3 .nil g.pass (a.ok g) (zbd a2.1) (zbN a2.2) ht
 cases ho:fi.own with
 |false=>
  rw[ho]at main;exact⟨nofun,PE.imp main fun _ _ _ q=>zs3 q hlen⟩
 |true=>
  rw[ho]at main;have n:=PE.imp main fun _ _ _ q=>zs2 q hlen
  exact⟨fun _=>n,zez n⟩
def zvu(nm:Names)(N:List Str)(o:Expr)(m:Str)(ap cp:Pos)(args:List Expr):Option (Dn G nm N (.Call (.Attribute o m ap) args [] cp)):=match hm:G.ob.mt m with
 |some c=>gd ((ap.endLine==cp.line)&&(decide (args.length<30)&&decide (args.length+1=c.2.ar))) fun hc=>(zye o).bind fun b=>(rc nm N o).bind fun fo=>(shL rc nm N args).bind fun a=>zux c.2.own (zaU c.1 m c.2.run fo.f a.fs) fun g=>by
  simp only[yaa,yaT]at hc;exact zqC g hm b.ok hc.1 hc.2.1 hc.2.2 fo a
 |none=>none
def zvZ(nm:Names)(N:List Str)(args:List Expr)(cp:Pos):∀f kws,Option (Dn G nm N (.Call f args kws cp))
 |.Name x p,[]=>(zuM nm N x p cp args).or ((zy1 rc nm N x p cp args).or ((zys rc nm N x p cp args).or ((mkG rc nm N x p cp args).or (zv4 rc nm N x p cp args))))|.Attribute o m ap,[]=>(zym nm N o m ap cp args).or ((zxX rc nm N o m ap cp args).or (zvu rc nm N o m ap cp args))|_,_=>none
end
noncomputable def zvL:Option NameKind->Bool|some .local=>true|some .cell=>true|_=>false
structure Ti(G:Genv)(nm:Names)(N:List Str)(n:Nat)(x:Str)where
 i:Nat
 ok:∀{cl k X E},Gx cl G k X nm N E->i<n/\X.N.Nodup/\X.N[i]?=some x/\Loc X.env.scope x/\(X.fn x=true\/X.env.scope.names.lookup x=some .local)
structure Tgs(G:Genv)(nm:Names)(N:List Str)(n:Nat)(es:List Expr)where
 is:List Nat
 ok:∀{cl k X E},Gx cl G k X nm N E->PGs X es (tGs cl n is)/\(assignEach es X.env).length=is.length/\(assignEach es X.env).findIdx? (·.1)=none
structure Dt(G:Genv)(nm:Names)(N:List Str)(n:Nat)(tg:Expr)where
 t:Tg
 ok:∀{cl k X E},Gx cl G k X nm N E->PG X tg (tG cl n t)
section
variable{G:Genv}(rc:Rec G){nm:Names}{N:List Str}{e:Expr}
def tgI(G:Genv)(nm:Names)(N:List Str)(n:Nat)(x:Str):Option (Ti G nm N n x):=gd (zvL (nm.lookup x)) fun hl=>match hi:idx N x with
 |some i=>gd (decide (i<n)) fun hn=>some ⟨i,fun g=>by
  refine⟨yaj hn,by rw[g.eN];exact g.nd,by rw[g.eN];exact zfk hi,?_⟩
  cases hk:nm.lookup x with
  |none=>rw[hk]at hl;cases hl|some kd=>
   obtain⟨kd',e,z⟩:=g.vis x kd hk;rw[hk]at hl
   cases kd with
   |«local»=>
    rcases z with rfl|⟨z,_⟩
    ·exact⟨.inl e,.inr e⟩
    ·cases z
   |cell=>
    rcases z with rfl|⟨z,_⟩
    ·exact⟨.inr e,.inl (g.fnc x hk)⟩
    ·cases z
   |_=>cases hl⟩
 |none=>none
def zwB(G:Genv)(nm:Names)(N:List Str)(n:Nat):∀es,Option (Tgs G nm N n es)
 |[]=>some ⟨[],fun _=>⟨zpO,rfl,rfl⟩⟩|.Name x pos::es=>(tgI G nm N n x).bind fun a=>(zwB G nm N n es).map fun b=>⟨a.i::b.is,fun g=>by
   obtain⟨a1,a2,a3,a4,a5⟩:=a.ok g;obtain⟨b1,b2,b3⟩:=b.ok g;refine⟨zmZ a1 a2 a3 a4 a5 b1,congrArg (·+1) b2,?_⟩;show((false,assign (.Name x pos) _)::assignEach es _).findIdx? (·.1)=none;rw[List.findIdx?_cons]
   simp[b3]⟩
 |_::_=>none
def tgG(G:Genv)(nm:Names)(N:List Str)(n:Nat):∀tg,Option (Dt G nm N n tg)
 |.Name x _=>(tgI G nm N n x).map fun a=>⟨.one a.i,fun g=>by
   obtain⟨a1,a2,a3,a4,a5⟩:=a.ok g
   exact zr1 a1 a2 a3 a4 a5⟩
 |.Tuple es _ _=>(zwB G nm N n es).map fun b=>⟨.tup b.is,fun g=>by
   obtain⟨b1,b2,b3⟩:=b.ok g
   exact zr0 g.calm b1 b2 b3⟩
 |_=>none
structure Di(G:Genv)(nm:Names)(N:List Str)(tg e:Expr)where
 f:Fi
 q:okE e=true
 ok:∀{cl k X E},Gx cl G k X nm N E->PI X tg e (tI cl E f)
def zv8(tg:Expr)(a:Dn G nm N e):Di G nm N tg e:=⟨zaI a.f,a.q,fun g=>zrZ g.kk (a.ok g).2.1⟩
noncomputable def zxv(nm:Names)(N:List Str)(x:Str)(p pos:Pos)(a b:Expr):∀tg,Option (Di G nm N tg (.Call (.Name x p) [a,b] [] pos))
 |.Tuple es kk tp=>gd (decide (x="zip")&&(zbB nm x&&G.blt x)) fun hc=>(rc nm N a).bind fun fa=>(rc nm N b).map fun fb=>⟨zrq fa.f fb.f,rfl,fun g=>by
   simp only[yaa]at hc;obtain rfl:=yaj hc.1
   exact zrV (g.glob hc.2.1).1 (g.gok.blt _ hc.2.2) (zaR (fa.ok g).2.1 (zaR (fb.ok g).2.1 zeB (zbd (zay fb.q))) (zbd (zay fa.q))) (zbd (zay fa.q)) (zbN (by simp[zay fb.q]))⟩
 |_=>none
def zyc(nm:Names)(N:List Str)(tg:Expr)(x:Str)(p pos:Pos)(a:Expr):Option (Di G nm N tg (.Call (.Name x p) [a] [] pos)):=gd (decide (x="range")&&(zbB nm x&&G.blt x)) fun hc=>(rc nm N a).map fun fa=>⟨zeu fa.f,rfl,fun g=>by
   simp only[yaa]at hc;obtain rfl:=yaj hc.1
   exact zpN (g.glob hc.2.1).1 (g.gok.blt _ hc.2.2) (zaR (fa.ok g).2.1 zeB (zbd (zay fa.q))) (zbd (zay fa.q))⟩
def zts(nm:Names)(N:List Str)(tg:Expr):∀e,Option (Di G nm N tg e)
 |.Call (.Name x p) [a] [] pos=>(zyc rc nm N tg x p pos a).or ((rc nm N (.Call (.Name x p) [a] [] pos)).map (zv8 tg))|.Call (.Name x p) [a,b] [] pos=>(zxv rc nm N x p pos a b tg).or ((rc nm N (.Call (.Name x p) [a,b] [] pos)).map (zv8 tg))|e=>(rc nm N e).map (zv8 tg)
noncomputable def zsZ:Expr->Option Str|.Name x _=>some x|_=>none
def zbS:Expr->List Str
 |.Name x _=>[x]|.Tuple es _ _=>es.filterMap zsZ|_=>[]
def zbC(names:Names)(N:List Str):List (Str×Nat):=names.filterMap fun p=>if p.2=.free then(idx N p.1).map fun i=>(p.1,i)else none
noncomputable def zy0:Option NameKind->Bool|some .cell=>true|some .free=>true|_=>false
def zmw(nm:Names)(scope:Scope)(xs:List Str)(caps:List (Str×Nat)):Bool:=
 decide (scope.kind=.function)&&decide ((scope.names.map (·.1)).Nodup)&&scope.names.all (fun y=>!decide (y.2=.local)||decide (scope.names.lookup y.1=some .local))
 && scope.names.all (fun y=>!decide (y.2=.free)||zy0 (nm.lookup y.1))&&caps.all (fun p=>scope.names.all fun z=>!decide (z.1=p.1)||decide (z.2=.free))&&decide ((xs++caps.map (·.1)).Nodup)
def zh8{env:PySem.Env}{x:Str}{kd:NameKind}{names:Names}(h:names.lookup x=some kd):
  ∃kd',(names.map fun(n,k)=>if(k==NameKind.free&&env.scope.kind==.function&&env.kindOf n==some .cell)then(n,NameKind.cell)else(n,k)).lookup x=some kd'/\(kd'=kd\/(kd=.free/\kd'=.cell)):=by
 induction names with
 |nil=>cases h|cons p r ih=>
  obtain⟨n,k0⟩:=p;rw[yaB]at h;rw[yaw];dsimp only
  by_cases hc:(k0==NameKind.free&&env.scope.kind==.function&&env.kindOf n==some .cell)=true
  ·rw[if_pos hc,yaB]
   cases hx:x==n with
   |true=>
    rw[hx]at h;cases h;simp only[yaa,yby]at hc;exact⟨_,rfl,.inr ⟨hc.1.1,rfl⟩⟩
   |false=>rw[hx]at h;exact ih h
  ·rw[if_neg hc,yaB]
   cases hx:x==n with
   |true=>rw[hx]at h;cases h;exact⟨_,rfl,.inl rfl⟩|false=>rw[hx]at h;exact ih h
def zj9{cl k X E}(g:Gx cl G k X nm N E)(h:zmw nm scope xs (zbC scope.names N)=true):CompScopeG X.env.scope scope X.N xs (zbC scope.names N)/\(xs++(zbC scope.names N).map (·.1)).Nodup:=by
 unfold zmw at h;simp only[yaa,ybx,yaT,ych,yaG,ycl]at h;obtain⟨⟨⟨⟨⟨h1,h2⟩,h3⟩,h4⟩,h5⟩,h6⟩:=h
 have fr:∀y∈scope.names,y.2=.free->X.env.scope.names.lookup y.1=some .cell\/X.env.scope.names.lookup y.1=some .free:=fun y hy hf=>by
  rcases h4 y hy with z|z
  ·exact absurd hf z
  ·cases hk:nm.lookup y.1 with
   |none=>rw[hk]at z;cases z|some kd=>
    obtain⟨kd',e,zz⟩:=g.vis y.1 kd hk;rw[hk]at z;rw[e]
    rcases zz with rfl|⟨_,rfl⟩
    ·cases kd'<;>first|exact .inl rfl|exact .inr rfl|cases z
    ·exact .inl rfl
 refine⟨⟨h2,h1,fun y hy hl=>(h3 y hy).elim (fun z=>absurd hl z) fun z=>z,fr,fun p hp=>?_,fun p hp z hz e=>(h5 p hp z hz).elim (fun w=>absurd e w) fun w=>w⟩,h6⟩;unfold zbC at hp;obtain⟨q,hq,e⟩:=ybj.mp hp;split at e
 ·rename_i hf
  cases hi:idx N q.1 with
  |none=>rw[hi]at e;cases e|some i=>
   rw[hi]at e;have e':(q.1,i)=p:=Option.some.inj e;subst e';refine⟨by rw[g.eN];exact zfk hi,by rw[<-hf];exact hq,?_⟩
   rcases fr q hq hf with z|z<;>rw[z]<;>exact fun w=>by cases w
 ·cases e
def zgx{cl k X E}(g:Gx cl G k X nm N E)(hn:(xs++(zbC scope.names N).map (·.1)).Nodup)(cl':List (Str×Addr))(C:Addr)(s:Shared)(H:Hp)(fp:List Addr):
  Gx cl G k (zbi X xs (zbC scope.names N) scope cl' C s H fp) scope.names (xs++(zbC scope.names N).map (·.1)) noE where
 gok:=g.gok
 room:=g.room
 calm:=g.calm
 pass:=fun pins σ H s e s' I q=>by
  obtain⟨a,cls,a0,H',B,_,_,_,_,_,_,_,_,_,z⟩:=q;exact z.elim
 eN:=rfl
 kk:=g.kk
 pp:=g.pp
 ww:=g.ww
 nd:=hn
 vis:=fun x kd h=>zh8 h
 fnx:=fun x h=>lookup_relabel_local h
 cod:=fun c h=>g.cod c h
 fnc:=fun x h=>yaz h
structure Dif(G:Genv)(nm:Names)(N:List Str)(ifs:List Expr)where
 f:Fe
 ok:∀{cl k X},Gx cl G k X nm N noE->PIf X ifs (tTr cl noE f)
def zv0(nm:Names)(N:List Str):∀ifs,Option (Dif G nm N ifs)
 |[]=>some ⟨zcJ,fun _ pins s σ H Q I q=>by
   obtain⟨B,w,ρ,S,rfl,R,q⟩:=q
   exact zqj pins s σ w.H Q I (q w R (Fut.refl _))⟩
 |[c]=>gd (zcK c) fun ht=>(rc nm N c).map fun a=>⟨a.f,fun g=>zqi ((a.ok g).2.2 ht)⟩|_=>none
structure Dc(G:Genv)(nm:Names)(N:List Str)(elt:Expr)(gg:Comprehension)(scope:Scope)where
 f:Fe
 ok:∀{cl k X E},Gx cl G k X nm N E->∃it t c el,f=zbQ (zbS gg.target).length t it c el ((zbC scope.names N).map (·.2))/\gg=⟨gg.target,gg.iter,gg.ifs,0⟩/\CompScopeG X.env.scope scope X.N (zbS gg.target) (zbC scope.names N)/\PI X gg.target gg.iter (tI cl E it)/\okE gg.iter=true ∧
   (∀cl' C s H fp,PG (zbi X (zbS gg.target) (zbC scope.names N) scope cl' C s H fp) gg.target (tG cl (zbS gg.target).length t)) ∧
   (∀cl' C s H fp,PIf (zbi X (zbS gg.target) (zbC scope.names N) scope cl' C s H fp) gg.ifs (tTr cl noE c)) ∧
   ∀cl' C s H fp,PE (zbi X (zbS gg.target) (zbC scope.names N) scope cl' C s H fp) elt (tE cl noE el)
def ztQ(nm:Names)(N:List Str)(elt:Expr)(gg:Comprehension)(scope:Scope):Option (Dc G nm N elt gg scope):=
 gd (decide (gg.is_async=0)&&zmw nm scope (zbS gg.target) (zbC scope.names N)) fun hc=>
  (zts rc nm N gg.target gg.iter).bind fun it=>
  (tgG G scope.names (zbS gg.target++(zbC scope.names N).map (·.1)) (zbS gg.target).length gg.target).bind fun t=>
  (zv0 rc scope.names (zbS gg.target++(zbC scope.names N).map (·.1)) gg.ifs).bind fun c=>
  (rc scope.names (zbS gg.target++(zbC scope.names N).map (·.1)) elt).map fun el=>
  ⟨zbQ (zbS gg.target).length t.t it.f c.f el.f ((zbC scope.names N).map (·.2)),fun g=>by
   rw[yaa]at hc;obtain⟨S,hn⟩:=zj9 g hc.2;refine⟨_,_,_,_,rfl,?_,S,it.ok g,it.q,fun cl' C s H fp=>t.ok (zgx g hn cl' C s H fp),fun cl' C s H fp=>c.ok (zgx g hn cl' C s H fp),fun cl' C s H fp=>(el.ok (zgx g hn cl' C s H fp)).2.1⟩;have:=yaj hc.1;clear it t c el S hn g;cases gg;simp only at this
   rw[this]⟩
def Dc.n{cl k X E}{elt:Expr}{gg:Comprehension}{scope:Scope}{pos:Pos}(c:Dc G nm N elt gg scope)(g:Gx cl G k X nm N E):PE X (.ListComp elt [gg] scope pos) (tN cl E c.f):=by
 obtain⟨it,t,c',el,e,eg,S,i1,i2,i3,i4,i5⟩:=c.ok g;rw[e,eg];exact PE.imp (znv g.calm S i1 i3 i4 i5 (zgn i2)) fun _ _ _ q=>zo9 q
structure Dop(G:Genv)(nm:Names)(N:List Str)(o:Option Expr)where
 f:Option Fe
 ok:∀{cl k X E},Gx cl G k X nm N E->PO X o (zui cl E f)
def zwH(nm:Names)(N:List Str):∀o,Option (Dop G nm N o)
 |none=>some ⟨none,fun _=>zqg⟩|some e=>(opE rc nm N e).map fun a=>⟨some a.f,fun g=>zqf (a.ok g)⟩
structure Px(i:Expr):Type where
 ok:ziF i
noncomputable def ixO:∀i,Option (Px i)|.Name _ _=>some ⟨fun _ _=>rfl⟩|.Constant _ _ _=>some ⟨fun _ _=>rfl⟩|.BinOp _ _ _ _=>some ⟨fun _ _=>rfl⟩|.Subscript _ _ _=>some ⟨fun _ _=>rfl⟩|.Call _ _ _ _=>some ⟨fun _ _=>rfl⟩|.UnaryOp _ _ _=>some ⟨fun _ _=>rfl⟩|_=>none
def zx8(nm:Names)(N:List Str)(a:Expr)(pos:Pos):∀i,Option (Dn G nm N (.Subscript a i pos))
 |.Slice lo hi none _=>(opE rc nm N a).bind fun fa=>(zwH rc nm N lo).bind fun l=>(zwH rc nm N hi).bind fun u=>zjG (eSl fa.f l.f u.f) rfl (fun _ _=>rfl) fun g=>zu2 (fa.ok g) (l.ok g) (u.ok g)|i=>(ixO i).bind fun h=>(opE rc nm N a).bind fun fa=>(opE rc nm N i).bind fun fi=>zjG (zaj ixD fa.f fi.f) rfl (fun _ _=>rfl) fun g=>zr6 (ztv g.kk g.units) (fa.ok g) (fi.ok g) h.ok
noncomputable def ixF(nm:Names)(N:List Str)(b:Expr)(pos:Pos):∀i,Option (Dn G nm N (.Subscript b i pos))
 |.Name y _=>(faG G nm N b).bind fun t=>gd (zo6 t.f) fun _=>(slO G nm N y).bind fun s=>zjG (eQ (zp5 G.ob.cur t.f t.i (zbI s.i))) rfl (fun _ _=>rfl) fun g=>by
   obtain⟨i,f,ok⟩:=t;obtain⟨x,p,ap',rfl,s1,s2,s3,s4,fk⟩:=ok g;exact zu5 (zsh s1 s2 s3 s4 g.same fk rfl (g.un (by decide)) (s.v g).2.2 fun _ _=>rfl)
 |_=>none
structure Kn(d:D):Type where
 x:Str
 ok:d=.str x
noncomputable def zuY:∀d,Option (Kn d)|.str x=>some ⟨x,rfl⟩|_=>none
def zrb:Rec G:=fun nm N e=>match e with
 |.Constant c _ _=>(match c with
  |.int i=>zjG (zad (.int i)) rfl (fun _ _=>rfl) fun _=>zgg zoM fun w=>.int _|.bool b=>zjG (zad (.bl b)) rfl (fun _ _=>rfl) fun _=>zgg zqq fun w=>.bl _|.none=>zjG (zad .non) rfl (fun _ _=>rfl) fun _=>zgg zoK fun w=>.non|.str x=>zjG (zad (.str x)) rfl (fun _ _=>rfl) fun _=>zgg zoJ fun w=>.str _|_=>none)
 |.Name x _=>(match slO G nm N x with
  |some s=>zjG (zae s.i) rfl (fun _ _=>rfl) fun g=>(s.v g).1|none=>gd (zbB nm x) fun hg=>(match hc:G.con x with
   |some d=>zjG (zad d) rfl (fun _ _=>rfl) fun g=>by
    obtain⟨v,u,m,r,sh⟩:=g.gok.con x d hc;exact zgg (zie (g.glob hg).1 m r (g.glob hg).2.1) sh
   |none=>none))
 |.Tuple es _ _=>(shL rc nm N es).bind fun a=>zjG (zeJ a.fs) rfl (fun _ _=>rfl) fun g=>zr3 (a.ok g)|.List es _=>(shL rc nm N es).bind fun a=>zul (zj7 a.fs) rfl (fun _ _=>rfl) fun g=>zi4 (a.ok g)|.BinOp a op b _=>(zzf op).bind fun gg=>(opE rc nm N a).bind fun fa=>(opE rc nm N b).bind fun fb=>zjG (zaj gg.1 fa.f fb.f) rfl (fun _ _=>rfl) fun g=>zoz gg.2 (fa.ok g) (fb.ok g)|.UnaryOp op a _=>(match op with
  |.Not=>gd (zcK a) fun ht=>(rc nm N a).map fun fa=>⟨false,eUn zcl fa.f,rfl,fun g=>⟨nofun,zr4 (fa.ok g).2.1,fun _=>zot ((fa.ok g).2.2 ht)⟩⟩|.USub=>(opE rc nm N a).bind fun fa=>zjG (eUn zqy fa.f) rfl (fun _ _=>rfl) fun g=>zu0 zrx (fa.ok g)|_=>none)
 |.BoolOp op es _=>(ztZ rc nm N op es).map fun b=>⟨false,b.f,rfl,fun g=>⟨nofun,(b.ok g).1,fun _=>(b.ok g).2.pt⟩⟩|.Compare a ops bs p=>(inF nm N a p ops bs).or (zv1 rc nm N a p ops bs)|.IfExp c a b _=>gd (zcK c) fun ht=>(rc nm N c).bind fun fc=>(rc nm N a).bind fun fa=>(rc nm N b).map fun fb=>⟨false,eIf fc.f fa.f fb.f,rfl,fun g=>⟨nofun,zu4 ((fc.ok g).2.2 ht) (fa.ok g).2.1 (fb.ok g).2.1,nofun⟩⟩|.Subscript a i pos=>(ixF nm N a pos i).or (zx8 rc nm N a pos i)|.Attribute (.Name x p) f _=>gd (G.ob.fk G.ob.cur f) fun hf=>(rc nm N (.Name x p)).bind fun fo=>zjG (zmi G.ob.cur f fo.f) rfl (fun _ _=>rfl) fun g=>zr7 (g.gok.fk _ _ hf) g.kk (fo.ok g).2.1 rfl|.Call f args kws cp=>zvZ rc nm N args cp f kws|.ListComp elt [gg] scope _=>(ztQ rc nm N elt gg scope).bind fun c=>zul c.f rfl (fun _ _=>rfl) fun g=>c.n g|.Dict [] [] _=>zul zmj rfl (fun _ _=>rfl) fun _=>zpW|.Dict [some (.Name c p)] [v] _=>gd (zbB nm c) fun hg=>(match hc:G.con c with
  |some d=>(zuY d).bind fun kx=>(rc nm N v).bind fun fv=>zul (zj8 kx.x fv.f) rfl (fun _ _=>rfl) fun g=>by
   obtain⟨vv,u,m,r,sh⟩:=g.gok.con c d hc;obtain⟨x,rfl⟩:=kx;cases sh ⟨fun _=>none,fun _=>none,[]⟩;exact zpV (zie (g.glob hg).1 m r (g.glob hg).2.1) (fv.ok g).2.1
  |none=>none)
 |_=>none
end
noncomputable def zvX(G:Genv):Nat->Rec G
 |0=>fun _ _ _=>none|n+1=>zrb (zvX G n)
noncomputable def zmG(X:Cx)(E:St->XK):Prop:=∀(C:Addr) (pins:Z3) (σ:St) (H:Hp) (s:Shared) (e:Addr) (h':Heap) (vs:List Value),Inv X pins σ H s->Heap.MadeExcOf s.heap h' e (.ref C) vs->E σ (.ref C) none H->X.xe (.ref e) {s with heap:=h'}
noncomputable def zpt(C:Addr)(E:St->XK)(t:TA):TS:=fun _ σ H=>t σ H fun vs H1=>vs.length<=sizeLine/\E σ (.ref C) none H1
theorem zlh(hr:zmG X E)(hc:X.calm=true)(hg:Gl X x)(hm:X.mg x=some (.ref C))
  (z:PySem.W.excIn X.K C bmV "ValueError.__new__"=true) (ha:PA X (e::es) t)
  (he:starEach (e::es) X.env=(false,eval e X.env)::starEach es X.env) (hpl:(backTo cpos (starEach es X.env)).any (·.1)=false) (hdb:(x==("__debug__":Str))=false):
  PS X (.Raise (some (.Call (.Name x np) (e::es) [] cpos)) none pos) (zpt C E t):=by
 intro pins s σ H D I h;obtain⟨bm,N,nm,qn,bs,hd,sn,sub,ab,col,dd,c0,c1,c2,c3,c5,mN,o1,o2,o3,o4⟩:=zim I.mod.kin z
 refine wpAny_Raise_call_subU (C:=C) (nm:=nm) (q:=qn) (N:=N) (bs:=bs) (bm:=bm) (hdct:=hd) (sn:=sn) (sub:=sub) (ab:=ab) (col:=col) (dd:=dd) (k0:=c0) (k1:=c1) (k2:=c2) (k3:=c3) (k5:=c5)
  ybR (by decide +kernel) ybR (mN:=mN) (o4.hasType ybR.hasBase) (I.ok.hd hc) (by rw[he];show(false||(backTo cpos (starEach es X.env)).any (·.1))=false;rw[hpl];rfl) o3 (zda I hg hm ⟨rfl,?_⟩ hdb)
 have go:=ha cpos pins s σ H _ I h;rw[he]at go ⊢;exact ybr (thn go fun us s2 ⟨vs,H2,I2,r2,q1,q2⟩=>⟨rfl,by rw[<-r2.length];exact q1,I2.bk _ _ o1,o2.keeps I2.bk,o4.keeps I2.bk,fun h' a mk=>hr C pins σ H2 s2 a h' us I2 mk q2⟩)
def sRz(c:Str)(fs:List Fe):Fs:=fun ρ S=>match zas fs ρ S with|.ok ds S'=>if zaD ds.length then .ex c ρ S' else .bad|.exc x S'=>.ex x ρ S'|.bad=>.bad
noncomputable def zpn(X:Cx)(pins:Z3)(E:St->XK):Cx:={X with pn:=X.pn++pins,xe:=fun e s'=>∃σ H1 s1,Inv X pins σ H1 s1/\CXE X.prog X.w X.stack H1 s1 (E σ) e s'}
section
variable{X:Cx}{pins:Z3}{σ:St}{H:Hp}{s:Shared}{E:St->XK}
def zsG(ok:X.Ok):(zpn X pins E).Ok:=
 ⟨ok.mod,ok.kind,ok.glob,ok.blt,ok.above,ok.inj,ok.has,ok.cab,ok.hd,ok.frames,ok.stk,ok.exf,ok.bs,ok.bsz,ok.noex,ok.exfs,ok.funs,ok.frf⟩
def znB(ok:(zpn X pins E).Ok):X.Ok:=
 ⟨ok.mod,ok.kind,ok.glob,ok.blt,ok.above,ok.inj,ok.has,ok.cab,ok.hd,ok.frames,ok.stk,ok.exf,ok.bs,ok.bsz,ok.noex,ok.exfs,ok.funs,ok.frf⟩
def zqW(I:Inv X pins σ H s):Inv (zpn X pins E) [] σ H s:=
 ⟨zsG I.ok,I.os,I.bare,I.base,I.loc,I.cell,I.free,I.freeC,fun p hp=>I.pin p (by simpa[zpn]using hp),I.hok,I.len⟩
def zdb{pins':Z3}(I:Inv (zpn X pins E) pins' σ H s):Inv X pins σ H s:=
 ⟨znB I.ok,I.os,I.bare,I.base,I.loc,I.cell,I.free,I.freeC,fun p hp=>I.pin p (ycF _ hp),I.hok,I.len⟩
def zmX{De:Ends}{f:Flow}(h:SP (zpn X pins E) [] De f s):SP X pins De f s:=by
 cases f with
 |next=>obtain⟨σ',H',I,q⟩:=h;exact⟨σ',H',zdb I,q⟩|brk=>obtain⟨σ',H',I,q⟩:=h;exact⟨σ',H',zdb I,q⟩|cont=>obtain⟨σ',H',I,q⟩:=h;exact⟨σ',H',zdb I,q⟩|ret u=>obtain⟨v,σ',H',I,r,q⟩:=h;exact⟨v,σ',H',zdb I,r,q⟩
end
noncomputable def zuL(K:PySem.W.Frag)(C:Addr)(i:Nat)(th:TS)(De:Ends):St->XK:=fun σ cls _ H'=>∃C',cls=.ref C'/\zrk K C' C/\∀a ob,H' a=none->ob.cls=.ref C'->th (De.goes i) (σ.set i (some (.ref a))) (upd H' a (.frz ob (.own a)))
def zqb{X:Cx}{body:List Stmt}{b0:Stmt}{suite:List Stmt}{c n:Str}{C:Addr}{i:Nat}{bD:List Value}{iD:String}{tb:(St->XK)->TS}{th:TS}{np hpos pos:Pos}(hs:X.stack=X.env::X.outer)(hf:X.env.frame=some X.env.locals)(hN:X.N.Nodup)(hi:X.N[i]?=some n)
  (hk:X.env.scope.names.lookup n=some .local) (hg:Gl X c) (hm:X.mg c=some (.ref C)) (z:PySem.W.excIn X.K C bD iD=true) (hb:bD.contains (.type "BaseException")=true) (h1:∀pins E,PSs (zpn X pins E) body (tb E)) (h2:∀a,PSs (X.inH a) (b0::suite) th) (hdb:(c==("__debug__":Str))=false):
  PS X (.Try body [.ExceptHandler (some (.Name c np)) (some n) (b0::suite) hpos] [] [] pos) (fun De σ H=>tb (zuL X.K C i th De) De σ H):=by
 intro pins s σ H D I h
 have hfr:X.A.frames=some (X.env::X.outer):=by rw[<-hs];exact I.ok.frames
 refine wpAny_Try_except (yaV (h1 pins (zuL X.K C i th D) [] s σ H D (zqW I) h) (fun f s1 q=>?_) fun e s1 q=>?_)
 ·have q':=zmX q
  cases f with
  |next=>exact ycJ q'|ret v=>exact q'|brk=>exact q'|cont=>exact q'
 ·obtain⟨σ1,H1,s2,I1,a,cls,a0,H',B,rfl,fl,c1,c2,c3,os,bare,un,hok,C',rfl,⟨⟨bC,iC,zC⟩,up⟩,q⟩:=q;have fl':=fl;rw[hs]at fl';refine wpAny_looks_onW hfr hf fl' fun h4 hd4 u4=>?_
  refine wpAny_landsW hd4 fun h5 fl5 u5=>?_
  rw[<-hs]at fl5;obtain⟨I5,ob5,oc5,og5,_,_⟩:=zf6 (s':=s1) I1 fl5 (u4.trans u5) c1 c2 c3 os bare un hok;refine wpAny_handleBy_cons (codeAny_handlers_test ?_) (by intro q;cases q);refine zda (I5.inH a) hg hm ?_ hdb;refine zgr I5.kIn zC z og5 oc5 hb up ?_;refine codeAny_handlers_suite_as ?_;refine lands_againW fl5 fun h6 fl6 u6=>?_
  obtain⟨_,ob,oc,og,na,I6⟩:=zf6 (s':=s1) I1 fl6 ((u4.trans u5).trans u6) c1 c2 c3 os bare un hok;refine zdq (v:=.ref a) I6 hN hi (.inl hk) rfl (fun s7 I7=>?_) (.inr hk);exact yaV (h2 a pins s7 _ _ (D.goes i) (I7.inH a) (q a ob na oc)) (fun f s8 q8=>zpK I.ok hN hi hk q8) fun _ _ z=>z.elim
noncomputable def Wd.claim(w:Wd)(p:Addr)(r:Root):Wd:=⟨w.H,fun a=>if a=p then some r else if w.ow a=some r then some .far else w.ow a,w.mu⟩
section
variable{cl:Cf}{B:Base}{σ:St}{w:Wd}{ρ:Env}{S:Sto}
def zfl(h:w.ow p≠none):Fut w (w.claim p r)where
 keep:=fun a u ha hk=>by
  have n:a≠p:=fun z=>h (by rw[<-z];exact hk)
  refine⟨ha,?_⟩;show(if a=p then some r else if w.ow a=some r then some Root.far else w.ow a)=none;rw[if_neg n,if_neg (by rw[hk];exact fun z=>by cases z)];exact hk
 mu:=fun _ _ h=>h
theorem Rel.claim(R:Rel cl (B.hold p o) σ w ρ S)(hB:B.Fr p=none)(t:Top cl w o d):Rel cl B (σ.set i (some (.ref p))) (w.claim p (.slot i)) (ρ.set i (some (true,d))) S:=by
 have hp:=R.wd.fr p o (show(if p=p then some o else B.Fr p)=some o from if_pos rfl);have hfar:w.ow p=some .far:=hp.2.trans (show(if p=p then some Root.far else B.fw p)=_ from if_pos rfl);have ff:=zfl (w:=w) (p:=p) (r:=.slot i) (by rw[hfar];exact yaF _)
 have kp:∀a u,w.H a=some u->w.ow a≠some .far->w.ow a≠some (.slot i)->(w.claim p (.slot i)).H a=some u/\(w.claim p (.slot i)).ow a=w.ow a:=fun a u ha hk hk2=>by
  have n:a≠p:=fun z=>hk (by rw[z];exact hfar)
  refine⟨ha,?_⟩;show(if a=p then _ else if w.ow a=some (Root.slot i)then some Root.far else w.ow a)=_;rw[if_neg n,if_neg hk2]
 refine⟨⟨fun a u h=>?_,fun a r h=>?_,R.wd.len,fun n ob h=>?_,R.wd.tab.keep ff fun P ps h1 h2=>⟨(kp P _ h1 (by rw[h2];simp) (by rw[h2];simp)).1,(kp P _ h1 (by rw[h2];simp) (by rw[h2];simp)).2.trans h2⟩⟩,by rw[yaN,yaN];exact R.len,fun j b e hj=>?_⟩
 ·have na:a≠p:=fun z=>by rw[z,hB]at h;cases h
  have h2:=R.wd.fr a u (show(if a=p then some o else B.Fr a)=some u by rw[if_neg na];exact h);have h3:w.ow a=B.fw a:=h2.2.trans (show(if a=p then some Root.far else B.fw a)=_ from if_neg na)
  have hne:w.ow a≠some (.slot i):=fun z=>by
   rcases R.wd.own a _ z with y|y
   ·cases y
   ·have y':(if a=p then some o else B.Fr a)=none:=y;rw[if_neg na,h]at y';cases y'
  refine⟨h2.1,?_⟩;show(if a=p then some (Root.slot i)else if w.ow a=some (Root.slot i)then some Root.far else w.ow a)=_;rw[if_neg na,if_neg hne];exact h3
 ·have h':(if a=p then some (Root.slot i)else if w.ow a=some (Root.slot i)then some Root.far else w.ow a)=some r:=h;split at h'
  ·rename_i e;rw[e];exact .inr hB
  ·rename_i na;split at h'
   ·cases h';exact .inl rfl
   ·rcases R.wd.own a r h' with z|z
    ·exact .inl z
    ·have z':(if a=p then some o else B.Fr a)=none:=z;rw[if_neg na]at z';exact .inr z'
 ·obtain⟨a,e,x⟩:=R.wd.obj n ob h;exact⟨a,e,x.keep ff fun b u hb hn=>kp b u hb (fun z=>by rwa[z]at hn) (fun z=>by rwa[z]at hn)⟩
 ·by_cases hij:i=j
  ·subst hij
   have hlt:i<ρ.length:=by
    have:=(yan.mp hj).1;rwa[yaN]at this
   rw[yaC hlt]at hj;cases hj;exact⟨.ref p,by rw[yaC (by rw[R.len];exact hlt)],p,o,rfl,if_pos rfl,hp.1,t.up ff⟩
  ·rw[yaQ hij]at hj ⊢;obtain⟨v,e1,x⟩:=R.slots j b e hj;refine⟨v,e1,x.keep ff fun a u ha hr=>?_⟩;have:=kp a u ha (by rw[hr];exact fun z=>by cases z) (by rw[hr];exact fun z=>hij (by cases z;rfl));exact⟨this.1,this.2.trans hr⟩
end
noncomputable def tO(cl:Cf)(E:St->XK):Bool->Fe->TE|true,f=>tN cl E f|false,f=>tE cl E f
noncomputable def zm3(i j:Nat)(o1:Bool)(f1:Fe)(o2:Bool)(f2:Fe):Fs:=fun ρ S=>match f1 ρ S with
 |.ok d1 S1=>(match f2 ρ S1 with
  |.ok d2 S2=>.nx ((ρ.set i (some (o1,d1))).set j (some (o2,d2))) S2|.exc c S'=>.ex c ρ S'|.bad=>.bad)
 |.exc c S'=>.ex c ρ S'|.bad=>.bad
section
variable{X:Cx}{cl:Cf}{E:St->XK}{own:Bool}
def zny(q:tS cl E own (zm3 i j o1 f1 o2 f2) De σ H):zwC i j (zpv (tO cl E o1 f1) (zpv (tO cl E o2 f2) zuj)) De σ H:=by
 obtain⟨B,w,ρ,S,rfl,R,q⟩:=q;unfold zm3 at q
 cases o1 with
 |false=>
  refine⟨B,w,ρ,S,rfl,R,?_⟩
  cases h1:f1 ρ S with
  |bad=>rwa[h1]at q|exc c S1=>rw[h1]at q;exact fun w' R' F'=>q σ w' R' F'|ok d1 S1=>
   rw[h1]at q;dsimp only at q;intro v w1 R1 F1 sh1
   cases o2 with
   |false=>
    refine⟨B,w1,ρ,S1,rfl,R1,?_⟩
    cases h2:f2 ρ S1 with
    |bad=>rwa[h2]at q|exc c S2=>rw[h2]at q;exact fun w' R' F'=>q σ w' R' (F1.trans F')|ok d2 S2=>
     rw[h2]at q;intro v2 w2 R2 F2 sh2;exact⟨v,v2,rfl,q _ w2 ((R2.put (sh1.up F2)).put sh2) (F1.trans F2)⟩
   |true=>
    refine⟨B,w1,ρ,S1,rfl,R1,?_⟩
    cases h2:f2 ρ S1 with
    |bad=>rwa[h2]at q|exc c S2=>rw[h2]at q;exact fun w' R' F'=>q σ w' R' (F1.trans F')|ok d2 S2=>
     rw[h2]at q;intro p2 u2 w2 R2 F2 hp2 t2;exact⟨v,.ref p2,rfl,q _ (w2.addAs p2 u2 (.slot j)) ((R2.put (sh1.up F2)).own hp2 t2) (F1.trans (F2.trans (zbP hp2)))⟩
 |true=>
  refine⟨B,w,ρ,S,rfl,R,?_⟩
  cases h1:f1 ρ S with
  |bad=>rwa[h1]at q|exc c S1=>rw[h1]at q;exact fun w' R' F'=>q σ w' R' F'|ok d1 S1=>
   rw[h1]at q;dsimp only at q;intro p u w1 R1 F1 hp t1;have Rh:=R1.hold (o:=u) hp;have fa:=zbP (w:=w1) (p:=p) (o:=u) (r:=.far) hp
   have hB:B.Fr p=none:=by
    cases z:B.Fr p with
    |none=>rfl|some x=>have:=(R1.wd.fr p x z).1;rw[hp]at this;cases this
   cases o2 with
   |false=>
    refine⟨B.hold p u,w1.addAs p u .far,ρ,S1,rfl,Rh,?_⟩
    cases h2:f2 ρ S1 with
    |bad=>rwa[h2]at q|exc c S2=>rw[h2]at q;exact fun w' R' F'=>q σ w' (R'.unhold hB) (F1.trans (fa.trans F'))|ok d2 S2=>
     rw[h2]at q;intro v2 w2 R2 F2 sh2;have hpp:=R2.wd.fr p u (show(if p=p then some u else B.Fr p)=some u from if_pos rfl)
     have hfar:w2.ow p≠none:=by rw[hpp.2,show(B.hold p u).fw p=some Root.far from if_pos rfl];exact yaF _
     have fc:=zfl (w:=w2) (p:=p) (r:=.slot i) hfar;exact⟨.ref p,v2,rfl,q _ (w2.claim p (.slot i)) ((R2.claim hB (t1.up (fa.trans F2))).put (sh2.up fc)) (F1.trans (fa.trans (F2.trans fc)))⟩
   |true=>
    refine⟨B.hold p u,w1.addAs p u .far,ρ,S1,rfl,Rh,?_⟩
    cases h2:f2 ρ S1 with
    |bad=>rwa[h2]at q|exc c S2=>rw[h2]at q;exact fun w' R' F'=>q σ w' (R'.unhold hB) (F1.trans (fa.trans F'))|ok d2 S2=>
     rw[h2]at q;intro p2 u2 w2 R2 F2 hp2 t2;have hpp:=R2.wd.fr p u (show(if p=p then some u else B.Fr p)=some u from if_pos rfl)
     have hfar:w2.ow p≠none:=by rw[hpp.2,show(B.hold p u).fw p=some Root.far from if_pos rfl];exact yaF _
     have fc:=zfl (w:=w2) (p:=p) (r:=.slot i) hfar;exact⟨.ref p,.ref p2,rfl,q _ ((w2.claim p (.slot i)).addAs p2 u2 (.slot j)) ((R2.claim hB (t1.up (fa.trans F2))).own (w:=w2.claim p (.slot i)) hp2 (t2.up fc)) (F1.trans (fa.trans (F2.trans (fc.trans (zbP (w:=w2.claim p (.slot i)) hp2)))))⟩
end
noncomputable def zlW:Expr->Bool|.ListComp _ _ _ _=>true|.SetComp _ _ _ _=>true|.DictComp _ _ _ _ _=>true|_=>false
def zdU(h:zlW e=false):swapsWith e t l env=pure false:=by
 cases e<;>first|rfl|cases h
structure Gd(cl:Cf)(G:Genv)(k:Nat)(X:Cx)(nm:Names)(N:List Str)(E:St->XK):Prop where
 gx:Gx cl G k X nm N E
 kind:X.env.scope.kind=.function
 sc:X.env.scope.names=nm
 own:PassesOwn (model X.prog X.w) X.A X.env X.xe
 raises:zmG X E
def zcO:Nat->Names->List Str->Expr->List Nat
 |0,_,_,_=>[]|n+1,nm,N,e=>
  let rc:=zcO n nm N
  let op:=fun(e:Expr)=>match e with|.Name _ _=>[]|e=>rc e
  match e with
  |.Name x _=>(ziZ nm N x).toList|.Tuple es _ _=>es.flatMap rc|.List es _=>es.flatMap rc|.BinOp a _ b _=>op a++op b|.UnaryOp _ a _=>rc a|.BoolOp _ es _=>es.flatMap rc|.Compare a _ bs _=>op a++bs.flatMap op|.IfExp c a b _=>rc c++rc a++rc b|.Subscript a (.Slice lo hi _ _) _=>op a++lo.toList.flatMap op++hi.toList.flatMap op|.Subscript a i _=>op a++op i|.Call (.Name f _) args [] _=>if(zt1 f).isSome||decide (f="isinstance")then args.flatMap op else args.flatMap rc
  |.Call (.Attribute o _ _) args [] _=>op o++args.flatMap rc|.Dict _ _ _=>[]|.Attribute o _ _=>op o|.ListComp _ [g] scope _=>rc g.iter++(zbC scope.names N).map (·.2)|.Lambda _ _ scope _=>(zbC scope.names N).map (·.2)|_=>[]
def zgh(t:Tg)(f:Fe):Fs:=fun ρ S=>match f ρ S with
 |.ok d S'=>(match t.put ρ d with|some ρ'=>.nx ρ' S'|none=>.bad)
 |.exc c S'=>.ex c ρ S'|.bad=>.bad
noncomputable def znz(nm:Names)(x y:Str)(px py:Pos)(a b:Expr):Bool:=
 decide (nm.lookup x=some .local)&&decide (nm.lookup y=some .local)&&decide (px.line=py.line)&&!decide (x=y)&&zbx a&&zbx b&&!([a,b].all (foldedForSure 8))&&!([a,b].all (constantsAlone 8))
def zqh(n:Nat)(own:Bool)(nm:Names)(N:List Str):Stmt->List Nat
 |.Assign [_] e _=>zcO n nm N e|.Expr (.Call (.Attribute _ _ _) args [] _) _=>args.flatMap (zcO n nm N)|.Expr e _=>zcO n nm N e|.Return (some (.Name x p)) _=>if own then[]else zcO n nm N (.Name x p)
 |.Return (some e) _=>zcO n nm N e|.If c _ _ _=>zcO n nm N c|.For _ it _ _ _=>zcO n nm N it|.While c _ _ _=>zcO n nm N c|_=>[]
structure Ds(G:Genv)(nm:Names)(N:List Str)(own:Bool)(st:Stmt)where
 f:Fs
 ok:∀{cl k X E},Gd cl G k X nm N E->PS X st (tS cl E own f)
structure Dss(G:Genv)(nm:Names)(N:List Str)(own:Bool)(b:List Stmt)where
 f:Fs
 ok:∀{cl k X E},Gd cl G k X nm N E->PSs X b (tS cl E own f)
noncomputable def ztt:Expr->Bool|.Tuple _ _ _=>true|_=>false
section
variable{cl:Cf}{G:Genv}{k:Nat}{X:Cx}{nm:Names}{N:List Str}{E:St->XK}{own:Bool}
def zmB(q:tS cl E own (zgh t f) De σ H):zrm (tE cl E f) (tG cl n t) De σ H:=by
 obtain⟨B,w,ρ,S,rfl,R,q⟩:=q;refine⟨B,w,ρ,S,rfl,R,?_⟩;unfold zgh at q
 cases hf:f ρ S with
 |bad=>rwa[hf]at q|exc c S1=>rw[hf]at q;exact fun w' R' F'=>q σ w' R' F'|ok d S1=>
  rw[hf]at q;intro v w' R' F' h';dsimp only at q
  cases hp:t.put ρ d with
  |none=>rw[hp]at q;exact q.elim|some ρ'=>rw[hp]at q;exact⟨B,w',ρ,S1,d,ρ',rfl,R',h',hp,fun σ' _ _ R2=>q σ' w' R2 F'⟩
def zsz(hk:X.env.scope.kind=.function)(hs:X.env.scope.names=nm)(h:znz nm x y px py a b=true):
  swappedStores [.Tuple [.Name x px,.Name y py] kt pt] (.Tuple [a,b] k2 pt2) X.env=pure (some [x,y]):=by
 unfold znz at h;simp only[yaa,yaT,yaG,ycl]at h;obtain⟨⟨⟨⟨⟨⟨⟨h1,h2⟩,h3⟩,h4⟩,h5⟩,h6⟩,h7⟩,h8⟩:=h
 have hb:X.env.blockKind=.function:=by unfold Env.blockKind;rw[hk];rfl
 have k1:X.env.kindOf x=some .local:=by unfold Env.kindOf;rw[hs];exact h1
 have k2':X.env.kindOf y=some .local:=by unfold Env.kindOf;rw[hs];exact h2
 have st:([a,b].any fun|.Starred ..=>true|_=>false)=false:=by
  rw[List.any_eq_false];intro e he
  have hp:zbx e=true:=by
   rcases yat.mp he with z|z
   ·rw[z];exact h5
   ·rw[yaK.mp z];exact h6
  cases e<;>first|(cases hp;done)|(intro z;cases z)
 have ed:[x,y].eraseDups.length=2:=by
  have:(y==x)=false:=by rw[ya4];exact fun z=>h4 z.symm
  simp[List.eraseDups_cons,this]
 unfold swappedStores;simp only[hb,st];simp[k1,k2',h3,h7,h8,ed,show(Expr.Name x px).pos=px from rfl,show(Expr.Name y py).pos=py from rfl];intro z;exfalso
 rcases z with z|z
 ·cases a<;>first|(cases h5;done)|cases z
 ·cases b<;>first|(cases h6;done)|cases z
def zrK:swapsWithSole [.Subscript a i p] e l env=pure false:=by cases e<;>rfl
def zrP:swappedStores [.Subscript a i p] e env=pure none:=by cases e<;>rfl
def zrJ:swapsWithSole [.Tuple es kk p] e l env=pure false:=by cases e<;>rfl
def zrO(h:ztt e=false):swappedStores [.Tuple es kk p] e env=pure none:=by cases e<;>first|rfl|cases h
def zor:swapsWith e (some (.Attribute o f p)) l env=pure false:=by cases e<;>rfl
def zob(g:Gd cl G k X nm N E)(i:Ti G nm N N.length x)(c:Dc G nm N elt gg scope):
  PS X (.Assign [.Name x px] (.ListComp elt [gg] scope p) pos) (tS cl E own (zcc i.i true c.f)):=by
 obtain⟨a1,a2,a3,a4,a5⟩:=i.ok g.gx;obtain⟨b,hb⟩:∃b,swapsWith (.ListComp elt [gg] scope p) (some (.Name x px)) pos.line X.env=pure b:=⟨_,rfl⟩
 cases b with
 |false=>exact zh2 a2 a3 a4 (c.n g.gx) hb a5|true=>
  obtain⟨it,t,c',el,e,eg,S,i1,i2,i3,i4,i5⟩:=c.ok g.gx;rw[e];rw[eg]at hb ⊢;refine PS.imp (zni g.gx.calm S a2 a3 a4 i1 i3 i4 i5 hb a5 (zgn i2)) ?_;intro De σ H q;exact zo9 (zt5 q)
end
section
variable{G:Genv}(rc:Rec G){nm:Names}{N:List Str}{own:Bool}
noncomputable def zzh(nm:Names)(N:List Str)(x:Str)(px pos:Pos):∀e,Option (Ds G nm N own (.Assign [.Name x px] e pos))
 |.ListComp elt [gg] scope p=>(tgI G nm N N.length x).bind fun i=>(ztQ rc nm N elt gg scope).map fun c=>⟨zcc i.i true c.f,fun g=>zob g i c⟩|e=>gd (!zlW e) fun hc=>(tgI G nm N N.length x).bind fun i=>(rc nm N e).map fun a=>⟨zcc i.i a.o a.f,fun g=>by
   obtain⟨a1,a2,a3,a4,a5⟩:=i.ok g.gx;have b:=a.ok g.gx
   cases ho:a.o with
   |false=>exact zov a2 a3 a4 b.2.1 (zdU ((yaG _).mp hc)) a5|true=>exact zh2 a2 a3 a4 (b.1 ho) (zdU ((yaG _).mp hc)) a5⟩
def zt6(nm:Names)(N:List Str)(es:List Expr)(kt:Nat)(pt pos:Pos)(e:Expr)(sw:∀{cl k X E},Gd cl G k X nm N E->swappedStores [.Tuple es kt pt] e X.env=pure none):Option (Ds G nm N own (.Assign [.Tuple es kt pt] e pos)):=(tgG G nm N N.length (.Tuple es kt pt)).bind fun t=>(rc nm N e).map fun a=>⟨zgh t.t a.f,fun g=>PS.imp (zoH (a.ok g.gx).2.1 (t.ok g.gx) zrJ (sw g) rfl) fun _ _ _ q=>zmB q⟩
noncomputable def zrC{X:Cx}{cl:Cf}{E:St->XK}{e:Expr}{o:Bool}{f:Fe}(h:(o=true->PE X e (tN cl E f))/\PE X e (tE cl E f)):PE X e (tO cl E o f):=by
 cases o with
 |false=>exact h.2|true=>exact h.1 rfl
def zyn(nm:Names)(N:List Str)(kt k2:Nat)(pt p2 pos:Pos):∀es vs,Option (Ds G nm N own (.Assign [.Tuple es kt pt] (.Tuple vs k2 p2) pos))
 |[.Name x px,.Name y py],[a,b]=>gd (znz nm x y px py a b) fun hp=>(tgI G nm N N.length x).bind fun i=>(tgI G nm N N.length y).bind fun j=>gd (!decide (i.i=j.i)) fun hij=>(rc nm N a).bind fun fa=>(rc nm N b).map fun fb=>⟨zm3 i.i j.i fa.o fa.f fb.o fb.f,fun g=>by
   have hij:=of_decide_eq_false ((yaG _).mp hij);obtain⟨_,a2,a3,_,_⟩:=i.ok g.gx;obtain⟨_,_,b3,_,_⟩:=j.ok g.gx;have P:=fa.ok g.gx;have Q:=fb.ok g.gx
   have hx:nm.lookup x=some .local/\nm.lookup y=some .local:=by
    unfold znz at hp;simp only[yaa,yaT]at hp;exact⟨hp.1.1.1.1.1.1.1,hp.1.1.1.1.1.1.2⟩
   rw[<-g.sc]at hx
   exact PS.imp (zsm g.gx.calm a2 a3 b3 hij hx.1 hx.2 (zba (zrC ⟨P.1,P.2.1⟩) (zba (zrC ⟨Q.1,Q.2.1⟩) zcg (zbd (zay fb.q))) (zbd (zay fa.q))) (zsz g.kind g.sc hp) rfl) fun _ _ _ q=>zny q⟩
 |_,_=>none
def zzg(nm:Names)(N:List Str)(es:List Expr)(kt:Nat)(pt pos:Pos):∀e,Option (Ds G nm N own (.Assign [.Tuple es kt pt] e pos))
 |.Tuple vs k2 p2=>if h:zv3 nm es=true then zt6 rc nm N es kt pt pos _ fun g=>zrd g.sc h else zyn rc nm N kt k2 pt p2 pos es vs
 |e=>gd (!ztt e) fun h=>zt6 rc nm N es kt pt pos e fun _=>zrO ((yaG _).mp h)
def zzj(nm:Names)(N:List Str)(x f:Str)(p ap pos:Pos):∀e,Option (Ds G nm N own (.Assign [.Attribute (.Name x p) f ap] e pos))
 |.List [] _=>gd (G.ob.fk G.ob.cur f&&zs4 f) fun hf=>(slO G nm N x).map fun s=>⟨zfD G.ob.cur f s.i,fun g=>by
   obtain⟨s1,s2,s3,s4⟩:=s.ok g.gx
   exact zpF s1 s2 s3 s4 g.gx.same (g.gx.gok.fk _ _ ((yaa _ _).mp hf).1) rfl⟩
 |.Dict [] [] _=>gd (G.ob.fk G.ob.cur f&&zo6 f) fun hf=>(slO G nm N x).map fun s=>⟨zk2 G.ob.cur f s.i,fun g=>by
   obtain⟨s1,s2,s3,s4⟩:=s.ok g.gx
   exact zpG s1 s2 s3 s4 g.gx.same (g.gx.gok.fk _ _ ((yaa _ _).mp hf).1) rfl⟩
 |e=>gd (G.ob.fk G.ob.cur f) fun hf=>if zo6 f then(slO G nm N x).bind fun s=>(rc nm N e).bind fun a=>gd a.o fun ho=>some ⟨zjP G.ob.cur f s.i a.f,fun g=>by
   obtain⟨s1,s2,s3,s4⟩:=s.ok g.gx
   exact zpD s1 s2 s3 s4 g.gx.kk (g.gx.gok.fk _ _ hf) ((a.ok g.gx).1 ho) zor⟩
  else(rc nm N (.Name x p)).bind fun fo=>(rc nm N e).map fun a=>⟨zk1 G.ob.cur f fo.f a.f,fun g=>zpE g.gx.same (g.gx.gok.fk _ _ hf) (fo.ok g.gx).2.1 (a.ok g.gx).2.1 zor⟩
structure Ix(ix:Expr):Type where
 ok:∀(env:PySem.Env) (x:Str) (p p3:Pos) (v:Value),assign (.Subscript (.Name x p) ix p3) env v=(do
   let ov ← holding [v] (eval (.Name x p) env)
   let iv ← holding [v,ov] (eval ix env)
   standAt p3
   holding [v,ov,iv] (setItem ov iv v)
   release [v,ov,iv] [])
noncomputable def ixA:∀ix,Option (Ix ix)|.Name _ _=>some ⟨fun _ _ _ _ _=>rfl⟩|.Subscript _ _ _=>some ⟨fun _ _ _ _ _=>rfl⟩|.Call _ _ _ _=>some ⟨fun _ _ _ _ _=>rfl⟩|_=>none
noncomputable def zyl(nm:Names)(N:List Str)(ix e:Expr)(p3 pos:Pos):∀b,Option (Ds G nm N own (.Assign [.Subscript b ix p3] e pos))
 |.Name x _=>(ixA ix).bind fun h=>(slO G nm N x).bind fun s=>(rc nm N ix).bind fun k=>(rc nm N e).map fun a=>⟨zdJ s.i k.f a.f,fun g=>by
   obtain⟨s1,s2,s3,s4⟩:=s.ok g.gx
   exact zpA (g.gx.un (by decide)) s1 s2 s3 s4 (k.ok g.gx).2.1 (a.ok g.gx).2.1 zrK zrP (h.ok _ _ _ _)⟩
 |_=>none
noncomputable def zdv(nm:Names)(N:List Str)(b:Expr)(p3 pos:Pos):∀ix e,Option (Ds G nm N own (.Assign [.Subscript b ix p3] e pos))
 |.Name y _,.Name z _=>(faG G nm N b).bind fun t=>gd (zo6 t.f) fun _=>(slO G nm N y).bind fun s=>(slO G nm N z).map fun l=>⟨zjN G.ob.cur t.f t.i (zbI s.i) (zbI l.i),fun g=>by
   obtain⟨i,f,ok⟩:=t;obtain⟨x,p,ap',rfl,s1,s2,s3,s4,fk⟩:=ok g.gx
   exact zpB s1 s2 s3 s4 g.gx.same fk rfl (g.gx.un (by decide)) (s.v g.gx).2.2 (l.v g.gx).2.2 rfl⟩
 |_,_=>none
def zzi(nm:Names)(N:List Str)(e:Expr)(pos:Pos):∀tg,Option (Ds G nm N own (.Assign [tg] e pos))
 |.Name x px=>zzh rc nm N x px pos e|.Tuple es kt pt=>zzg rc nm N es kt pt pos e|.Attribute (.Name x p) f ap=>zzj rc nm N x f p ap pos e|.Subscript b i p3=>(zdv nm N b p3 pos i e).or (zyl rc nm N i e p3 pos b)|_=>none
def zxq(nm:Names)(N:List Str)(pos:Pos)(e:Expr):Option (Ds G nm N own (.Expr e pos)):=gd (!zlW e) fun hc=>(rc nm N e).map fun a=>⟨zkm a.f,fun g=>zrS (a.ok g.gx).2.1 (zdU ((yaG _).mp hc))⟩
noncomputable def zzk(nm:Names)(N:List Str)(m:Str)(ap cp pos:Pos)(a:Expr):∀o,Option (Ds G nm N own (.Expr (.Call (.Attribute o m ap) [a] [] cp) pos))
 |.Name x _=>gd (decide (m="append")&&(ap.endLine==cp.line)) fun hc=>(slO G nm N x).bind fun s=>(rc nm N a).map fun fa=>⟨zoA s.i fa.f,fun g=>by
   rw[yaa]at hc;obtain rfl:=yaj hc.1;obtain⟨s1,s2,s3,s4⟩:=s.ok g.gx
   exact zrT s1 s2 s3 s4 (fa.ok g.gx).2.1 (zay fa.q) hc.2⟩
 |_=>none
def zzl(nm:Names)(N:List Str)(m:Str)(ap cp pos:Pos)(o:Expr):∀a,Option (Ds G nm N own (.Expr (.Call (.Attribute o m ap) [a] [] cp) pos))
 |.Tuple es kk p2=>gd (decide (m="append")&&(ap.endLine==cp.line)) fun hc=>(faG G nm N o).bind fun t=>gd (zs4 t.f) fun _=>(quL G nm N es).map fun gs=>⟨zjQ G.ob.cur t.f t.i gs.gs,fun g=>by
   rw[yaa]at hc;obtain rfl:=yaj hc.1;obtain⟨i,f,ok⟩:=t;obtain⟨x,p,ap',rfl,s1,s2,s3,s4,fk⟩:=ok g.gx
   exact zpH s1 s2 s3 s4 g.gx.same fk rfl (gs.ok g.gx) rfl hc.2⟩
 |a=>gd (decide (m="append")&&(ap.endLine==cp.line)) fun hc=>(faG G nm N o).bind fun t=>gd (zs4 t.f) fun _=>(quG G nm N a).map fun q=>⟨zm5 G.ob.cur t.f t.i q.q,fun g=>by
   rw[yaa]at hc;obtain rfl:=yaj hc.1;obtain⟨i,f,ok⟩:=t;obtain⟨x,p,ap',rfl,s1,s2,s3,s4,fk⟩:=ok g.gx
   exact zpI s1 s2 s3 s4 g.gx.same fk rfl (q.ok g.gx) rfl q.pl hc.2⟩
def zvR(nm:Names)(N:List Str)(pos:Pos):∀e,Option (Ds G nm N own (.Expr e pos))
 |.Call (.Attribute o m ap) [.Name y py,.Constant .none j p2] [] cp=>gd (decide (m="pop")&&(ap.endLine==cp.line)) fun hc=>(faG G nm N o).bind fun t=>gd (zo6 t.f) fun _=>(slO G nm N y).map fun s=>⟨zjO G.ob.cur t.f t.i (zbI s.i),fun g=>by
   rw[yaa]at hc;obtain rfl:=yaj hc.1;obtain⟨i,f,ok⟩:=t;obtain⟨x,p,ap',rfl,s1,s2,s3,s4,fk⟩:=ok g.gx
   exact zpC s1 s2 s3 s4 g.gx.same fk rfl (s.v g.gx).2.2 ⟨rfl,rfl,hc.2,rfl⟩⟩
 |.Call (.Attribute o m ap) [a] [] cp=>(zzl nm N m ap cp pos o a).or ((zzk rc nm N m ap cp pos a o).or (zxq rc nm N pos _))|e=>zxq rc nm N pos e
def zyd(nm:Names)(N:List Str)(e:Expr)(pos:Pos):∀own,Option (Ds G nm N own (.Return (some e) pos))
 |true=>(match e with
  |.Name x _=>(slO G nm N x).map fun s=>⟨zjM s.i,fun g=>by
    obtain⟨s1,s2,s3,s4⟩:=s.ok g.gx
    exact zpy s1 s2 s3 s4⟩
  |e=>(rc nm N e).bind fun a=>gd a.o fun ho=>some ⟨za6 a.f,fun g=>zpz ((a.ok g.gx).1 ho)⟩)
 |false=>(rc nm N e).map fun a=>⟨za6 a.f,fun g=>zkM (a.ok g.gx).2.1⟩
def zu8{cl k X E}{c:Str}{args:List Expr}{p cp pos:Pos}(g:Gd cl G k X nm N E)(h:zbB nm c=true)(hx:G.exc c=true)(hne:args.isEmpty=false)(a:DL G nm N args):PS X (.Raise (some (.Call (.Name c p) args [] cp)) none pos) (tS cl E own (sRz c a.fs)):=by
 cases args with
 |nil=>cases hne|cons e es=>
 obtain⟨m,z⟩:=g.gx.gok.exc c hx;have a2:=a.q;rw[ya3,yaa]at a2;refine PS.imp (zlh g.raises g.gx.calm (g.gx.glob h).1 m z (a.ok g.gx) (zbd a2.1) (zbN a2.2) (g.gx.glob h).2.1) ?_;rintro De σ H ⟨B,w,ρ,S,rfl,R,q⟩;refine⟨B,w,ρ,S,rfl,R,?_⟩;unfold sRz at q
 cases hv:zas a.fs ρ S with
 |bad=>rwa[hv]at q|exc c S1=>rw[hv]at q;exact fun w' R' F'=>q σ w' R' F'|ok ds S1=>
  rw[hv]at q;dsimp only at q
  cases hz:zaD ds.length with
  |false=>rw[hz,if_neg (by decide)]at q;exact q.elim
  |true=>
   rw[hz,if_pos rfl]at q;exact fun vs w' R' F' sh=>⟨by rw[sh.length];exact zaQ hz,q σ w' R' F'⟩
def stG(rs:∀b,Option (Dss G nm N own b)):∀st,Option (Ds G nm N own st)
 |.Assign [tg] e p=>zzi rc nm N e p tg|.Expr e p=>zvR rc nm N p e|.Return (some e) p=>zyd rc nm N e p own|.If c a b _=>gd (zcK c) fun ht=>(rc nm N c).bind fun fc=>(rs a).bind fun fa=>(rs b).map fun fb=>⟨sIf fc.f fa.f fb.f,fun g=>zrQ ((fc.ok g.gx).2.2 ht) (fa.ok g) (fb.ok g)⟩|.For tg it body [] _=>(zts rc nm N tg it).bind fun i=>(tgG G nm N N.length tg).bind fun t=>(rs body).map fun b=>⟨zkl t.t i.f b.f,fun g=>zrR g.own g.gx.calm (i.ok g.gx) (t.ok g.gx) (b.ok g) (zgn i.q)⟩|.Raise (some (.Call (.Name c _) args [] _)) none _=>gd (zbB nm c&&G.exc c&&!args.isEmpty) fun hc=>(shL rc nm N args).map fun a=>⟨sRz c a.fs,fun g=>by
   simp only[yaa,yaG]at hc
   exact zu8 g hc.1.1 hc.1.2 hc.2 a⟩
 |_=>none
end
def blk{G:Genv}{nm:Names}{N:List Str}{own:Bool}(ds:∀st,Option (Ds G nm N own st)):∀b,Option (Dss G nm N own b)
 |[]=>some ⟨sNx,fun _=>ziX⟩|s::r=>(ds s).bind fun f=>(blk ds r).map fun h=>⟨zak f.f h.f,fun g=>zec (f.ok g) (h.ok g)⟩
def ztL(G:Genv)(nm:Names)(N:List Str)(own:Bool):Nat->∀st,Option (Ds G nm N own st)
 |0=>fun _=>none|n+1=>fun st=>(stG (zvX G n) (blk (ztL G nm N own n)) st).map fun a=>⟨sFz (zqh n own nm N st) a.f,fun g=>zuZ _ (a.ok g)⟩
noncomputable def zbc(nN:Nat)(own:Bool)(fs:Fs)(ds:List D)(S:Sto):Out D:=match fs (ds.map (fun d=>some (false,d))++List.replicate (nN-ds.length) none) S with
 |.rt d S'=>.ok d S'|.nx _ S'=>if own then .bad else .ok .non S'
 |.ex c _ S'=>.exc c S'|_=>.bad
def zf2(G:Genv)(own:Bool)(N:List Str)(st:Stmt):Option Fs:=(blk (ztL G (zam st).names N own 40) (zaP st)).map Dss.f
def zo7{cl k X E}{G:Genv}{own:Bool}{N:List Str}{st:Stmt}{f:Fs}(h:zf2 G own N st=some f)(g:Gd cl G k X (zam st).names N E):PSs X (zaP st) (tS cl E own f):=by
 obtain⟨a,_,rfl⟩:=yaD.mp h;exact a.ok g
section
variable{cl:Cf}
theorem ziA{fs:Fs}{own:Bool}{n:Nat}{N:List Str}{vs:List V}{H:Hp}{Q:VK}{X:XK}(hsp:zgP cl n own (zbc N.length own fs) vs H Q X):tS cl (fun _=>X) own fs {nx:=fun _ H'=>Q .non H',rt:=Q} (L2.zdE N vs) H:=by
 obtain⟨hl,B,w,ds,S0,rfl,W,sh,q⟩:=hsp;have hdl:ds.length=vs.length:=sh.length.symm;refine⟨B,w,ds.map (fun d=>some (false,d))++List.replicate (N.length-ds.length) none,S0,rfl,⟨W,?_,fun i o d hi=>?_⟩,?_⟩
 ·unfold L2.zdE;rw[yah,yah,yab,yab,yaS,yaS,hdl]
 ·by_cases hlt:i<ds.length
  ·rw[yaE (by rw[yab];exact hlt),yau]at hi
   cases hdi:ds[i]? with
   |none=>rw[hdi]at hi;cases hi|some d'=>
    rw[hdi]at hi;cases hi;obtain⟨v,e1,e2⟩:=sh.at hdi;refine⟨v,?_,e2⟩;unfold L2.zdE;rw[yaE (by rw[yab];omega),yau,e1];rfl
  ·rw[yax (by rw[yab];omega),ybv]at hi
   split at hi<;>cases hi
 ·unfold zbc at q
  cases hf:fs (ds.map (fun d=>some (false,d))++List.replicate (N.length-ds.length) none) S0 with
  |bad=>rwa[hf]at q|bk _ _=>rw[hf]at q;exact q.elim|ct _ _=>rw[hf]at q;exact q.elim|rt d S'=>rwa[hf]at q|ex c ρ' S'=>rw[hf]at q;exact fun σ' w' R' F'=>q w' R'.wd F'|nx ρ' S'=>
   rw[hf]at q;dsimp only at q
   cases own with
   |true=>exact q.elim|false=>exact fun σ' w' R' F'=>q .non w' R'.wd F' .non
end
theorem zq2{P:Program}{wo:PySem.World}{K:PySem.W.Frag}{mg:Z6}{base:Heap}{cl:Cf}{G:Genv}{k:Nat}{x qual:Str}{st:Stmt}{f:Addr}{fd:FuncData}{N ps:List Str}{own:Bool}{fs:Fs}(F:Fun K x qual st f fd)(S:FnScope N ps (zam st))(hG:GOk cl G P wo K mg base k)
  (hk:K=cl.K) (hP:P=cl.P) (hW:wo=cl.wo) (hd:zf2 G own N st=some fs) (hc:autoParam (G.cod=none) yAW):FnOk P wo K mg base (CXE P wo) (k+1) f fd ps (zgP cl ps.length own (zbc N.length own fs)):=by
 obtain⟨oc,od,kV,doc,pm,an,cdv,ct,osl,rfl,lk,hcd⟩:=F.ex;refine ztx lk hcd S (fun vs H Q E h=>h.1) fun A outer s H vs Q E hr hsp=>⟨tS cl (fun _=>E) own fs,zo7 hd (k:=k) ⟨⟨hG,hr,rfl,fun pins σ H1 s1 e s' I q=>zsy pins σ H1 s1 e s' I q,rfl,hk,hP,hW,S.nd,fun x kd h=>⟨kd,h,.inl rfl⟩,(fun x h=>h),(fun c h=>by rw[hc]at h;cases h),(fun x h=>rfl)⟩,S.kind,rfl,PassesOwn.leaving,fun C pins σ H1 s1 e h' vs I mk q=>zlf C pins σ H1 s1 e h' vs I mk q⟩,ziA hsp⟩
noncomputable def inC(j:Nat):Stmt->Stmt|.ClassDef _ _ _ b ..=>b.getD j (.Pass ⟨0,0,0,0⟩)|s=>s
end S2
namespace L2
open PySem PySem.Spec PyProof.Rows
noncomputable def zom(tabs:List (Addr×Addr))(H:Hp):Prop:=∀b,H b=none\/(∃o xs,H b=some (.frz o (.lst xs)))\/(H b=some (.tbl #[])/\b∈tabs.map (·.2))
def zlH{P:Program}{w:World}{K:PySem.W.Frag}{mg mb:Z6}{CX:CXT}{k:Nat}{fa a:Addr}{fd:FuncData}{x:Str}{sp:Sp}{s₁:Shared}{vs:List Value}{ns:List Int}{tabs:List (Addr×Addr)}
  (KX:K.In s₁.heap) (hns:s₁.heap.Ns mainGlobals mg) (hb:s₁.heap.Ns builtinsNs mb) (hbb:∀x:Str,x ≠ "__name__" -> mb x=bootBuiltins x) (hlim:s₁.heap.NoLimit) (hg:s₁.gens=#[])
  (ha:s₁.heap.get? a=some {cls:=.type "list",data:=.seq vs.toArray}) (hi:IntsAre vs ns) (hl:ns.length<=sizeLine) (hr:Room k callerA)
  (hT:PySem.W.TabsAt tabs s₁.heap) (hnt:PySem.W.noTabs K=true) (hbm:zoo mg s₁.heap)
  (F:∀base:Heap,K.In base->base.Ns mainGlobals mg->zoo mg base->(∀q∈tabs,PySem.W.CodeHd base q.1 q.2)->FnOk P w K mg base CX k fa fd [x] sp) (hbind:∀(s:Shared) (u:Value),BindsTo s fd ⟨[u],[]⟩ [(x,u)])
  (hsp:∀H:Hp,zom tabs H->(∀q∈tabs,H q.2=some (.tbl #[]))->(∀q∈tabs,q.2≠a)->SqL K H a (ns.map V.int)->sp [.ref a] H (fun v _=>v=.bl true) fun _ _ _=>False)
  (hCX:∀H e s',CX [] H s₁ (fun _ _ _=>False) e s'->False):
  codeAny (model P w) callerA (.call (.ref fa) ⟨[.ref a],[]⟩) (fun r s'=>r=.ok (.ret (.bool true))/\OldK s₁.heap s'.heap/\s'.os=s₁.os/\AllBare s'.gens) s₁:=by
 have rv:=zgT hi;have lenV:=hi.length
 have tP:∀b∈tabs.map (·.2),s₁.heap.get? b=some (PySem.W.tabObj #[]):=fun b hb=>by
  obtain⟨q,hq,rfl⟩:=yag.mp hb;exact(hT q hq).2
 have na:a ∉ tabs.map (·.2):=fun z=>by have e:=tP a z;rw[ha]at e;cases e
 have tK:∀b∈tabs.map (·.2),K.lookup b=none:=fun b hb=>by
  cases e:K.lookup b with
  |none=>rfl|some o=>
   have e1:=KX b o e;rw[tP b hb]at e1;cases e1;have h2:=ybx.mp hnt _ (PySem.W.mem_of_lookupK e);exact absurd (show false=true from h2) yba
 have core:∀H:Hp,zom tabs H->(∀q∈tabs,H q.2=some (.tbl #[]))->SqL K H a (ns.map V.int)->HOk P w H s₁.heap->(∀b,H b≠none->b=a\/b∈tabs.map (·.2))->(H a≠none->K.lookup a=none) →
   codeAny (model P w) callerA (.call (.ref fa) ⟨[.ref a],[]⟩) (fun r s'=>r=.ok (.ret (.bool true))/\OldK s₁.heap s'.heap/\s'.os=s₁.os/\AllBare s'.gens) s₁:=by
  intro H hO hTb hS hok hA hK;have zcW:∀{b:Addr}{o:Obj},s₁.heap.get? b=some o->H b=none->(zl4 s₁.heap H).get? b=some o:=fun e n=>znW e n
  have noX:∀{b:Addr}{o:Obj},s₁.heap.get? b=some o->(∀its n,o.data≠.seq its n)->o≠PySem.W.tabObj #[]->H b=none:=fun {b o} e d d2=>by
   cases q:H b with
   |none=>rfl|some u=>
    rcases hA b (by rw[q];simp)with e'|e'
    ·subst e';rw[ha]at e;cases e;exact absurd rfl (d _ _)
    ·rw[tP b e']at e;cases e;exact absurd rfl d2
  have noA:∀{b:Addr}{o:Obj}{es:Array DictEntry}{ep:Nat},s₁.heap.get? b=some o->o.data=.dict es ep->H b=none:=fun {b o es ep} e d=>noX e (fun _ _ z=>by rw[d]at z;cases z) (fun z=>by rw[z]at d;cases d)
  have nsK:∀{b:Addr}{m:Z6},s₁.heap.Ns b m->(zl4 s₁.heap H).Ns b m:=fun {b m} ⟨o,es,ep,e,d,r⟩=>⟨o,es,ep,zcW e (noA e d),d,r⟩
  have hKb:K.In (zl4 s₁.heap H):=fun b o e=>zcW (KX b o e) (by
   cases q:H b with
   |none=>rfl|some u=>
    rcases hA b (by rw[q];simp)with e'|e'
    ·subst e';rw[hK (by rw[q];simp)]at e;cases e
    ·rw[tK b e']at e;cases e)
  have hBm:zoo mg (zl4 s₁.heap H):=by
   obtain⟨bm,ob,b1,b2,b3,b4,b5,b6⟩:=hbm;exact⟨bm,ob,b1,b2,zcW b3 (noX b3 (fun _ _ z=>by rw[b6]at z;cases z) (fun z=>by rw[z]at b6;cases b6)),b4,b5,b6⟩
  have hCd:∀q∈tabs,PySem.W.CodeHd (zl4 s₁.heap H) q.1 q.2:=fun q hq=>by
   obtain⟨o,us,file,tf,flags,tg,inF,text,tt,e,r1,r2,r⟩:=(hT q hq).1;exact⟨o,us,file,tf,flags,tg,inF,text,tt,zcW e (noX e (fun _ _ z=>by rw[r2]at z;cases z) (fun z=>by rw[z]at r1;cases r1)),r1,r2,r⟩
  have hM:Mod K mg (zl4 s₁.heap H):=⟨hKb,nsK hns,⟨mb,nsK hb,hbb⟩,let ⟨mc,h1,h2⟩:=hlim;⟨mc,nsK h1,h2⟩⟩;have e0:Env0 P w K mg (zl4 s₁.heap H) callerA [] s₁ H:=⟨rfl,hM,fun b o e=>zqu e,Nat.le_of_eq (zl3 _ _),trivial,fun b hb=>absurd (show b∈([]:List Addr)from hb) (by simp),hok,.of_eq hg⟩;refine ybu ((F _ hKb (nsK hns) hBm hCd).run callerA [] s₁ H ⟨[.ref a],[]⟩ [.ref a] [.ref a] _ _ hr e0 (hbind s₁ (.ref a)) (.cons rfl .nil) (hsp H hO hTb (fun q hq z=>na (z ▸ yb1 hq)) hS)) fun r s' h=>?_
  cases r with
  |error e=>exact(hCX H e s' h).elim|ok fl=>
   cases fl with
   |next=>exact False.elim h|brk=>exact False.elim h|cont=>exact False.elim h|ret u=>
    obtain⟨v,H',os,bare,un,hok',r',q⟩:=h;have q':v=.bl true:=q;subst q';obtain rfl:u=Value.bool true:=r';refine⟨rfl,⟨fun b o e=>?_,fun b o e=>un.there b o e (by simp)⟩,os,bare⟩
    cases q:H b with
    |none=>exact .inl (un.keep b o e q (by intro z;exact absurd (show b∈([]:List Addr)from z) (by simp)) (by simp))
    |some u=>
     rcases hO b with z|⟨ob,xs,z⟩|⟨z,hb⟩
     ·rw[q]at z;cases z
     ·have z2:=un.frzs b ob _ z;obtain⟨e1,_⟩:=hok b _ z;obtain⟨e2,_⟩:=hok' b _ z2;rw[e]at e1;cases e1;exact .inl e2
     ·obtain⟨more,z2⟩:=un.tbls b _ z;have e2:s'.heap.get? b=some (PySem.W.tabObj (#[]++more)):=hok' b _ z2;have e1:=tP b hb;rw[e]at e1;cases e1;obtain⟨p,hp,rfl⟩:=yag.mp hb;exact .inr (.inl ⟨((hT p hp).1.tab (hT p hp).2).isCodeTable,rfl,#[],more,rfl,e2⟩)
 have hTO:∀(H0:Hp),HOk P w H0 s₁.heap->(∀b,H0 b≠none->b=a)->HOk P w (fun b=>if b∈tabs.map (·.2)then some (.tbl #[])else H0 b) s₁.heap:=fun H0 h0 hA b u q=>by
  have q':(if b∈tabs.map (·.2)then some (HO.tbl #[])else H0 b)=some u:=q;split at q'
  ·rename_i hb;cases q';exact tP b hb
  ·refine(h0 b u q').stay (fun c v _ r=>r) (fun c r=>?_) fun c xs r=>?_
   ·show(if c∈tabs.map (·.2)then _ else H0 c)=_;rw[if_neg (fun z=>na (hA c (by rw[r];simp) ▸ z))];exact r
   ·show(if c∈tabs.map (·.2)then _ else H0 c)=_;rw[if_neg (fun z=>na (hA c (by rw[r];simp) ▸ z))];exact r
 cases hk:K.lookup a with
 |some o=>
  have e:=KX a o hk;rw[ha]at e;cases e;refine core (fun b=>if b∈tabs.map (·.2)then some (.tbl #[])else none) (fun b=>?_) (fun q hq=>if_pos (yb1 hq)) (.inr ⟨_,vs.toArray,_,hk,rfl,rfl,rfl,by rw[yaq,lenV];exact hl,by simpa using rv⟩) (hTO (fun _=>none) (fun b u z=>by have z':(none:Option HO)=some u:=z;cases z') fun b z=>absurd rfl z) (fun b z=>?_) fun z=>absurd (if_neg na) z
  ·by_cases hb:b∈tabs.map (·.2)
   ·exact .inr (.inr ⟨if_pos hb,hb⟩)
   ·exact .inl (if_neg hb)
  ·by_cases hb:b∈tabs.map (·.2)
   ·exact .inr hb
   ·exact absurd (if_neg hb) z
 |none=>
  have h0:HOk P w (fun b=>if b=a then some (.frz {cls:=.type "list",data:=.seq vs.toArray} (.lst (ns.map V.int)))else none) s₁.heap:=fun b u z=>by
   by_cases hb:b=a
   ·have z':=(if_pos hb).symm.trans z;cases z';subst hb;exact⟨ha,by rw[yab];exact hl,vs,_,rv,ha⟩
   ·have z':=(if_neg hb).symm.trans z;cases z'
  refine core (fun b=>if b∈tabs.map (·.2)then some (.tbl #[])else if b=a then some (.frz {cls:=.type "list",data:=.seq vs.toArray} (.lst (ns.map V.int)))else none) (fun b=>?_) (fun q hq=>if_pos (yb1 hq)) (.inl (.inr ⟨{cls:=.type "list",data:=.seq vs.toArray},(if_neg na).trans (if_pos rfl)⟩)) (hTO _ h0 fun b z=>?_) (fun b z=>?_) fun _=>hk
  ·by_cases hb:b∈tabs.map (·.2)
   ·exact .inr (.inr ⟨if_pos hb,hb⟩)
   ·by_cases hb2:b=a
    ·exact .inr (.inl ⟨_,_,(if_neg hb).trans (if_pos hb2)⟩)
    ·exact .inl ((if_neg hb).trans (if_neg hb2))
  ·by_cases hb:b=a
   ·exact hb
   ·exact absurd (if_neg hb) z
  ·by_cases hb:b∈tabs.map (·.2)
   ·exact .inr hb
   ·by_cases hb2:b=a
    ·exact .inl hb2
    ·exact absurd ((if_neg hb).trans (if_neg hb2)) z
def zmO{l:PySem.W.OpenLaw}{n k:Nat}{q:Program}{loose:List Str}{XP:(Str->Option Value)->Heap->Prop}{YP:World->Heap->Prop}{d:DefRec}{K:Params->PySem.W.Frag}{CX:World->CXT}{sp:World->Sp}{x:Str}{tabs:List (Addr×Addr)}
  (hn:l.most=some n) (hn2:n<=sizeLine) (hdf:d.params.defaults=[]) (hr:Room k callerA)
  (hY:∀(w:World) (h:Heap),YP w h->(K w.params).In h) (hnt:∀w:World,PySem.W.noTabs (K w.params)=true)
  (hT:∀(w:World) (mg mb:Z6) (mean:ExcName->Option Value) (h:Heap),(K w.params).In h->Top q (PySem.W.looseW q loose) mean mg mb h->PySem.W.TabsAt tabs h)
  (F:∀(w:World) (mg:Z6) (fa:Addr) (h:Heap),(K w.params).In h->h.Ns mainGlobals mg->mg d.name=some (.ref fa) →
   ∃fd:FuncData,(∀(s:Shared) (u:Value),BindsTo s fd ⟨[u],[]⟩ [(x,u)]) ∧
    ∀base:Heap,(K w.params).In base->base.Ns mainGlobals mg->zoo mg base->(∀q∈tabs,PySem.W.CodeHd base q.1 q.2)->FnOk l.prog w (K w.params) mg base (CX w) k fa fd [x] (sp w))
  (hsp:∀(w:World) (H:Hp) (a:Addr) (ns:List Int),ns.length<=n->zom tabs H->(∀q∈tabs,H q.2=some (.tbl #[]))->(∀q∈tabs,q.2≠a)->SqL (K w.params) H a (ns.map V.int)->sp w [.ref a] H (fun v _=>v=.bl true) fun _ _ _=>False)
  (hCX:∀(w:World) (H:Hp) (s:Shared) (e:Value) (s':Shared),CX w [] H s (fun _ _ _=>False) e s'->False):
  PySem.W.WalkO q loose XP YP l.row.toRowW d [] (fun f vs=>PySem.call f vs):=by
 refine Att.ziC hn hdf fun w s₀ s₁ mg mb fa o pm cd doc a vs ns G Y ho hd hcd hmg hobj hints hlen hg=>?_
 have KX:=hY w _ Y;obtain⟨fd,hb,hF⟩:=F w mg fa _ KX G.T.g hmg;exact zlH KX G.T.g G.T.b G.T.builtins G.T.nolimit hg hobj hints (yas hlen hn2) hr (hT w mg mb _ _ KX G.T) (hnt w) G.T.bmain hF hb (fun H hO hTb hne hS=>hsp w H a ns hlen hO hTb hne hS) fun H e s'=>hCX w H s₁ e s'
end L2
namespace S2
open PySem PySem.Spec PyProof.Rows L2
structure Tab where
 con:List (Str×D)
 blt:List Str
 exc:List Str
 und:List (Str×Str)
 rz:List Str
 fk:List (Str×Str)
 df:List Str
 ds:List Str
noncomputable def zut(rz exc:List Str)(c C:Str):Option Bool:=if rz.contains c then(if C="ValueError"then some true else if exc.contains C then some (decide (C=c)||decide (C="FloorError"))else none)else none
noncomputable def zkj(l:List (Str×Str))(c C:Str):Bool:=l.contains (c,C)
structure Fn3 where
 cur:Str
 fs:List (Str×FnI)
 ms:List (Str×Str×FnI)
 ks:List (Str×List D×FnI)
def Gn(T:Tab)(F:Fn3):Genv:=⟨fun x=>T.con.lookup x,fun x=>F.fs.lookup x,fun x=>T.blt.contains x,fun x=>T.exc.contains x,zkj T.und,zut T.rz T.exc,⟨F.cur,zkj T.fk,fun f=>T.df.contains f,fun m=>F.ms.lookup m,fun c=>F.ks.lookup c⟩,fun x=>T.ds.contains x,fun _=>none,none⟩
noncomputable def Fn3.fn(F:Fn3)(x:Str)(fi:FnI):Fn3:=⟨F.cur,(x,fi)::F.fs,F.ms,F.ks⟩
noncomputable def Fn3.mt(F:Fn3)(m c:Str)(fi:FnI):Fn3:=⟨F.cur,F.fs,(m,c,fi)::F.ms,F.ks⟩
noncomputable def Fn3.cls(F:Fn3)(c:Str)(dds:List D)(fi:FnI):Fn3:=⟨F.cur,F.fs,F.ms,(c,dds,fi)::F.ks⟩
noncomputable def Fn3.at(F:Fn3)(c:Str):Fn3:=⟨c,F.fs,F.ms,F.ks⟩
section
variable{cl:Cf}{T:Tab}{P:Program}{wo:PySem.World}{K:PySem.W.Frag}{mg:Z6}{base:Heap}{k:Nat}{fs:Fn3}
def zcs{α:Type}{a:α}{l:List (Str×α)}{b:α}(h:((x,a)::l).lookup y=some b):(y=x/\b=a)\/l.lookup y=some b:=by
 rw[yaB]at h
 cases e:y==x with
 |true=>rw[e]at h;cases h;exact .inl ⟨eq_of_beq e,rfl⟩|false=>rw[e]at h;exact .inr h
def zfm{α:Type}{p:α->Prop}:∀x∈([]:List α),p x:=fun _ h=>nomatch h
def zap{α:Type}{p:α->Prop}{a:α}{l:List α}(h:p a)(t:∀x∈l,p x):∀x∈a::l,p x:=fun x hx=>(yat.mp hx).elim (fun e=>e ▸ h) (t x)
theorem zho{α:Type}{a:α}:∀{l:List (Str×α)},l.lookup x=some a->(x,a)∈l
 |[],h=>by cases h
 |(y,b)::l,h=>by
  rcases zcs h with⟨rfl,rfl⟩|h
  ·exact yam
  ·exact yak _ (zho h)
noncomputable def zud(K:PySem.W.Frag)(cl:Cf)(exc:List Str)(c:Str):Prop:=PySem.W.ExcCls K (cl c)/\PySem.W.kitOne K (.ref (cl c)) (.type "ValueError")=some true/\∀C∈exc,PySem.W.kitOne K (.ref (cl c)) (.ref (cl C))=some (decide (C=c)||decide (C="FloorError"))
def zy6(hc:∀p∈T.con,∃v u,mg p.1=some u/\zaV v u/\∀w,Shd cl w v p.2)(hb:∀x∈T.blt,mg x=none)(he:∀c∈T.exc,mg c=some (.ref (cl c))/\PySem.W.excIn K (cl c) bmV "ValueError.__new__"=true)(hu:∀p∈T.und,L2.zrk K (cl p.1) (cl p.2))(hx:∀c∈T.rz,zud K cl T.exc c)(hfk:∀p∈T.fk,Cls cl.K (cl p.1)/\zcx cl.K (cl p.1) p.2):GOk cl (Gn T ⟨"",[],[],[]⟩) P wo K mg base 0 where
 fk:=fun c f h=>hfk (c,f) (by simpa using(show T.fk.contains (c,f)=true from h))
 mt:=fun m c fi h=>by cases h
 mks:=fun c dds fi h=>by cases h
 tl:=fun _ _ _ h=>by cases h
 con:=fun x d h=>hc (x,d) (zho h)
 fn:=fun x fi h=>by cases h
 blt:=fun x h=>hb x (by simpa using(show T.blt.contains x=true from h))
 exc:=fun c h=>he c (by simpa using(show T.exc.contains c=true from h))
 und:=fun c C h=>hu (c,C) (by simpa using(show T.und.contains (c,C)=true from h))
 isx:=fun c C b h=>by
  have h':zut T.rz T.exc c C=some b:=h;unfold zut at h';split at h'
  ·rename_i hc;obtain⟨x1,x2,x3⟩:=hx c (by simpa using hc);refine⟨x1,?_⟩;unfold clsV;split at h'
   ·rename_i hC;cases h';rw[if_pos hC];exact x2
   ·rename_i hC;rw[if_neg hC];split at h'
    ·rename_i hm;cases h';exact x3 C (by simpa using hm)
    ·cases h'
  ·cases h'
def GOk.add(g:GOk cl (Gn T fs) P wo K mg base k)(m:mg x=some (.ref f))(kp:PySem.W.keepIn K (.ref f)=true)(b:zcZ K fd ps [])(F:FnOk P wo K mg base (CXE P wo) (k+1) f fd ps (zgP cl fi.ar fi.own fi.run)):
  GOk cl (Gn T (fs.fn x fi)) P wo K mg base (k+1)where
 con:=g.con
 fn:=fun y fj h=>by
  rcases zcs h with⟨rfl,rfl⟩|h
  ·exact⟨f,fd,ps,m,kp,b,F⟩
  ·obtain⟨f',fd',ps',h1,h2,h3,h4⟩:=g.fn y fj h;exact⟨f',fd',ps',h1,h2,h3,h4.mono (ya6 _)⟩
 blt:=g.blt
 exc:=g.exc
 und:=g.und
 isx:=g.isx
 fk:=g.fk
 tl:=fun _ _ _ h=>by cases h
 mt:=fun m c fi h=>by
  obtain⟨f',fd',ps',h1,h2,h3,h4⟩:=g.mt m c fi h;exact⟨f',fd',ps',h1,h2,h3,h4.mono (ya6 _)⟩
 mks:=fun c dds fi h=>by
  obtain⟨f',fd',ps',dvs,ds,k',hk,z⟩:=g.mks c dds fi h;exact⟨f',fd',ps',dvs,ds,k',Nat.le_succ_of_le hk,z⟩
theorem GOk.at(g:GOk cl (Gn T fs) P wo K mg base k)(c:Str):GOk cl (Gn T (fs.at c)) P wo K mg base k:=⟨g.con,g.fn,g.blt,g.exc,g.und,g.isx,g.fk,g.mt,g.mks,fun _ _ _ h=>by cases h⟩
def GOk.up(g:GOk cl (Gn T fs) P wo K mg base k)(hk:k<=k'):GOk cl (Gn T fs) P wo K mg base k' where
 con:=g.con
 fn:=fun y fj h=>by
  obtain⟨f',fd',ps',h1,h2,h3,h4⟩:=g.fn y fj h;exact⟨f',fd',ps',h1,h2,h3,h4.mono hk⟩
 blt:=g.blt
 exc:=g.exc
 und:=g.und
 isx:=g.isx
 fk:=g.fk
 tl:=fun _ _ _ h=>by cases h
 mt:=fun m c fi h=>by
  obtain⟨f',fd',ps',h1,h2,h3,h4⟩:=g.mt m c fi h;exact⟨f',fd',ps',h1,h2,h3,h4.mono hk⟩
 mks:=fun c dds fi h=>by
  obtain⟨f',fd',ps',dvs,ds,j,hj,z⟩:=g.mks c dds fi h;exact⟨f',fd',ps',dvs,ds,j,yas hj hk,z⟩
def GOk.addM(g:GOk cl (Gn T fs) P wo K mg base k)(cc:Cls K (cl c))(hm:Meth K (cl c) m f)(b:zcZ K fd ps [])(F:FnOk P wo K mg base (CXE P wo) k f fd ps (zgP cl fi.ar fi.own fi.run)):
  GOk cl (Gn T (fs.mt m c fi)) P wo K mg base k where
 con:=g.con
 fn:=g.fn
 blt:=g.blt
 exc:=g.exc
 und:=g.und
 isx:=g.isx
 fk:=g.fk
 tl:=fun _ _ _ h=>by cases h
 mt:=fun m' c' fi' h=>by
  rcases zcs h with⟨rfl,e⟩|h
  ·cases e;exact⟨f,fd,ps,cc,hm,b,F⟩
  ·exact g.mt m' c' fi' h
 mks:=g.mks
def GOk.addK(g:GOk cl (Gn T fs) P wo K mg base k)(hk:k'+1<=k)(hm:mg c=some (.ref (cl c)))(M:Mk K (cl c) f)(b0:zcZ K fd ps [])(bD:zcZ K fd ps ds)(vd:Vals dvs ds)(sd:∀w,Shds cl w dvs dds)(F:FnOk P wo K mg base (CXE P wo) k' f fd ps (zgP cl fi.ar false fi.run)):
  GOk cl (Gn T (fs.cls c dds fi)) P wo K mg base k where
 con:=g.con
 fn:=g.fn
 blt:=g.blt
 exc:=g.exc
 und:=g.und
 isx:=g.isx
 fk:=g.fk
 tl:=fun _ _ _ h=>by cases h
 mt:=g.mt
 mks:=fun c' dds' fi' h=>by
  rcases zcs h with⟨rfl,e⟩|h
  ·cases e;exact⟨f,fd,ps,dvs,ds,k',hk,hm,M,b0,bD,vd,sd,F⟩
  ·exact g.mks c' dds' fi' h
def zmy{C:Addr}{b:List Value}{i:String}(x:PySem.W.excIn K C b i=true):(PySem.W.clsIn K C).isSome=true/\PySem.W.typeIn K (.ref C)=some (.type "type"):=by
 unfold PySem.W.excIn at x;split at x
 ·rename_i d cd sl e;refine⟨?_,?_⟩
  ·unfold PySem.W.clsIn;rw[e];rfl
  ·show(K.lookup C).map (·.cls)=_;rw[e];rfl
 ·cases x
def zgc{C:Addr}{el:Value}{ed:Option Addr}{ec:ClassData}{es:Array (Option Value)}{m:List Value}{v:Value}(lk:K.lookup C=some ⟨el,ed,.cls ec,es⟩)(mr:ec.mro=.ref C::m):PySem.W.subIn K (.ref C) v=some ((Value.ref C::m).contains v):=by
 show PySem.W.mroIn K C v=_;unfold PySem.W.mroIn PySem.W.clsIn;rw[lk];show(if ec.mro.isEmpty then none else some (ec.mro.contains v))=_;rw[mr];rfl
def zld{a b:Addr}(h:a≠b):(Value.ref a==Value.ref b)=false:=Bool.eq_false_iff.mpr fun z=>h (Value.ref.inj (yby.mp z))
theorem zqI{C F:Addr}{el:Value}{ed:Option Addr}{ec:ClassData}{es:Array (Option Value)}(lk:K.lookup C=some ⟨el,ed,.cls ec,es⟩)(mr:ec.mro=.ref C::.ref F::bmV):PySem.W.kitOne K (.ref C) (.type "ValueError")=some true:=by
 have h1:PySem.W.kitMeta "ValueError"=true:=by decide +kernel
 have h0:(Value.ref C==Value.type "ValueError")=false:=by with_unfolding_all rfl
 unfold PySem.W.kitOne PySem.W.kitCls;simp only[h0,h1,zgc lk mr];simp
def zqJ{C D F:Addr}{el:Value}{ed:Option Addr}{ec:ClassData}{es:Array (Option Value)}{b:List Value}{i:String}(lk:K.lookup C=some ⟨el,ed,.cls ec,es⟩)(mr:ec.mro=.ref C::.ref F::bmV)(x:PySem.W.excIn K D b i=true):PySem.W.kitOne K (.ref C) (.ref D)=some (decide (D=C)||decide (D=F)):=by
 by_cases h:D=C
 ·subst h;unfold PySem.W.kitOne;rw[if_pos (ybi _)];simp
 ·obtain⟨h1,h2⟩:=zmy x;have h0:=zld (fun z=>h z.symm:C≠D);unfold PySem.W.kitOne PySem.W.kitCls;simp only[h0,h1,h2,zgc lk mr];have e1:(Value.ref D==Value.ref C)=false:=zld h;simp only[ycg,e1,Bool.false_or,ybD,yc3,ybi,Bool.and_self,ycT,h,decide_false]
  by_cases h4:D=F
  ·subst h4;simp
  ·have e2:(Value.ref D==Value.ref F)=false:=zld h4;simp only[e2,Bool.false_or,h4,decide_false,Option.some.injEq]
   with_unfolding_all rfl
def zgq{c:ClassData}{C F:Addr}{m:List Value}(h:c.mro=.ref C::.ref F::m):c.mro.contains (.ref F)=true:=by
 rw[h,ycg,ycg,ybi,Bool.true_or,Bool.or_true]
def zpb{L:List (Str×Addr)}:∀{C:Str},C∈L.map (·.1)->∃a,L.lookup C=some a/\(C,a)∈L:=by
 induction L with
 |nil=>intro C h;simp at h|cons p L ih=>
  intro C h;rw[yaB]
  cases e:C==p.1 with
  |true=>exact⟨p.2,rfl,by rw[eq_of_beq e];exact yam⟩
  |false=>
   have:C∈L.map (·.1):=by
    rw[yaw,yat]at h
    rcases h with h|h
    ·rw[h]at e;simp at e
    ·exact h
   obtain⟨a,h1,h2⟩:=ih this;exact⟨a,h1,yak _ h2⟩
theorem zkO:∀{L:List (Str×Addr)},(L.map (·.2)).Nodup->∀{C c:Str}{a:Addr},(C,a)∈L->(c,a)∈L->C=c
 |[],_,_,_,_,h,_=>by simp at h
 |p::L,nd,C,c,a,h,h'=>by
  rw[yaw,ya7]at nd;rw[yat]at h h'
  rcases h with h|h<;>rcases h' with h'|h'
  ·rw[<-h']at h;exact(Prod.mk.inj h).1
  ·exact absurd (yag.mpr ⟨_,h',by rw[<-h]⟩) nd.1
  ·exact absurd (yag.mpr ⟨_,h,by rw[<-h']⟩) nd.1
  ·exact zkO nd.2 h h'
def zt9{L:List (Str×Addr)}(nd:(L.map (·.2)).Nodup){C c:Str}(hC:C∈L.map (·.1))(hc:c∈L.map (·.1)):(L.lookup C).getD 0=(L.lookup c).getD 0↔C=c:=by
 obtain⟨a,h1,h2⟩:=zpb hC;obtain⟨b,h3,h4⟩:=zpb hc;rw[h1,h3];constructor
 ·intro e;have:a=b:=e;subst this;exact zkO nd h2 h4
 ·rintro rfl;rw[h1]at h3;cases h3;rfl
def zjq{c:Str}{cl:Cf}{exc:List Str}{F:Addr}{el:Value}{ed:Option Addr}{ec:ClassData}{es:Array (Option Value)}
  (lk:K.lookup (cl c)=some ⟨el,ed,.cls ec,es⟩) (mr:ec.mro=.ref (cl c)::.ref F::bmV) (hF:cl "FloorError"=F)
  (ga:PySem.W.findIn K (.ref (cl c)) "__getattribute__"=some (some (.builtin "BaseException.__getattribute__"))) (gt:PySem.W.findIn K (.ref (cl c)) "__getattr__"=some none) (cc:PySem.W.findIn K (.ref (cl c)) "__class__"=some (some (.builtin "object.__class__")))
  (hx:∀C∈exc,PySem.W.excIn K (cl C) bmV "ValueError.__new__"=true) (hi:∀C∈exc,(cl C=cl c↔C=c)/\(cl C=cl "FloorError" ↔ C="FloorError")):zud K cl exc c:=by
 refine⟨⟨ga,gt,cc,?_,?_,_,_,_,_,lk⟩,zqI lk mr,fun C hC=>?_⟩
 ·rw[zgc lk mr];simp
 ·rw[zgc lk mr];simp
 ·rw[zqJ lk mr (hx C hC)];obtain⟨i1,i2⟩:=hi C hC;rw[hF]at i2;simp only[i1,i2]
end
noncomputable def ziY(K:PySem.W.Frag)(tabs:List (Addr×Addr)):Sp:=fun vs H Q _=>∃(a:Addr) (ns:List Int),vs=[.ref a]/\ns.length<=63/\zom tabs H/\(∀q∈tabs,H q.2=some (.tbl #[]))/\(∀q∈tabs,q.2≠a)/\SqL K H a (ns.map V.int)/\∀H',Q (.bl true) H'
def zqD{cl:Cf}{tabs:List (Addr×Addr)}(hc:∀P q,cl.tabs P=some q->P∈tabs.map (·.2)){run:List D->Sto->Out D}(hr:∀l:List Int,l.length<=63->∃S,run [.scr l] []=.ok (.bl true) S):∀vs H Q E,ziY cl.K tabs vs H Q E->zgP cl 1 false run vs H Q E:=by
 rintro vs H Q E ⟨a,ns,rfl,hl,hO,hT,hne,hS,q⟩
 have na:a ∉ tabs.map (·.2):=fun z=>by obtain⟨p,hp,e⟩:=yag.mp z;exact hne p hp e
 refine⟨rfl,⟨fun _=>none,fun _=>none⟩,⟨H,fun b=>if b∈tabs.map (·.2)then some .tab else none,[]⟩,[.scr ns],[],rfl,⟨(fun a o h=>by cases h),(fun a r h=>.inr rfl),rfl,(fun n ob h=>by simp at h),fun P w h=>?_⟩,.cons ?_ .nil,?_⟩
 ·have hP:=hc P w h;obtain⟨p,hp,rfl⟩:=yag.mp hP;exact⟨#[],hT p hp,if_pos hP,trivial,fun pos cv e=>by cases e⟩
 ·rcases hS with(hS|⟨o,hS⟩)|hS
  ·rcases hO a with z|⟨o,xs,z⟩|⟨z,_⟩
   ·rw[hS]at z;cases z
   ·rw[hS]at z;cases z
   ·rw[hS]at z;cases z
  ·exact .scr hS (if_neg na)
  ·exact .scrK fun H=>.inr hS
 ·obtain⟨S',e⟩:=hr ns hl;rw[e];intro v w' _ _ r;have r':Shd cl w' v (.bl true):=r;cases r';exact q _
noncomputable abbrev Rn:=List D->Sto->Out D
structure FnT(K:PySem.W.Frag)(x q:Str)(st:Stmt)(f:Addr):Prop where
 ex:∃(oc:Value) (od:Option Addr) (kV dc pm:Value) (an:Option Addr) (cd ct:Value) (sl:Array (Option Value)),K.lookup f=some ⟨oc,od,.func (PySem.W.fnOf x q (zbb st) (zaP st) (zam st) .none kV dc pm an cd ct),sl⟩/\PySem.W.codeIn K cd q=true/\PySem.W.keepIn K (.ref f)=true/\PySem.W.isFn K (.ref f)=true
structure GFn(K:PySem.W.Frag)(x:Str)(st:Stmt):Prop where
 ex:∃f,PySem.W.nsIn K mainGlobals x=some (some (.ref f))/\FnT K x x st f
structure MFn(K:PySem.W.Frag)(C:Addr)(m q:Str)(st:Stmt):Prop where
 ex:∃f,PySem.W.findIn K (.ref C) m=some (some (.ref f))/\FnT K m q st f
noncomputable def BB(x q:Str)(st:Stmt)(ps:List Str):Prop:=∀(kV doc pm:Value) (an:Option Addr) (cdv ct:Value) (us:List Value),us.length=ps.length->bindArgs (PySem.W.fnOf x q (zbb st) (zaP st) (zam st) .none kV doc pm an cdv ct) ⟨us,[]⟩=pure (ps.zip us)
def bb0{p:List Value->Prop}(h:p []):∀us:List Value,us.length=0->p us:=fun us e=>by rw[ya0 e];exact h
def bbS{n:Nat}{p:List Value->Prop}(h:∀a:Value,∀us:List Value,us.length=n->p (a::us)):∀us:List Value,us.length=n+1->p us:=fun us e=>by
 cases us with
 |nil=>cases e|cons a us=>exact h a us (Nat.succ.inj e)
def bb1{p:List Value->Prop}(h:∀a0:Value,p [a0]):∀us:List Value,us.length=1->p us:=bbS fun a0=>bb0 (h a0)
def bb2{p:List Value->Prop}(h:∀a0 a1:Value,p [a0,a1]):∀us:List Value,us.length=2->p us:=bbS fun a0=>bbS fun a1=>bb0 (h a0 a1)
def bb3{p:List Value->Prop}(h:∀a0 a1 a2:Value,p [a0,a1,a2]):∀us:List Value,us.length=3->p us:=bbS fun a0=>bbS fun a1=>bbS fun a2=>bb0 (h a0 a1 a2)
def bb4{p:List Value->Prop}(h:∀a0 a1 a2 a3:Value,p [a0,a1,a2,a3]):∀us:List Value,us.length=4->p us:=bbS fun a0=>bbS fun a1=>bbS fun a2=>bbS fun a3=>bb0 (h a0 a1 a2 a3)
def bb5{p:List Value->Prop}(h:∀a0 a1 a2 a3 a4:Value,p [a0,a1,a2,a3,a4]):∀us:List Value,us.length=5->p us:=bbS fun a0=>bbS fun a1=>bbS fun a2=>bbS fun a3=>bbS fun a4=>bb0 (h a0 a1 a2 a3 a4)
def bb6{p:List Value->Prop}(h:∀a0 a1 a2 a3 a4 a5:Value,p [a0,a1,a2,a3,a4,a5]):∀us:List Value,us.length=6->p us:=bbS fun a0=>bbS fun a1=>bbS fun a2=>bbS fun a3=>bbS fun a4=>bbS fun a5=>bb0 (h a0 a1 a2 a3 a4 a5)
section
variable{cl:Cf}{T:Tab}{P:Program}{wo:PySem.World}{K:PySem.W.Frag}{mg:Z6}{base:Heap}{k:Nat}{fs:Fn3}
def FnT.un{x q:Str}{st:Stmt}{f:Addr}{ps:List Str}(p:FnT K x q st f)(b:BB x q st ps):∃fd,Fun K x q st f fd/\zcZ K fd ps []/\PySem.W.keepIn K (.ref f)=true/\PySem.W.isFn K (.ref f)=true:=by
 obtain⟨oc,od,kV,dc,pm,an,cd,ct,sl,l,c,kp,i⟩:=p.ex;have U:=zju (st:=st) l c kp;exact⟨_,U,U.binds b,kp,i⟩
end
open PySem
open L2 hiding D
noncomputable def zes:Fs:=
  (zak (sFz [] (za6 (zgQ (eUn (zel "int") (zai 0)) (eUn zcl (eUn (zel "bool") (zai 0))))))
  sNx)
noncomputable def zcF:List S2.D->Sto->Out S2.D:=zbc 1 false zes
noncomputable def zb4:Fs:=
  (zak (sFz [] (za6 (zgQ (eUn (zel "tuple") (zai 0)) (zdl leD leD (zai 1) (zaz zc1 [(zai 0)]) (zai 2)))))
  sNx)
noncomputable def zaN:List S2.D->Sto->Out S2.D:=zbc 3 false zb4
noncomputable def zdN:Fs:=
  (zak (sFz [0] (za6 (zgQ (eFn zcF [(zae 0)]) (zdl leD leD (zad (.int 0)) (zai 0) (zad (.int 8))))))
  sNx)
noncomputable def zcM:List S2.D->Sto->Out S2.D:=zbc 1 false zdN
noncomputable def zfo:Fs:=
  (zak (sFz [0,0] (za6 (zgQ (eFn zaN [(zae 0),(zad (.int 4)),(zad (.int 4))]) (zaz zmM [(zbQ 1 (.one 0) (zaI (zae 0)) zcJ (eFn zcM [(zae 0)]) [])]))))
  sNx)
noncomputable def zc5:List S2.D->Sto->Out S2.D:=zbc 1 false zfo
noncomputable def zgC:Fs:=
  (zak (sFz [0] (sIf (eUn zcl (eFn zaN [(zae 0),(zad (.int 1)),(zad (.int 16))])) (zak (sFz [] (za6 (zad (.bl false)))) sNx) sNx))
  (zak (sFz [0,0] (za6 (zgQ (zaz zmM [(zbQ 1 (.one 0) (zaI (zae 0)) zcJ (eFn zc5 [(zae 0)]) [])]) (zaj eqD (eUn zdK (zae 0)) (zaz zc1 [(zai 0)])))))
  sNx))
noncomputable def zbZ:List S2.D->Sto->Out S2.D:=zbc 1 false zgC
noncomputable def zde:Fs:=
  (zak (sFz [1] (za6 (zgQ (eFn zcF [(zae 1)]) (zdl leD ltD (zad (.int 0)) (zai 1) (zaz zc1 [(zai 0)])))))
  sNx)
noncomputable def zc7:List S2.D->Sto->Out S2.D:=zbc 2 false zde
noncomputable def zd7:Fs:=
  (zak (sFz [0,1] (za6 (eOr (zaj zj2 (zai 1) (zad .non)) (eFn zc7 [(zae 0),(zae 1)]))))
  sNx)
noncomputable def zcE:List S2.D->Sto->Out S2.D:=zbc 2 false zd7
noncomputable def zeR:Fs:=
  (zak (sFz [1,1,0] (za6 (zgQ (eFn zaN [(zae 1),(zad (.int 1)),(zad (.int 6))]) (zaz zmM [(zbQ 1 (.one 0) (zaI (zae 1)) zcJ (eFn zcE [(zae 1),(zae 0)]) [0])]))))
  sNx)
noncomputable def zdu:List S2.D->Sto->Out S2.D:=zbc 2 false zeR
noncomputable def zcI:Fs:=
  (zak (sFz [1] (sIf (eUn zcl (eFn zaN [(zae 1),(zad (.int 1)),(zad (.int 6))])) (zak (sFz [] (za6 (zad (.bl false)))) sNx) sNx))
  (zak (sFz [1,0] (sIf (eUn zcl (zaz zmM [(zbQ 1 (.one 0) (zaI (zae 1)) zcJ (eFn zdu [(zae 1),(zae 0)]) [0])])) (zak (sFz [] (za6 (zad (.bl false)))) sNx) sNx))
  (zak (sFz [1,1] (za6 (zaz zmM [(zbQ 1 (.one 0) (zaI (zae 1)) zcJ (zaj eqD (zaz zc1 [(zai 0)]) (zaz zc1 [(zaj ixD (zai 1) (zad (.int 0)))])) [1])])))
  sNx)))
noncomputable def zaL:List S2.D->Sto->Out S2.D:=zbc 2 false zcI
noncomputable def zfn:Fs:=
  (zak (sFz [] (zcc 1 false (eIf (zaj gtD (zaz zc1 [(zai 0)]) (zad (.int 0))) (zaz zc1 [(zaj ixD (zai 0) (zad (.int 0)))]) (zad (.int 0)))))
  (zak (sFz [1] (za6 (zeJ [(zaz zc1 [(zai 0)]),(zae 1)])))
  sNx))
noncomputable def zcf:List S2.D->Sto->Out S2.D:=zbc 2 false zfn
noncomputable def zeS:Fs:=
  (zak (sFz [0,1] (sIf (zaj neD (zaj ixD (eFn zcf [(zae 0)]) (zad (.int 0))) (zaj ixD (eFn zcf [(zae 1)]) (zad (.int 0)))) (zak (sFz [] (sRz "Unlike" [(zad (.str "the floors have not as many rows"))])) sNx) sNx))
  (zak (sFz [0,1] (za6 (zaz zcb [(zbQ 2 (.tup [0,1]) (zrq (zae 0) (zae 1)) zcJ (zaj zbD (zai 0) (zai 1)) [])])))
  sNx))
noncomputable def zb0:List S2.D->Sto->Out S2.D:=zbc 2 false zeS
noncomputable def zgD:Fs:=
  (zak (sFz [0,1] (sIf (zaj neD (zaj ixD (eFn zcf [(zae 0)]) (zad (.int 1))) (zaj ixD (eFn zcf [(zae 1)]) (zad (.int 1)))) (zak (sFz [] (sRz "Unlike" [(zad (.str "the floors have not as many columns"))])) sNx) sNx))
  (zak (sFz [] (za6 (zaj zbD (zai 0) (zai 1))))
  sNx))
noncomputable def zcN:List S2.D->Sto->Out S2.D:=zbc 2 false zgD
noncomputable def zhB:Fs:=
  (zak (sFz [] (sIf (eOr (eUn zcl (eUn (zel "str") (zai 0))) (eUn zcl (zdl leD leD (zad (.int 1)) (zaz zc1 [(zai 0)]) (zad (.int 6))))) (zak (sFz [] (za6 (zad (.bl false)))) sNx) sNx))
  (zak (sFz [0] (za6 (zaz zmM [(zbQ 1 (.one 0) (zaI (zae 0)) zcJ (zdl leD leD (zad (.str "a")) (zai 0) (zad (.str "z"))) [])])))
  sNx))
noncomputable def zc6:List S2.D->Sto->Out S2.D:=zbc 1 false zhB
noncomputable def zbU:Fs:=
  (zak (sFz [0] (sIf (eUn zcl (eFn zc6 [(zae 0)])) (zak (sFz [] (sRz "NoName" [(zad (.str "this is no name"))])) sNx) sNx))
  sNx)
noncomputable def zaZ:List S2.D->Sto->Out S2.D:=zbc 1 false zbU
noncomputable def zbV:Fs:=
  (zak (sFz [1] (sIf (eUn zcl (eFn zbZ [(zae 1)])) (zak (sFz [] (sRz "Unlike" [(zad (.str "this is no set"))])) sNx) sNx))
  (zak (sFz [1] (zk1 "Album" "tiles" (zae 0) (zae 1)))
  (zak (sFz [] (zk2 "Album" "named" 0))
  (zak (sFz [] (zfD "Album" "done" 0))
  (zak (sFz [] (zfD "Album" "undone" 0))
  sNx)))))
noncomputable def zaM:List S2.D->Sto->Out S2.D:=zbc 2 false zbV
noncomputable def za5:Fs:=
  (zak (sFz [] (sIf (zaj zj2 (zai 2) (zad .non)) (zak (sFz [1] (zjO "Album" "named" 0 (zbI 1))) sNx) (zak (sFz [2] (zjN "Album" "named" 0 (zbI 1) (zbI 2))) sNx)))
  sNx)
noncomputable def zaF:List S2.D->Sto->Out S2.D:=zbc 3 false za5
noncomputable def zet:Fs:=
  (zak (sFz [1,2,2,3] (zjQ "Album" "done" 0 [(zbI 1),(zbI 2),(zhg "Album" "named" 0 (zbI 2)),(zbI 3)]))
  (zak (sFz [] (zfD "Album" "undone" 0))
  (zak (sFz [2,3] (zkm (zaU "Album" "name_floor" zaF (zae 0) [(zae 2),(zae 3)])))
  sNx)))
noncomputable def zb9:List S2.D->Sto->Out S2.D:=zbc 4 false zet
noncomputable def zdP:Fs:=
  (zak (sFz [1] (zkm (eFn zaZ [(zae 1)])))
  (zak (sFz [2] (sIf (eUn zcl (eFn zaL [(zmi "Album" "tiles" (zae 0)),(zae 2)])) (zak (sFz [] (sRz "Unlike" [(zad (.str "this is no floor of the set"))])) sNx) sNx))
  (zak (sFz [] (zcc 3 false (eQ (zne "Album" "named" 0 (zbI 1)))))
  (zak (sFz [1,2] (zkm (zaU "Album" "do" zb9 (zae 0) [(zad (.str "put")),(zae 1),(zae 2)])))
  (zak (sFz [3] (za6 (zae 3)))
  sNx)))))
noncomputable def zaO:List S2.D->Sto->Out S2.D:=zbc 4 false zdP
noncomputable def zbm:Fs:=
  (zak (sFz [1] (sIf (eOr (eUn zcl (eFn zc6 [(zae 1)])) (eQ (zfE "Album" "named" 0 (zbI 1)))) (zak (sFz [] (sRz "NoName" [(zad (.str "no floor has this name"))])) sNx) sNx))
  (zak (sFz [] (za6 (eQ (zp5 "Album" "named" 0 (zbI 1)))))
  sNx))
noncomputable def zao:List S2.D->Sto->Out S2.D:=zbc 2 false zbm
noncomputable def zcv:Fs:=
  (zak (sFz [1] (zcc 2 false (zaU "Album" "floor_of" zao (zae 0) [(zae 1)])))
  (zak (sFz [1] (zkm (zaU "Album" "do" zb9 (zae 0) [(zad (.str "take")),(zae 1),(zad .non)])))
  (zak (sFz [2] (za6 (zae 2)))
  sNx)))
noncomputable def zaw:List S2.D->Sto->Out S2.D:=zbc 3 false zcv
noncomputable def zaH:Fs:=
  (zak (sFz [1] (zkm (eFn zaZ [(zae 1)])))
  (zak (sFz [2] (zcc 5 false (zaU "Album" "floor_of" zao (zae 0) [(zae 2)])))
  (zak (sFz [3] (zcc 6 false (zaU "Album" "floor_of" zao (zae 0) [(zae 3)])))
  (zak (sFz [4,5,6,5,6] (zcc 7 false (eIf (zae 4) (eFn zb0 [(zae 5),(zae 6)]) (eFn zcN [(zae 5),(zae 6)]))))
  (zak (sFz [7] (sIf (eUn zcl (eFn zaL [(zmi "Album" "tiles" (zae 0)),(zae 7)])) (zak (sFz [] (sRz "Unlike" [(zad (.str "both together are no floor"))])) sNx) sNx))
  (zak (sFz [1,7] (zkm (zaU "Album" "do" zb9 (zae 0) [(zad (.str "join")),(zae 1),(zae 7)])))
  (zak (sFz [7] (za6 (zae 7)))
  sNx)))))))
noncomputable def zal:List S2.D->Sto->Out S2.D:=zbc 8 false zaH
noncomputable def zcU:Fs:=
  (zak (sFz [] (za6 (zj6 "Album" "named" 0)))
  sNx)
noncomputable def zbz:List S2.D->Sto->Out S2.D:=zbc 1 true zcU
noncomputable def zdk:Fs:=
  (zak (sFz [] (sIf (zaj eqD (zeK "Album" "done" 0) (zad (.int 0))) (zak (sFz [] (sRz "Nothing" [(zad (.str "there is nothing to take back"))])) sNx) sNx))
  (zak (sFz [] (zcc 1 false (zn4 "Album" "done" 0)))
  (zak (sFz [1] (zm5 "Album" "undone" 0 (zbI 1)))
  (zak (sFz [] (zkm (zaU "Album" "name_floor" zaF (zae 0) [(zaj ixD (zai 1) (zad (.int 1))),(zaj ixD (zai 1) (zad (.int 2)))])))
  (zak (sFz [] (za6 (zaj ixD (zai 1) (zad (.int 0)))))
  sNx)))))
noncomputable def zbM:List S2.D->Sto->Out S2.D:=zbc 2 false zdk
noncomputable def zcT:Fs:=
  (zak (sFz [] (za6 (zeJ [(zeK "Album" "done" 0),(zeK "Album" "undone" 0)])))
  sNx)
noncomputable def zaX:List S2.D->Sto->Out S2.D:=zbc 1 false zcT
noncomputable def zck:Fs:=
  (zak (sFz [] (sIf (zaj ltD (zai 1) (zaz zc1 [(zai 0)])) (zak (sFz [] (za6 (zaj ixD (zai 0) (zai 1)))) sNx) sNx))
  (zak (sFz [] (sIf (zaj eqD (zai 0) (zj7 [])) (zak (sFz [] (za6 (zad (.int 0)))) sNx) sNx))
  (zak (sFz [] (za6 (zaj zbD (zaj zji (zaj ixD (zai 0) (zaj zoS (zai 1) (zaz zc1 [(zai 0)]))) (zad (.int 31))) (zai 1))))
  sNx)))
noncomputable def zbH:List S2.D->Sto->Out S2.D:=zbc 2 false zck
noncomputable def zdO:Fs:=
  (zak (sFz [0,1] (zcc 3 false (zaj zoS (zaj zji (zaj zbD (eFn zbH [(zae 0),(zae 1)]) (zaj zji (zad (.int 6151)) (zaj zbD (zai 1) (zad (.int 1))))) (zad (.int 40692))) (zad (.int 2147483399)))))
  (zak (sFz [] (za6 (zaj zoS (zaj zoS (zaj zbD (zaj zji (zai 3) (zai 3)) (zaj ztJ (zai 3) (zad (.int 31)))) (zad (.int 2147483629))) (zai 2))))
  sNx))
noncomputable def zar:List S2.D->Sto->Out S2.D:=zbc 4 false zdO
noncomputable def zbk:Fs:=
  (zak (sFz [1,3,5,0] (zcc 6 false (zaz zcb [(zbQ 1 (.one 0) (zeu (zad (.int 4))) zcJ (eFn zar [(zae 4),(zaj zbD (zaj zbD (zaj zbD (zai 1) (zaj zji (zad (.int 4)) (zai 3))) (zad (.int 2))) (zai 0)),(zae 2)]) [1,3,5,0])]))) (zak (sFz [0] (sIf (zaj eqD (eFn zar [(zae 0),(zaj zbD (zaj zbD (zai 1) (zad (.int 60))) (zai 5)),(zad (.int 3))]) (zad (.int 0))) (zak (sFz [] (zcc 6 false (zeJ [(zaj ixD (zai 6) (zad (.int 0))),(zaj ixD (zai 6) (zad (.int 1))),(zaj ixD (zai 6) (zad (.int 0))),(zaj ixD (zai 6) (zad (.int 1)))]))) sNx) sNx)) (zak (sFz [] (sIf (zaj zmK (zai 6) (zai 4)) (zak (sFz [6] (zoA 4 (zae 6))) sNx) sNx)) sNx)))
noncomputable def zdi:Fs:=
  (zak (sFz [0,1] (zcc 3 false (zaj zbD (zad (.int 2)) (eFn zar [(zae 0),(zae 1),(zad (.int 2))]))))
  (zak (sFz [] (zcc 4 true (zj7 [])))
  (zak (sFz [0,2] (zkl (.one 5) (zeu (zaj zbD (zad (.int 1)) (eFn zar [(zae 0),(zaj zbD (zai 1) (zad (.int 1))),(zae 2)]))) zbk))
  (zak (sFz [] (za6 (zaz zcb [(zai 4)])))
  sNx))))
noncomputable def zcp:List S2.D->Sto->Out S2.D:=zbc 7 false zdi
noncomputable def zbl:Fs:=
  (zak (sFz [0] (zcc 10 false (eFn zar [(zae 0),(zaj zbD (zaj zbD (zai 1) (zaj zji (zad (.int 7)) (zai 7))) (zai 9)),(zaj zji (zaz zc1 [(zai 2)]) (zai 5))]))) (zak (sFz [10] (zoA 8 (eIf (zaj ltD (zai 10) (zaz zc1 [(zai 2)])) (zae 10) (zad .non)))) sNx))
noncomputable def zcC:Fs:=
  (zak (sFz [] (zcc 8 true (zj7 []))) (zak (sFz [4] (zkl (.one 9) (zeu (zae 4)) zbl)) (zak (sFz [] (zoA 6 (zaz zcb [(zai 8)]))) sNx)))
noncomputable def zdj:Fs:=
  (zak (sFz [] (zcc 6 true (zj7 [])))
  (zak (sFz [3] (zkl (.one 7) (zeu (zae 3)) zcC))
  (zak (sFz [] (za6 (zaz zcb [(zai 6)])))
  sNx)))
noncomputable def zcq:List S2.D->Sto->Out S2.D:=zbc 11 false zdj
noncomputable def zcj:Fs:=
  (zak (sFz [] (zcc 3 true (zj7 [(zad (.str "a")),(zad (.str "b")),(zad (.str "c")),(zad (.str "sheet"))])))
  (zak (sFz [0,1,0] (zm3 4 5 false (zaj ixD (zai 3) (eFn zar [(zae 0),(zae 1),(zad (.int 4))])) false (eFn zar [(zae 0),(zaj zbD (zai 1) (zad (.int 1))),(zad (.int 6))])))
  (zak (sFz [] (sIf (zaj ltD (zai 5) (zad (.int 3))) (zak (sFz [0,0] (zm3 6 7 false (zaj zbD (zad (.int 1)) (eFn zar [(zae 0),(zaj zbD (zai 1) (zad (.int 2))),(zad (.int 3))])) false (zaj zbD (zad (.int 1)) (eFn zar [(zae 0),(zaj zbD (zai 1) (zad (.int 3))),(zad (.int 3))])))) (zak (sFz [4,0,2,6,7] (za6 (zeJ [(zad (.str "put")),(zae 4),(eFn zcq [(zae 0),(zaj zbD (zai 1) (zad (.int 10))),(zae 2),(zae 6),(zae 7),(zad (.int 2))])]))) sNx)) sNx))
  (zak (sFz [] (sIf (zaj eqD (zai 5) (zad (.int 3))) (zak (sFz [4] (za6 (zeJ [(zad (.str "take")),(zae 4)]))) sNx) sNx))
  (zak (sFz [0,0] (zm3 8 9 false (zaj ixD (zai 3) (eFn zar [(zae 0),(zaj zbD (zai 1) (zad (.int 4))),(zad (.int 4))])) false (zaj ixD (zai 3) (eFn zar [(zae 0),(zaj zbD (zai 1) (zad (.int 5))),(zad (.int 4))]))))
  (zak (sFz [4,8,9,0] (za6 (zeJ [(zad (.str "join")),(zae 4),(zae 8),(zae 9),(zaj eqD (eFn zar [(zae 0),(zaj zbD (zai 1) (zad (.int 6))),(zad (.int 2))]) (zad (.int 0)))])))
  sNx))))))
noncomputable def zbp:List S2.D->Sto->Out S2.D:=zbc 10 false zcj
noncomputable def zat:Fs:=
  (zak (sFz [0,1,0] (zcc 2 true (zaz zit [(zbQ 1 (.one 0) (zaI (zae 0)) (zaj neD (zai 0) (zaj ixD (zai 1) (zad (.int 1)))) (zeJ [(zae 0),(zaj ixD (zai 2) (zai 0))]) [1,0])])))
  (zak (sFz [] (sIf (zaj eqD (zaj ixD (zai 1) (zad (.int 0))) (zad (.str "put"))) (zak (sFz [] (zdJ 2 (zaj ixD (zai 1) (zad (.int 1))) (zaj ixD (zai 1) (zad (.int 2))))) (zak (sFz [2] (za6 (zeJ [(zae 2),(zaj inD (zaj ixD (zai 1) (zad (.int 1))) (zai 0))]))) sNx)) sNx))
  (zak (sFz [] (sIf (zaj eqD (zaj ixD (zai 1) (zad (.int 0))) (zad (.str "take"))) (zak (sFz [2,0] (za6 (eIf (zaj inD (zaj ixD (zai 1) (zad (.int 1))) (zai 0)) (zeJ [(zae 2),(zaj ixD (zai 0) (zaj ixD (zai 1) (zad (.int 1))))]) (zeJ [(zae 0),(zad (.str "no name"))])))) sNx) sNx))
  (zak (sFz [] (sIf (eOr (zaj zmK (zaj ixD (zai 1) (zad (.int 2))) (zai 0)) (zaj zmK (zaj ixD (zai 1) (zad (.int 3))) (zai 0))) (zak (sFz [0] (za6 (zeJ [(zae 0),(zad (.str "no name"))]))) sNx) sNx))
  (zak (sFz [] (zgh (.tup [3,4,5]) (zeJ [(zaj ixD (zai 0) (zaj ixD (zai 1) (zad (.int 2)))),(zaj ixD (zai 0) (zaj ixD (zai 1) (zad (.int 3)))),(zaj ixD (zai 1) (zad (.int 4)))])))
  (zak (sFz [5,5] (sIf (eOr (zgQ (zae 5) (zaj neD (zaz zc1 [(zai 3)]) (zaz zc1 [(zai 4)]))) (zgQ (eUn zcl (zae 5)) (zaj neD (zaz zc1 [(zaj ixD (zai 3) (zad (.int 0)))]) (zaz zc1 [(zaj ixD (zai 4) (zad (.int 0)))])))) (zak (sFz [0] (za6 (zeJ [(zae 0),(zad (.str "unlike"))]))) sNx) sNx))
  (zak (sFz [] (zcc 6 false (zaj zbD (zai 3) (zai 4))))
  (zak (sFz [5] (sIf (zae 5) (zak (sFz [3,4] (zcc 6 false (zaz zcb [(zbQ 1 (.one 0) (zeu (zaz zc1 [(zai 3)])) zcJ (zaj zbD (zaj ixD (zai 1) (zai 0)) (zaj ixD (zai 2) (zai 0))) [3,4])]))) sNx) sNx))
  (zak (sFz [] (sIf (eOr (zaj gtD (zaz zc1 [(zai 6)]) (zad (.int 6))) (zaj gtD (zaz zc1 [(zaj ixD (zai 6) (zad (.int 0)))]) (zad (.int 6)))) (zak (sFz [0] (za6 (zeJ [(zae 0),(zad (.str "unlike"))]))) sNx) sNx))
  (zak (sFz [6] (zdJ 2 (zaj ixD (zai 1) (zad (.int 1))) (zae 6)))
  (zak (sFz [2,6] (za6 (zeJ [(zae 2),(zae 6)])))
  sNx)))))))))))
noncomputable def zaa:List S2.D->Sto->Out S2.D:=zbc 7 false zat
noncomputable def zcS:Fs:=
  (zak (sFz [0] (za6 (zaz zit [(zbQ 1 (.one 0) (zaI (zaU "Album" "names" zbz (zae 0) [])) zcJ (zeJ [(zae 0),(zaU "Album" "floor_of" zao (zae 1) [(zae 0)])]) [0])])))
  sNx)
noncomputable def zb1:List S2.D->Sto->Out S2.D:=zbc 1 true zcS
noncomputable def zdL:Fs:=
  (zak (sFz [0] (za6 (eSm zfG (zad (.str "")) (zbQ 1 (.one 0) (zaI (zae 0)) zcJ (zaz zos [(zai 0)]) []))))
  sNx)
noncomputable def zbF:List S2.D->Sto->Out S2.D:=zbc 1 false zdL
noncomputable def zeo:Fs:=
  (zak (sFz [0] (za6 (eSm zfG (zad (.str "")) (zbQ 1 (.one 0) (zaI (zae 0)) zcJ (zaj zbD (eFn zbF [(zae 0)]) (zad (.str "\n"))) []))))
  sNx)
noncomputable def zcD:List S2.D->Sto->Out S2.D:=zbc 1 false zeo
noncomputable def zb3:Fs:=
  (zak (sFz [] (za6 (eIf (zaj zj2 (zai 0) (zad .non)) (zad (.str "-")) (zaz zos [(zai 0)]))))
  sNx)
noncomputable def zaW:List S2.D->Sto->Out S2.D:=zbc 1 false zb3
noncomputable def zep:Fs:=
  (zak (sFz [0] (za6 (eSm zfG (zad (.str " ")) (zbQ 1 (.one 0) (zaI (zae 0)) zcJ (eFn zaW [(zae 0)]) []))))
  sNx)
noncomputable def zb6:List S2.D->Sto->Out S2.D:=zbc 1 false zep
noncomputable def zdf:Fs:=
  (zak (sFz [0] (za6 (eSm zfG (zad (.str "\n")) (zbQ 1 (.one 0) (zaI (zae 0)) zcJ (eFn zb6 [(zae 0)]) []))))
  sNx)
noncomputable def zbu:List S2.D->Sto->Out S2.D:=zbc 1 false zdf
noncomputable def zcR:Fs:=
  (zak (sFz [0] (za6 (eIf (zaj inD (zai 0) (zad (.str "012345678"))) (eSm zjt (zad (.str "012345678")) (zae 0)) (zad (.str "?")))))
  sNx)
noncomputable def zbo:List S2.D->Sto->Out S2.D:=zbc 1 false zcR
noncomputable def zdM:Fs:=
  (zak (sFz [0] (za6 (zaz zcb [(zbQ 1 (.one 0) (zaI (zae 0)) zcJ (eFn zbo [(zae 0)]) [])])))
  sNx)
noncomputable def zbG:List S2.D->Sto->Out S2.D:=zbc 1 false zdM
noncomputable def zeq:Fs:=
  (zak (sFz [] (sIf (eUn zcl (eSm zmh (zae 0) (zad (.str "\n")))) (zak (sFz [] (sRz "NoText" [(zad (.str "the last line is not ended"))])) sNx) sNx))
  (zak (sFz [] (zcc 1 false (zaz zcb [(zbQ 1 (.one 0) (zaI (eSm zdV (eSl (zai 0) none (some (eUn zqy (zad (.int 1))))) (zad (.str "\n")))) zcJ (eFn zbG [(zae 0)]) [])])))
  (zak (sFz [1] (sIf (eUn zcl (eFn zbZ [(zae 1)])) (zak (sFz [] (sRz "NoText" [(zad (.str "this is not the writing of a set"))])) sNx) sNx))
  (zak (sFz [1] (za6 (zae 1)))
  sNx))))
noncomputable def zdt:List S2.D->Sto->Out S2.D:=zbc 2 false zeq
noncomputable def zbr:Fs:=
  (zak (sFz [2] (zdJ 1 (eFn zaW [(zae 2)]) (zae 2))) sNx)
noncomputable def zbK:Fs:=
  (zak (sFz [] (zcc 1 true (zj8 "-" (zad .non))))
  (zak (sFz [] (zkl (.one 2) (zeu (zaz zc1 [(zai 0)])) zbr))
  (zak (sFz [] (zjM 1))
  sNx)))
noncomputable def zbf:List S2.D->Sto->Out S2.D:=zbc 3 true zbK
noncomputable def zer:Fs:=
  (zak (sFz [0] (za6 (zaz zcb [(zbQ 1 (.one 0) (zaI (eSm zdV (zae 1) (zad (.str " ")))) zcJ (zeH (zae 1) (zae 0) (zad (.str "?"))) [0])])))
  sNx)
noncomputable def zb7:List S2.D->Sto->Out S2.D:=zbc 2 false zer
noncomputable def zdc:Fs:=
  (zak (sFz [0] (zcc 2 true (eFn zbf [(zae 0)])))
  (zak (sFz [2] (zcc 3 false (zaz zcb [(zbQ 1 (.one 0) (zaI (eSm zdV (zae 1) (zad (.str "\n")))) zcJ (eFn zb7 [(zae 1),(zae 0)]) [2])])))
  (zak (sFz [0,3] (sIf (eUn zcl (eFn zaL [(zae 0),(zae 3)])) (zak (sFz [] (sRz "NoText" [(zad (.str "this is not the writing of a floor of the set"))])) sNx) sNx))
  (zak (sFz [3] (za6 (zae 3)))
  sNx))))
noncomputable def zbt:List S2.D->Sto->Out S2.D:=zbc 4 false zdc
noncomputable def zcB:Fs:=
  (zak (sFz [] (za6 (zmi "Album" "tiles" (zae 0))))
  sNx)
noncomputable def zbj:List S2.D->Sto->Out S2.D:=zbc 1 false zcB
noncomputable def zdg:Fs:=
  (zak (sFz [1] (za6 (zaj zbD (zaj zbD (zaj zbD (zaj zbD (zad (.str "--\n")) (zai 1)) (zad (.str "\n"))) (eFn zbu [(zaU "Album" "floor_of" zao (zae 0) [(zae 1)])])) (zad (.str "\n")))))
  sNx)
noncomputable def zbv:List S2.D->Sto->Out S2.D:=zbc 2 false zdg
noncomputable def zdh:Fs:=
  (zak (sFz [0] (za6 (zaj zbD (eFn zcD [(zaU "Album" "set_of" zbj (zae 0) [])]) (eSm zfG (zad (.str "")) (zbQ 1 (.one 0) (zaI (zaU "Album" "names" zbz (zae 0) [])) zcJ (eFn zbv [(zae 1),(zae 0)]) [0])))))
  sNx)
noncomputable def zbw:List S2.D->Sto->Out S2.D:=zbc 1 false zdh
noncomputable def zbX:Fs:=
  (zak (sFz [] (zcc 5 false (eSm zlq (zae 4) (zad (.str "\n"))))) (zak (sFz [] (zcc 6 false (zaj ixD (zai 5) (zad (.int 0))))) (zak (sFz [6] (sIf (eOr (eUn zcl (eFn zc6 [(zae 6)])) (zaj leD (zai 6) (zai 3))) (zak (sFz [] (sRz "NoText" [(zad (.str "there is no name, or not in its turn"))])) sNx) sNx)) (zak (sFz [0] (zdJ 2 (zae 6) (eFn zbt [(zae 0),(zaj ixD (zai 5) (zad (.int 2)))]))) (zak (sFz [6] (zcc 3 false (zae 6))) sNx)))))
noncomputable def zcA:Fs:=
  (zak (sFz [] (zcc 2 true zmj))
  (zak (sFz [] (zcc 3 false (zad (.str ""))))
  (zak (sFz [1] (zkl (.one 4) (zaI (zae 1)) zbX))
  (zak (sFz [] (zjM 2))
  sNx))))
noncomputable def za1:List S2.D->Sto->Out S2.D:=zbc 7 true zcA
noncomputable def zdd:Fs:=
  (zak (sFz [] (sIf (eOr (eUn zcl (eUn (zel "str") (zai 0))) (eUn zcl (eSm zmh (zae 0) (zad (.str "\n"))))) (zak (sFz [] (sRz "NoText" [(zad (.str "this is no text, or its last line is not ended"))])) sNx) sNx))
  (zak (sFz [] (zcc 1 false (eSm zdV (eSl (zai 0) none (some (eUn zqy (zad (.int 1))))) (zad (.str "\n--\n")))))
  (zak (sFz [] (zcc 2 false (eMk "Album" [] zaM [(eFn zdt [(zaj zbD (zaj ixD (zai 1) (zad (.int 0))) (zad (.str "\n")))])])))
  (zak (sFz [] (zjP "Album" "named" 2 (eFn za1 [(zmi "Album" "tiles" (zae 2)),(eSl (zai 1) (some (zad (.int 1))) none)])))
  (zak (sFz [2] (za6 (zae 2)))
  sNx)))))
noncomputable def zco:List S2.D->Sto->Out S2.D:=zbc 3 false zdd
noncomputable def zbs:Fs:=
  (zak (sFz [] (zcc 2 false (zaj zbD (zaj zbD (zaj zbD (zaj zbD (zaj zbD (zai 2) (zad (.str "--\n"))) (zai 3)) (zad (.str "\n"))) (eFn zbu [(zaj ixD (zai 1) (zai 3))])) (zad (.str "\n"))))) sNx)
noncomputable def zbL:Fs:=
  (zak (sFz [0] (zcc 2 false (eFn zcD [(zae 0)])))
  (zak (sFz [] (zkl (.one 3) (zaI (zaz zee [(zai 1)])) zbs))
  (zak (sFz [2] (za6 (zae 2)))
  sNx)))
noncomputable def zaS:List S2.D->Sto->Out S2.D:=zbc 4 false zbL
noncomputable def Fo.seq(b:Fs):Fo->Fo|.nx ρ' S'=>b ρ' S'|o=>o
def zvG(a b:Fs)(ρ:Env):Out D->Fo|.ok d S'=>(match isB d with|some true=>a ρ S'|some false=>b ρ S'|none=>.bad)|.exc x S'=>.ex x ρ S'|.bad=>.bad
noncomputable def zvI(i:Nat)(o:Bool)(ρ:Env):Out D->Fo|.ok d S'=>.nx (ρ.set i (some (o,d))) S'|.exc c S'=>.ex c ρ S'|.bad=>.bad
noncomputable def zxj(ρ:Env):Out D->Fo|.ok _ S'=>.nx ρ S'|.exc c S'=>.ex c ρ S'|.bad=>.bad
noncomputable def zvE(ρ:Env):Out D->Fo|.ok d S'=>.rt d S'|.exc c S'=>.ex c ρ S'|.bad=>.bad
noncomputable def zth(S:Sto):Option (Option (Bool×D))->Fo|some (some (true,d))=>.rt d S|_=>.bad
def zqQ(i:Nat)(ρ:Env)(l:List D):Out D->Fo
 |.ok d S'=>if zaD l.length then .nx (ρ.set i (some (true,.lst (l++[d])))) S' else .bad
 |.exc c S'=>.ex c ρ S'|.bad=>.bad
noncomputable def zxn(i:Nat)(f:Fe)(ρ:Env)(S:Sto):Option (Option (Bool×D))->Fo|some (some (true,.lst l))=>zqQ i ρ l (f ρ S)|_=>.bad
noncomputable def zqN(i j:Nat)(o1 o2:Bool)(d1:D)(ρ:Env):Out D->Fo|.ok d2 S2=>.nx ((ρ.set i (some (o1,d1))).set j (some (o2,d2))) S2|.exc c S'=>.ex c ρ S'|.bad=>.bad
noncomputable def zxe(i j:Nat)(o1 o2:Bool)(g:Fe)(ρ:Env):Out D->Fo|.ok d1 S1=>zqN i j o1 o2 d1 ρ (g ρ S1)|.exc c S'=>.ex c ρ S'|.bad=>.bad
noncomputable def zvF(S:Sto):Option Env->Fo|some ρ'=>.nx ρ' S|none=>.bad
def zqP(t:Tg)(ρ:Env):Out D->Fo|.ok d S'=>zvF S' (t.put ρ d)|.exc c S'=>.ex c ρ S'|.bad=>.bad
noncomputable def zxh(t:Tg)(a:Fs)(ρ:Env):Out (List D)->Fo|.ok ds S'=>zik t a ds ρ S'|.exc c S'=>.ex c ρ S'|.bad=>.bad
noncomputable def zxc(S:Sto):Option (Option (Bool×D))->Out D|some (some (false,d))=>.ok d S|_=>.bad
noncomputable def zxl(S:Sto):Option (Option (Bool×D))->Out D|some (some (_,d))=>.ok d S|_=>.bad
def kUn(u:D->Option D):Out D->Out D|.ok a S=>Out.of (u a) S|.exc c S=>.exc c S|.bad=>.bad
def znS(u:D->D->Option D)(a:D):Out D->Out D|.ok b S=>Out.of (u a b) S|.exc c S=>.exc c S|.bad=>.bad
noncomputable def zxm(u:D->D->Option D)(g:Fe)(ρ:Env):Out D->Out D|.ok a S=>znS u a (g ρ S)|.exc c S=>.exc c S|.bad=>.bad
def kIf(f g:Fe)(ρ:Env):Out D->Out D|.ok d S1=>(match isB d with|some true=>f ρ S1|some false=>g ρ S1|none=>.bad)|.exc c S=>.exc c S|.bad=>.bad
def zvJ(g:Fe)(ρ:Env):Out D->Out D|.ok d S1=>(match isB d with|some true=>g ρ S1|some false=>.ok (.bl false) S1|none=>.bad)|.exc c S=>.exc c S|.bad=>.bad
def kOr(g:Fe)(ρ:Env):Out D->Out D|.ok d S1=>(match isB d with|some true=>.ok (.bl true) S1|some false=>g ρ S1|none=>.bad)|.exc c S=>.exc c S|.bad=>.bad
noncomputable def zjp(d:D):Out (List D)->Out (List D)|.ok ds S=>.ok (d::ds) S|.exc c S=>.exc c S|.bad=>.bad
def ztl(fs:List Fe)(ρ:Env):Out D->Out (List D)|.ok d S=>zjp d (zas fs ρ S)|.exc c S=>.exc c S|.bad=>.bad
def zxd:Out (List D)->Out D|.ok ds S=>if zaD ds.length then .ok (.tup ds) S else .bad|.exc c S=>.exc c S|.bad=>.bad
def zxf:Out (List D)->Out D|.ok ds S=>if zaD ds.length then .ok (.lst ds) S else .bad|.exc c S=>.exc c S|.bad=>.bad
def ztm(u:List D->Option D):Out (List D)->Out D|.ok ds S=>Out.of (u ds) S|.exc c S=>.exc c S|.bad=>.bad
noncomputable def kFn(r:List D->Sto->Out D):Out (List D)->Out D|.ok ds S=>r ds S|.exc c S=>.exc c S|.bad=>.bad
def zfe(v:D->D->Option D)(b:D):Out D->Out D|.ok c S=>Out.of (v b c) S|.exc c S=>.exc c S|.bad=>.bad
def zfd(v:D->D->Option D)(h:Fe)(ρ:Env)(b:D)(S:Sto):Option D->Out D|some d=>(match isB d with|some true=>zfe v b (h ρ S)|some false=>.ok (.bl false) S|none=>.bad)|none=>.bad
noncomputable def zgs(u v:D->D->Option D)(h:Fe)(ρ:Env)(a:D):Out D->Out D|.ok b S=>zfd v h ρ b S (u a b)|.exc c S=>.exc c S|.bad=>.bad
noncomputable def zoU(u v:D->D->Option D)(g h:Fe)(ρ:Env):Out D->Out D|.ok a S=>zgs u v h ρ a (g ρ S)|.exc c S=>.exc c S|.bad=>.bad
noncomputable def zxg:Out D->Out (Option Int)|.ok (.int i) S=>.ok (some i) S|.ok _ _=>.bad|.exc c S=>.exc c S|.bad=>.bad
def zun(d:D)(l:Option Int):Out (Option Int)->Out D|.ok u S=>Out.of (slD d l u) S|.exc c S=>.exc c S|.bad=>.bad
def zuo(d:D)(u:Option Fe)(ρ:Env):Out (Option Int)->Out D|.ok l S=>zun d l (zc0 u ρ S)|.exc c S=>.exc c S|.bad=>.bad
def kSl(l u:Option Fe)(ρ:Env):Out D->Out D|.ok d S=>zuo d u ρ (zc0 l ρ S)|.exc c S=>.exc c S|.bad=>.bad
def zhu:Out D->Out (List D)|.ok (.str x) S=>.ok (zkk x) S|.ok (.lst l) S=>.ok l S|.ok (.tup l) S=>.ok l S|.ok (.dic ds) S=>if zac ds then .ok ((zau ds).map D.str) S else .bad|.ok _ _=>.bad|.exc c S=>.exc c S|.bad=>.bad
def zxb:Out (List D)->Out (List D)|.ok ds S1=>(match ds with|[.tup l,.tup k]=>.ok (zgR l k) S1|_=>.bad)|.exc c S=>.exc c S|.bad=>.bad
def ztg:Out (List D)->Out (List D)|.ok ds S1=>(match ds with|[.int j]=>if -1000000<=j/\j<=1000000 then .ok (za8 0 j) S1 else .bad|_=>.bad)|.exc c S=>.exc c S|.bad=>.bad
def zlP:Out (List D)->Out D|.ok ys S2=>if zaD ys.length then .ok (.lst ys) S2 else .bad|_=>.bad
def zqO(tg:Tg)(c elt:Fe)(ρ0:Env):Out (List D)->Out D|.ok ds S1=>zlP (zbg tg c elt ρ0 ds S1)|.exc c S=>.exc c S|.bad=>.bad
noncomputable def zxk:Option (Option (Bool×D))->Option (Bool×D)|some (some (false,d))=>some (false,d)|_=>none
noncomputable def zvH(ρ:Env)(i:Nat):Option (Option (Bool×D))->Env|some (some (true,d))=>ρ.set i (some (false,d))|_=>ρ
noncomputable def zup(own:Bool):Fo->Out D|.rt d S'=>.ok d S'|.nx _ S'=>if own then .bad else .ok .non S'|.ex c _ S'=>.exc c S'|_=>.bad
def kRz(c:Str)(ρ:Env):Out (List D)->Fo|.ok ds S'=>if zaD ds.length then .ex c ρ S' else .bad|.exc x S'=>.ex x ρ S'|.bad=>.bad
section
variable{ρ:Env}{S:Sto}{f g h k c:Fe}{a b:Fs}
@[simp] def zwd:zak a b ρ S=(a ρ S).seq b:=by
 show(match a ρ S with|.nx ρ' S'=>b ρ' S'|o=>o)=_
 cases a ρ S<;>rfl
@[simp] def zwM:(Fo.nx ρ S).seq b=b ρ S:=(rfl)
@[simp] def zwL:(Fo.rt d S).seq b=.rt d S:=(rfl)
@[simp] def zwK:(Fo.ex x ρ S).seq b=.ex x ρ S:=(rfl)
@[simp] def zuG:zmj ρ S=.ok (.dic []) S:=(rfl)
def zi9{i:Nat}{fk fe:Fe}{ds:List (D×D)}{d:D}{x:Str}{S1 S2:Sto}(h:ρ[i]?=some (some (true,.dic ds)))(ho:zac ds=true)(hl:ds.length<=100000)(he:fe ρ S=.ok d S1)(hk:fk ρ S1=.ok (.str x) S2):zdJ i fk fe ρ S=.nx (ρ.set i (some (true,.dic (putS x d ds)))) S2:=by
 unfold zdJ zg2;rw[h];dsimp only;rw[ho,show zaD ds.length=true from yaz hl]
 show(match fe ρ S with
  |.ok d S1=>(match fk ρ S1 with
   |.ok k S2=>(match k with
    |.str x=>Fo.nx (ρ.set i (some (true,.dic (putS x d ds)))) S2|_=>.bad)
   |.exc c S2=>.ex c ρ S2|.bad=>.bad)
  |.exc c S1=>.ex c ρ S1|.bad=>.bad)=_
 rw[he];dsimp only;rw[hk]
@[simp] def zxD:sFz is a ρ S=a (frz is ρ) S:=(rfl)
@[simp] def zwq:frz [] ρ=ρ:=(rfl)
@[simp] def zwp:frz (i::is) ρ=frz is (frz1 ρ i):=(rfl)
@[simp] def zxL(i:Nat):frz1 ρ i=zvH ρ i ρ[i]?:=(rfl)
@[simp] def zw1:zvH ρ i (some (some (true,d)))=ρ.set i (some (false,d)):=(rfl)
@[simp] def zw0:zvH ρ i (some (some (false,d)))=ρ:=(rfl)
@[simp] def zxB:sNx ρ S=.nx ρ S:=(rfl)
@[simp] def zwi:zcc i o f ρ S=zvI i o ρ (f ρ S):=(rfl)
@[simp] def zw7:zvI i o ρ (.ok d S)=.nx (ρ.set i (some (o,d))) S:=(rfl)
@[simp] def zw6:zvI i o ρ (.exc x S)=.ex x ρ S:=(rfl)
@[simp] def zwh:zkm f ρ S=zxj ρ (f ρ S):=(rfl)
@[simp] def zw2:zxj ρ (.ok d S)=.nx ρ S:=(rfl)
@[simp] def zwe:za6 f ρ S=zvE ρ (f ρ S):=(rfl)
@[simp] def zwT:zvE ρ (.ok d S)=.rt d S:=(rfl)
@[simp] def zwS:zvE ρ (.exc x S)=.ex x ρ S:=(rfl)
@[simp] def zuA:zjM i ρ S=zth S ρ[i]?:=(rfl)
@[simp] def zwR:zth S (some (some (true,d)))=.rt d S:=(rfl)
@[simp] def zxC:sIf c a b ρ S=zvG a b ρ (c ρ S):=(rfl)
@[simp] def zwW:zvG a b ρ (.ok (.bl true) S)=a ρ S:=(rfl)
@[simp] def zwV:zvG a b ρ (.ok (.bl false) S)=b ρ S:=(rfl)
@[simp] def zwj:zoA i f ρ S=zxn i f ρ S ρ[i]?:=(rfl)
@[simp] def zyY:zxn i f ρ S (some (some (true,.lst l)))=zqQ i ρ l (f ρ S):=(rfl)
@[simp] def zw8:zqQ i ρ l (.ok d S)=if zaD l.length then .nx (ρ.set i (some (true,.lst (l++[d])))) S else .bad:=(rfl)
@[simp] def zwf:zm3 i j o1 f o2 g ρ S=zxe i j o1 o2 g ρ (f ρ S):=(rfl)
@[simp] def zyD:zxe i j o1 o2 g ρ (.ok d S)=zqN i j o1 o2 d ρ (g ρ S):=(rfl)
@[simp] def zwU:zqN i j o1 o2 d ρ (.ok e S)=.nx ((ρ.set i (some (o1,d))).set j (some (o2,e))) S:=(rfl)
@[simp] def zuB:zgh t f ρ S=zqP t ρ (f ρ S):=by
 unfold zgh zqP
 cases f ρ S with
 |ok d S'=>dsimp only;cases t.put ρ d<;>rfl|exc c S'=>rfl|bad=>rfl
@[simp] def zw5:zqP t ρ (.ok d S)=zvF S (t.put ρ d):=(rfl)
@[simp] def zyC:zvF S (some ρ')=.nx ρ' S:=(rfl)
@[simp] def zwg:zkl t it a ρ S=zxh t a ρ (it ρ S):=(rfl)
@[simp] def zyP:zxh t a ρ (.ok ds S)=zik t a ds ρ S:=(rfl)
@[simp] def zxA:sRz x fs ρ S=kRz x ρ (zas fs ρ S):=(rfl)
@[simp] def zzu:kRz x ρ (.ok ds S)=if zaD ds.length then .ex x ρ S else .bad:=(rfl)
@[simp] def zwl:(Tg.tup is).put ρ (.tup ds)=zeD is ds ρ:=(rfl)
@[simp] def zwn:zeD (i::is) (d::ds) ρ=zeD is ds (ρ.set i (some (false,d))):=(rfl)
@[simp] def zwm:zeD [] [] ρ=some ρ:=(rfl)
@[simp] def ziL:zae i ρ S=zxc S ρ[i]?:=(rfl)
@[simp] def zvz:zxc S (some (some (false,d)))=.ok d S:=(rfl)
@[simp] def ziN:zai i ρ S=zxl S ρ[i]?:=(rfl)
@[simp] def znP:zxl S (some (some (o,d)))=.ok d S:=(rfl)
@[simp] def ziM:zad d ρ S=.ok d S:=(rfl)
@[simp] def zxN:eUn u f ρ S=kUn u (f ρ S):=by
 unfold eUn;cases f ρ S<;>rfl
@[simp] def zyu:kUn u (.ok d S)=Out.of (u d) S:=(rfl)
@[simp] def ziO:zaj u f g ρ S=zxm u g ρ (f ρ S):=by
 unfold zaj
 cases f ρ S with
 |ok a S1=>show((g ρ S1).bind fun b S2=>Out.of (u a b) S2)=znS u a (g ρ S1);cases g ρ S1<;>rfl|exc c S=>rfl|bad=>rfl
@[simp] def zjn:zxm u g ρ (.ok d S)=znS u d (g ρ S):=(rfl)
@[simp] def zjm:znS u d (.ok e S)=Out.of (u d e) S:=(rfl)
@[simp] def zxS:eIf c f g ρ S=kIf f g ρ (c ρ S):=by
 unfold eIf;cases c ρ S<;>rfl
@[simp] def zyO:kIf f g ρ (.ok (.bl true) S)=f ρ S:=(rfl)
@[simp] def zyN:kIf f g ρ (.ok (.bl false) S)=g ρ S:=(rfl)
@[simp] def zwv:zgQ f g ρ S=zvJ g ρ (f ρ S):=by
 unfold zgQ;cases f ρ S<;>rfl
@[simp] def zxa:zvJ g ρ (.ok (.bl true) S)=g ρ S:=(rfl)
@[simp] def zw9:zvJ g ρ (.ok (.bl false) S)=.ok (.bl false) S:=(rfl)
@[simp] def zxQ:eOr f g ρ S=kOr g ρ (f ρ S):=by
 unfold eOr;cases f ρ S<;>rfl
@[simp] def zyF:kOr g ρ (.ok (.bl true) S)=.ok (.bl true) S:=(rfl)
@[simp] def zyE:kOr g ρ (.ok (.bl false) S)=g ρ S:=(rfl)
@[simp] def zpj:zas [] ρ S=.ok [] S:=(rfl)
@[simp] def zuE:zas (f::fs) ρ S=ztl fs ρ (f ρ S):=by
 show((f ρ S).bind fun d S1=>(zas fs ρ S1).bind fun ds S2=>.ok (d::ds) S2)=_
 cases f ρ S with
 |ok a S1=>show((zas fs ρ S1).bind fun ds S2=>.ok (a::ds) S2)=zjp a (zas fs ρ S1);cases zas fs ρ S1<;>rfl|exc c S=>rfl|bad=>rfl
@[simp] def zvB:ztl fs ρ (.ok d S)=zjp d (zas fs ρ S):=(rfl)
@[simp] def zvA:zjp d (.ok ds S)=.ok (d::ds) S:=(rfl)
@[simp] def zws:zeJ fs ρ S=zxd (zas fs ρ S):=by
 unfold zeJ;cases zas fs ρ S<;>rfl
@[simp] def zyv:zxd (.ok ds S)=if zaD ds.length then .ok (.tup ds) S else .bad:=(rfl)
@[simp] def zwt:zj7 fs ρ S=zxf (zas fs ρ S):=by
 unfold zj7;cases zas fs ρ S<;>rfl
@[simp] def zyH:zxf (.ok ds S)=if zaD ds.length then .ok (.lst ds) S else .bad:=(rfl)
@[simp] def zuI:zaz u fs ρ S=ztm u (zas fs ρ S):=by
 unfold zaz;cases zas fs ρ S<;>rfl
@[simp] def zvD:ztm u (.ok ds S)=Out.of (u ds) S:=(rfl)
@[simp] def zxT:eFn r fs ρ S=kFn r (zas fs ρ S):=by
 unfold eFn;cases zas fs ρ S<;>rfl
@[simp] def zyQ:kFn r (.ok ds S)=r ds S:=(rfl)
@[simp] def zuh:zdl u v f g h ρ S=zoU u v g h ρ (f ρ S):=by
 show((f ρ S).bind fun a S1=>(g ρ S1).bind fun b S2=>match(u a b).bind isB with
  |some true=>(h ρ S2).bind fun c S3=>Out.of (v b c) S3|some false=>.ok (.bl false) S2|none=>.bad)=_
 cases f ρ S with
 |ok a S1=>
  show((g ρ S1).bind fun b S2=>match(u a b).bind isB with
   |some true=>(h ρ S2).bind fun c S3=>Out.of (v b c) S3|some false=>.ok (.bl false) S2|none=>.bad)=zgs u v h ρ a (g ρ S1)
  cases g ρ S1 with
  |ok b S2=>
   show(match(u a b).bind isB with
    |some true=>(h ρ S2).bind fun c S3=>Out.of (v b c) S3|some false=>.ok (.bl false) S2|none=>.bad)=zfd v h ρ b S2 (u a b)
   cases hu:u a b with
   |none=>rfl|some d=>
    show(match isB d with
     |some true=>(h ρ S2).bind fun c S3=>Out.of (v b c) S3|some false=>.ok (.bl false) S2|none=>.bad)=(match isB d with|some true=>zfe v b (h ρ S2)|some false=>.ok (.bl false) S2|none=>.bad)
    cases hb:isB d with
    |none=>rfl|some x=>cases x with
     |true=>show((h ρ S2).bind fun c S3=>Out.of (v b c) S3)=zfe v b (h ρ S2);cases h ρ S2<;>rfl|false=>rfl
  |exc c S=>rfl|bad=>rfl
 |exc c S=>rfl|bad=>rfl
@[simp] def zyW:zoU u v g h ρ (.ok d S)=zgs u v h ρ d (g ρ S):=(rfl)
@[simp] def zyV:zgs u v h ρ d (.ok e S)=zfd v h ρ e S (u d e):=(rfl)
@[simp] def zyU:zfd v h ρ e S (some (.bl true))=zfe v e (h ρ S):=(rfl)
@[simp] def zyT:zfd v h ρ e S (some (.bl false))=.ok (.bl false) S:=(rfl)
@[simp] def zyS:zfe v e (.ok d S)=Out.of (v e d) S:=(rfl)
@[simp] def zug:zc0 none ρ S=.ok none S:=(rfl)
@[simp] def zuf:zc0 (some f) ρ S=zxg (f ρ S):=by
 show((f ρ S).bind fun d S1=>match d with|.int i=>.ok (some i) S1|_=>.bad)=_
 cases f ρ S with
 |ok d S'=>cases d<;>rfl|exc c S'=>rfl|bad=>rfl
@[simp] def zyM:zxg (.ok (.int i) S)=.ok (some i) S:=(rfl)
@[simp] def zxP:eSl f l u ρ S=kSl l u ρ (f ρ S):=by
 unfold eSl
 cases f ρ S with
 |ok d S1=>
  show((zc0 l ρ S1).bind fun l S2=>(zc0 u ρ S2).bind fun u S3=>Out.of (slD d l u) S3)=zuo d u ρ (zc0 l ρ S1)
  cases zc0 l ρ S1 with
  |ok l S2=>show((zc0 u ρ S2).bind fun u S3=>Out.of (slD d l u) S3)=zun d l (zc0 u ρ S2);cases zc0 u ρ S2<;>rfl|exc c S=>rfl|bad=>rfl
 |exc c S=>rfl|bad=>rfl
@[simp] def zzt:kSl l u ρ (.ok d S)=zuo d u ρ (zc0 l ρ S):=(rfl)
@[simp] def zyz:zuo d u ρ (.ok l S)=zun d l (zc0 u ρ S):=(rfl)
@[simp] def zyy:zun d l (.ok u S)=Out.of (slD d l u) S:=(rfl)
@[simp] def zuD:zaI f ρ S=zhu (f ρ S):=by
 show((f ρ S).bind fun d S1=>match d with|.str x=>.ok (zkk x) S1|.lst l=>.ok l S1|.tup l=>.ok l S1|.dic ds=>if zac ds then .ok ((zau ds).map D.str) S1 else .bad|_=>.bad)=_
 cases f ρ S with
 |ok d S'=>cases d<;>rfl|exc c S'=>rfl|bad=>rfl
@[simp] def zyJ{ds:List (D×D)}:zhu (.ok (.dic ds) S)=if zac ds then .ok ((zau ds).map D.str) S else .bad:=(rfl)
@[simp] def zyI{x:Str}:zhu (.ok (.str x) S)=.ok (zkk x) S:=(rfl)
@[simp] def zyL:zhu (.ok (.lst l) S)=.ok l S:=(rfl)
@[simp] def zyK:zhu (.ok (.tup l) S)=.ok l S:=(rfl)
@[simp] def zxx:zrq f g ρ S=zxb (zas [f,g] ρ S):=by
 unfold zrq;cases zas [f,g] ρ S<;>rfl
@[simp] def zwJ{l k:List D}:zxb (.ok [.tup l,.tup k] S)=.ok (zgR l k) S:=(rfl)
@[simp] def zwk:zeu f ρ S=ztg (zas [f] ρ S):=by
 unfold zeu;cases zas [f] ρ S<;>rfl
@[simp] def zwQ:ztg (.ok [.int j] S)=if -1000000<=j/\j<=1000000 then .ok (za8 0 j) S else .bad:=(rfl)
@[simp] def zww:zbQ n t it c f caps ρ S=zqO t c f (zbW n caps ρ) (it ρ S):=by
 unfold zbQ
 cases it ρ S with
 |ok ds S'=>
  simp only[Out.bind,zqO]
  cases zbg t c f (zbW n caps ρ) ds S'<;>rfl
 |exc c S'=>rfl|bad=>rfl
@[simp] def zw4:zqO t c f ρ0 (.ok ds S)=zlP (zbg t c f ρ0 ds S):=(rfl)
@[simp] def zvC:zlP (.ok ys S)=if zaD ys.length then .ok (.lst ys) S else .bad:=(rfl)
@[simp] def zrv:zbW n caps ρ=List.replicate n none++caps.map (zfC ρ):=(rfl)
@[simp] def zwx:zfC ρ i=zxk ρ[i]?:=(rfl)
@[simp] def zyX:zxk (some (some (false,d)))=some (false,d):=(rfl)
def zan:zbc n own fs ds S=zup own (fs (ds.map (fun d=>some (false,d))++List.replicate (n-ds.length) none) S):=(rfl)
@[simp] def zwP:zup own (.rt d S)=.ok d S:=(rfl)
@[simp] def zwO:zup false (.nx ρ S)=.ok .non S:=(rfl)
@[simp] def zwN:zup own (.ex x ρ S)=.exc x S:=(rfl)
@[simp] def zxK{b:Bool}:isB (.bl b)=some b:=(rfl)
@[simp] def zxE{b:Bool}:zcl (.bl b)=some (.bl (!b)):=(rfl)
@[simp] def zwz:zbD (.int i) (.int j)=some (.int (i+j)):=(rfl)
@[simp] def zwy:zbD (.tup x) (.tup y)=if zaD (x.length+y.length)then some (.tup (x++y))else none:=(rfl)
@[simp] def zxG:zji (.int i) (.int j)=if zbY i||zbY j then some (.int (i*j))else none:=(rfl)
@[simp] def zxH:zoS (.int i) (.int j)=if 0<j then some (.int (i % j))else none:=(rfl)
@[simp] def zxU:ztJ (.int i) (.int j)=if 0<j/\j<1073741824 then some (.int (i / j))else none:=(rfl)
@[simp] def zzq:ltD (.int i) (.int j)=some (.bl (decide (i<j))):=(rfl)
@[simp] def zzr:leD (.int i) (.int j)=some (.bl (decide (i<=j))):=(rfl)
@[simp] def zzs:gtD (.int i) (.int j)=some (.bl (decide (j<i))):=(rfl)
@[simp] def zxJ:ixD (.lst l) (.int i)=atI l i:=(rfl)
@[simp] def zru:ixD (.tup l) (.int i)=atI l i:=(rfl)
@[simp] def zxI:ixD (.scr l) (.int i)=(atI l i).map D.int:=(rfl)
@[simp] def zew:zc1 [.tup l]=some (.int l.length):=(rfl)
@[simp] def zwo:zc1 [.scr l]=some (.int l.length):=(rfl)
@[simp] def zwb:zcb [.lst l]=some (.tup l):=(rfl)
@[simp] def zxz:slD (.lst l) x y=some (.lst (zrs l x y)):=(rfl)
@[simp] def zuz:zaD n=decide (n<=100000):=(rfl)
def zag{α:Type}(xs:List α)(j:Nat):atI xs (j:Int)=xs[j]?:=by
 unfold atI ixN
 by_cases h:j<xs.length
 ·simp[h]
 ·simp[h]
@[simp] def zuy{α:Type}(xs:List α):atI xs 0=xs[0]?:=zag xs 0
@[simp] def zv6{α:Type}(xs:List α):atI xs 1=xs[1]?:=zag xs 1
def zjD{α:Type}{xs:List α}(h:0<=i):atI xs i=xs[i.toNat]?:=by
 obtain⟨n,rfl⟩:=ycm h;exact zag xs n
end
theorem zdz(Iv:Nat->Env->Prop)(step:∀k d ρ,ds[k]?=some d->Iv k ρ->∃ρ1 ρ2,tg.put ρ d=some ρ1/\body ρ1 S=.nx ρ2 S/\Iv (k+1) ρ2)(h0:Iv 0 ρ):∃ρ',zik tg body ds ρ S=.nx ρ' S/\Iv ds.length ρ':=by
 have go:∀(n:Nat) (es:List D) (k:Nat) (ρ:Env),es.length=n->ds.drop k=es->k+n=ds.length->Iv k ρ->∃ρ',zik tg body es ρ S=.nx ρ' S/\Iv ds.length ρ':=by
  intro n
  induction n with
  |zero=>
   intro es k ρ hl he hk hi;obtain rfl:es=[]:=ya0 hl;exact⟨ρ,rfl,by rw[show ds.length=k by omega];exact hi⟩
  |succ n ih=>
   intro es k ρ hl he hk hi
   cases es with
   |nil=>cases hl|cons d es=>
    have hd:ds[k]?=some d:=by
     have:=congrArg (fun l=>l[0]?) he;rw[ybn]at this;simpa using this
    obtain⟨ρ1,ρ2,e1,e2,hi2⟩:=step k d ρ hd hi;obtain⟨ρ',e3,e4⟩:=ih es (k+1) ρ2 (by simpa using hl) (by rw[<-List.drop_drop,he];rfl) (by omega) hi2;refine⟨ρ',?_,e4⟩;unfold zik;rw[e1];dsimp only;rw[e2];exact e3
 exact go ds.length ds 0 ρ rfl (by simp) (by omega) h0
theorem zfx:∀{ds:List D},(∀d∈ds,∃ρ1,tg.put ρ0 d=some ρ1/\c ρ1 S=.ok (.bl (p d)) S/\(p d=true->elt ρ1 S=.ok (g d) S))->zbg tg c elt ρ0 ds S=.ok ((ds.filter p).map g) S
 |[],_=>rfl|d::ds,h=>by
  obtain⟨ρ1,e1,e2,e3⟩:=h d yam;have ih:=zfx (ds:=ds) fun x hx=>h x (yak _ hx)
  unfold zbg;rw[e1];dsimp only;rw[e2]
  cases hp:p d with
  |true=>simp[e3 hp,ih,hp]|false=>simp[ih,hp]
def zaA(h:∀d∈ds,∃ρ1,tg.put ρ0 d=some ρ1/\elt ρ1 S=.ok (g d) S):zbg tg zcJ elt ρ0 ds S=.ok (ds.map g) S:=by
 have:=zfx (c:=zcJ) (p:=fun _=>true) (tg:=tg) (elt:=elt) (ρ0:=ρ0) (S:=S) (g:=g) (ds:=ds) fun d hd=>by
  obtain⟨ρ1,e1,e2⟩:=h d hd;exact⟨ρ1,e1,rfl,fun _=>e2⟩
 rw[this,List.filter_eq_self.mpr (fun _ _=>rfl)]
mutual
noncomputable def D.pl:D->Bool
 |.non=>true|.int _=>true|.str _=>true|.tup l=>D.pls l|.lst l=>D.pls l|_=>false
noncomputable def D.pls:List D->Bool
 |[]=>true|d::l=>d.pl&&D.pls l
end
theorem D.pls_iff:∀{l:List D},D.pls l=true↔∀d∈l,d.pl=true
 |[]=>by simp[D.pls]
 |d::l=>by simp[D.pls,D.pls_iff (l:=l)]
mutual
theorem zfZ:∀(d e:D),d.pl=true->e.pl=true->(d.py.eqv e.py=true↔d=e)
 |.non,e,_,h=>by cases e<;>simp[D.py,PyData.eqv,D.pl]at h ⊢
 |.int i,e,_,h=>by cases e<;>simp[D.py,PyData.eqv,D.pl]at h ⊢
 |.str x,e,_,h=>by cases e<;>simp[D.py,PyData.eqv,D.pl]at h ⊢
 |.tup l,e,hd,h=>by
  cases e with
  |tup k=>
   simp only[D.py,PyData.eqv,D.pl]at hd h ⊢;rw[zio l k hd h];simp
  |_=>simp[D.py,PyData.eqv,D.pl]at h ⊢
 |.lst l,e,hd,h=>by
  cases e with
  |lst k=>
   simp only[D.py,PyData.eqv,D.pl]at hd h ⊢;rw[zio l k hd h];simp
  |_=>simp[D.py,PyData.eqv,D.pl]at h ⊢
 |.bl _,_,hd,_=>by simp[D.pl]at hd
 |.dic _,_,hd,_=>by simp[D.pl]at hd
 |.ref _,_,hd,_=>by simp[D.pl]at hd
 |.exc _,_,hd,_=>by simp[D.pl]at hd
 |.scr _,_,hd,_=>by simp[D.pl]at hd
theorem zio:∀(l k:List D),D.pls l=true->D.pls k=true->(PyData.eqvAll (D.pys l) (D.pys k)=true↔l=k)
 |[],[],_,_=>by simp[D.pys,PyData.eqvAll]
 |[],_::_,_,_=>by simp[D.pys,PyData.eqvAll]
 |_::_,[],_,_=>by simp[D.pys,PyData.eqvAll]
 |d::l,e::k,h1,h2=>by
  simp only[D.pls,yaa]at h1 h2;simp only[D.pys,PyData.eqvAll,yaa,List.cons.injEq];rw[zfZ d e h1.1 h2.1,zio l k h1.2 h2.2]
end
@[simp] def zmd:D.fit n (.int i)=true:=by cases n<;>rfl
@[simp] def zq6:D.fit n .non=true:=by cases n<;>rfl
@[simp] def zvQ:D.fit (n+1) (.tup l)=D.fits n l:=(rfl)
@[simp] def zuv:D.fits n []=true:=by cases n<;>rfl
@[simp] def ztC:D.fits n (d::l)=(d.fit n&&D.fits n l):=by cases n<;>rfl
@[simp] def zxM:eqD (.int i) (.int j)=some (.bl (decide (i=j))):=by
 unfold eqD zeO;simp[D.py,PyData.eqv]
 cases h:(i==j)<;>simp_all
@[simp] def zxF:neD (.int i) (.int j)=some (.bl (!decide (i=j))):=by
 unfold neD zeO;simp[D.py,PyData.eqv]
 cases h:(i==j)<;>simp_all
def zf0:eqD (.scr l) (.lst [])=some (.bl (decide (l=[]))):=by
 cases l with
 |nil=>rfl|cons a l=>simp[eqD,D.fit,D.fits,zeO,D.py,D.pys,PyData.eqv,PyData.eqvAll]
noncomputable def zka(l:List Int)(k:Int):Int:=if k<l.length then l.getD k.toNat 0 else if l=[]then 0 else l.getD (k % l.length).toNat 0*31+k
def za9(l:List Int)(k:Int)(many:Int):Int:=
 let d:=(zka l k+6151*(k+1))*40692 % 2147483399
 (d*d+d / 31) % 2147483629 % many
def zbq(l:List Int)(k:Int)(h:0<many):0<=za9 l k many/\za9 l k many<many:=⟨ycM _ (by omega),ycd _ h⟩
@[simp] def zxp:zbY 31=true:=by decide
@[simp] def zuw:zbY 6151=true:=by decide
@[simp] def ztE:zbY 40692=true:=by decide
theorem ztD(h0:-(2 ^ 64)<i)(h:i<2 ^ 64):zbY i=true:=by unfold zbY;simp;omega
theorem zm9(hk:0<=k):zbH [.scr l,.int k] S=.ok (.int (zka l k)) S:=by
 unfold zka
 by_cases h:k<l.length
 ·have hx:l[k.toNat]?=some l[k.toNat]:=yad (by omega);rw[if_pos h,yaO,hx];simp[zbH,zan,zck,h,zjD hk,hx]
 ·by_cases h0:l=[]
  ·subst h0;simp[zbH,zan,zck,zf0,show ¬ k<0 by omega]
  ·have hl:0<l.length:=by cases l with|nil=>exact absurd rfl h0|cons _ _=>simp
   have hm0:0<=k % (l.length:Int):=ycM _ (by omega);have hm1:k % (l.length:Int)<l.length:=ycd _ (by omega);have hx:l[(k % (l.length:Int)).toNat]?=some (l[(k % (l.length:Int)).toNat]'(by omega)):=yad (by omega);rw[if_neg h,if_neg h0,yaO,hx];simp[zbH,zan,zck,h,h0,zf0,zjD hm0,hx,hl]
theorem za4(hk:0<=k)(hm:0<many):zar [.scr l,.int k,.int many] S=.ok (.int (za9 l k many)) S:=by
 unfold za9;have h0:0<=(zka l k+6151*(k+1))*40692 % 2147483399:=ycM _ (by omega);have h1:(zka l k+6151*(k+1))*40692 % 2147483399<2147483399:=ycd _ (by omega);have hf:zbY ((zka l k+6151*(k+1))*40692 % 2147483399)=true:=ztD (by omega) (by omega);simp[zar,zan,zdO,zm9 hk,hf,hm]
noncomputable def zah(t:List Int):D:=.tup (t.map D.int)
def znV{t u:List Int}:t.map D.int=u.map D.int↔t=u:=by
 constructor
 ·intro h
  induction t generalizing u with
  |nil=>cases u with|nil=>rfl|cons _ _=>cases h
  |cons a t ih=>cases u with
   |nil=>cases h|cons b u=>
    simp only[yaw,List.cons.injEq,D.int.injEq]at h;rw[h.1,ih h.2]
 ·rintro rfl;rfl
def zmU:zah t=zah u↔t=u:=by unfold zah;rw[D.tup.injEq];exact znV
def znl{t:List Int}:D.pls (t.map D.int)=true:=by rw[D.pls_iff];intro d hd;obtain⟨i,_,rfl⟩:=yag.mp hd;rfl
def zid:(zah t).pl=true:=znl
def zmc{t:List Int}:D.fits n (t.map D.int)=true:=by rw[D.fits_iff];intro d hd;obtain⟨i,_,rfl⟩:=yag.mp hd;exact zmd
def zgA:(zah t).fit (n+1)=true:=zmc
theorem zoT:∀{l:List D},d.pl=true->D.pls l=true->(zko d l=true↔d∈l)
 |[],_,_=>by simp[zko]
 |e::l,h,hl=>by
  simp only[D.pls,yaa]at hl;have ih:=zoT (d:=d) (l:=l) h hl.2;have e1:=zfZ e d hl.1 h;unfold zko;simp only[yc2,ych,yat];unfold zko at ih;rw[ih];unfold zeO;rw[e1]
  constructor<;>(intro z;rcases z with z|z<;>simp[z])
def zhn{ts:Z2}:zmK (zah t) (.lst (ts.map zah))=some (.bl (!decide (t∈ts))):=by
 have f1:(zah t).fit 8=true:=zgA
 have f2:D.fits 8 (ts.map zah)=true:=by rw[D.fits_iff];intro d hd;obtain⟨i,_,rfl⟩:=yag.mp hd;exact zgA
 have p2:D.pls (ts.map zah)=true:=by rw[D.pls_iff];intro d hd;obtain⟨i,_,rfl⟩:=yag.mp hd;exact zid
 have m:=zoT (d:=zah t) zid p2
 have:(zah t∈ts.map zah)↔t∈ts:=by
  rw[yag];constructor
  ·rintro⟨u,hu,e⟩;rw[<-zmU.mp e];exact hu
  ·intro h;exact⟨t,h,rfl⟩
 rw[this]at m;unfold zmK;simp only[zkU,f1,f2,Bool.and_self,ycT,Option.some.injEq,D.bl.injEq];congr 1
 by_cases h:t∈ts
 ·rw[m.mpr h];simp[h]
 ·cases hm:zko (zah t) (ts.map zah)
  ·simp[h]
  ·exact absurd (m.mp hm) h
structure Tiles(most:Int)(ts:Z2):Prop where
 ne:1<=ts.length
 le:(ts.length:Int)<=most
 four:∀t∈ts,t.length=4
 col:∀t∈ts,∀c∈t,0<=c/\c<3
 nd:ts.Nodup
def zce{k:Nat}(h:(za8 0 hi)[k]?=some d):d=.int k/\(k:Int)<hi:=by
 unfold za8 at h;rw[yau]at h
 cases hr:(List.range (hi-0).toNat)[k]? with
 |none=>rw[hr]at h;cases h|some j=>
  rw[hr]at h;obtain⟨h1,h2⟩:=yan.mp hr;simp at h1 h2;subst h2;simp at h;exact⟨h.symm,by omega⟩
@[simp] def zd2:(za8 0 hi).length=hi.toNat:=by unfold za8;simp
def zle(h:d∈za8 0 hi):∃k:Nat,d=.int k/\(k:Int)<hi:=by
 obtain⟨k,hk⟩:=List.getElem?_of_mem h;exact⟨k,zce hk⟩
def zgp(h:d.pl=true)(f:d.fit 9=true):neD d d=some (.bl false):=by
 unfold neD zeO;rw[f,(zfZ d d h h).mpr rfl];rfl
def zmf(h:d.pl=true)(f:d.fit 9=true):eqD d d=some (.bl true):=by
 unfold eqD zeO;rw[f,(zfZ d d h h).mpr rfl];rfl
def zsc:za8 0 4=[.int 0,.int 1,.int 2,.int 3]:=by rfl
@[simp] def zzd:zbY 4=true:=by decide
@[simp] def zzc:zbY 7=true:=by decide
theorem zpp(ha:0<=at')(hk:0<=k)(hc:0<col)(hc3:col<=3)(hn:ts.length<=1000):
  ∃t y',t.length=4/\(∀c∈t,0<=c/\c<3)/\zbk [some (false,.scr l),some (false,.int at'),some (false,.int most),some (false,.int col),some (true,.lst (ts.map zah)),some (false,.int k),y] S
   = .nx [some (false,.scr l),some (false,.int at'),some (false,.int most),some (false,.int col),some (true,.lst ((if t∈ts then ts else ts++[t]).map zah)),some (false,.int k),y'] S:=by
 have hcomp:∀ρ0:Env,ρ0=[none,some (false,.int at'),some (false,.int col),some (false,.int k),some (false,.scr l)]->zbg (.one 0) zcJ (eFn zar [(zae 4),(zaj zbD (zaj zbD (zaj zbD (zai 1) (zaj zji (zad (.int 4)) (zai 3))) (zad (.int 2))) (zai 0)),(zae 2)]) ρ0 (za8 0 4) S
   = .ok ([za9 l (at'+4*k+2+0) col,za9 l (at'+4*k+2+1) col,za9 l (at'+4*k+2+2) col,za9 l (at'+4*k+2+3) col].map D.int) S:=by
  rintro _ rfl;rw[zsc,zaA (g:=fun d=>match d with|.int i=>.int (za9 l (at'+4*k+2+i) col)|_=>.non)]
  ·rfl
  ·intro d hd;simp only[yat,ybY,or_false]at hd
   rcases hd with rfl|rfl|rfl|rfl<;>exact⟨_,rfl,by simp;rw[za4 (by omega) hc]⟩
 have b0:=zbq l (at'+4*k+2+0) hc;have b1:=zbq l (at'+4*k+2+1) hc;have b2:=zbq l (at'+4*k+2+2) hc;have b3:=zbq l (at'+4*k+2+3) hc;generalize za9 l (at'+4*k+2+0) col=p0 at*;generalize za9 l (at'+4*k+2+1) col=p1 at*;generalize za9 l (at'+4*k+2+2) col=p2 at*;generalize za9 l (at'+4*k+2+3) col=p3 at*
 have fin:∀t:List Int,(zak (sFz [] (sIf (zaj zmK (zai 6) (zai 4)) (zak (sFz [6] (zoA 4 (zae 6))) sNx) sNx)) sNx) [some (false,.scr l),some (false,.int at'),some (false,.int most),some (false,.int col),some (true,.lst (ts.map zah)),some (false,.int k),some (false,zah t)] S
   = .nx [some (false,.scr l),some (false,.int at'),some (false,.int most),some (false,.int col),some (true,.lst ((if t∈ts then ts else ts++[t]).map zah)),some (false,.int k),some (false,zah t)] S:=by
  intro t
  by_cases h:t∈ts
  ·simp[zhn,h]
  ·simp[zhn,h,show ts.length<=100000 by omega]
 by_cases h3:za9 l (at'+60+k) 3=0
 ·refine⟨[p0,p1,p0,p1],some (false,zah [p0,p1,p0,p1]),rfl,by simp;omega,?_⟩;rw[<-fin];simp[zbk,hcomp,za4 (show 0<=at'+60+k by omega) (show(0:Int)<3 by omega),h3];rfl
 ·refine⟨[p0,p1,p2,p3],some (false,zah [p0,p1,p2,p3]),rfl,by simp;omega,?_⟩;rw[<-fin];simp[zbk,hcomp,za4 (show 0<=at'+60+k by omega) (show(0:Int)<3 by omega),h3];rfl
theorem zk3(ha:0<=at')(hm:0<most)(hm2:most<=100):∃ts,Tiles most ts/\zcp [.scr l,.int at',.int most] S=.ok (.tup (ts.map zah)) S:=by
 have b:=zbq l at' (many:=2) (by omega);have n:=zbq l (at'+1) hm;have p1:=za4 (l:=l) (S:=S) ha (show(0:Int)<2 by omega);have p2:=za4 (l:=l) (S:=S) (show 0<=at'+1 by omega) hm;generalize za9 l at' 2=c at*;generalize za9 l (at'+1) most=m at*
 obtain⟨ρ',e,ts,x,y,rfl,h1,h2,h3,h4,h5⟩:=zdz (tg:=.one 5) (body:=zbk) (ds:=za8 0 (1+m)) (S:=S) (fun k ρ=>∃ts x y,ρ=[some (false,.scr l),some (false,.int at'),some (false,.int most),some (false,.int (2+c)),some (true,.lst (ts.map zah)),x,y]/\ts.length<=k/\(0<k->1<=ts.length)/\(∀t∈ts,t.length=4)/\(∀t∈ts,∀c∈t,0<=c/\c<3)/\ts.Nodup) (by
   rintro k d ρ hd ⟨ts,x,y,rfl,h1,h2,h3,h4,h5⟩;obtain⟨rfl,hk⟩:=zce hd;obtain⟨t,y',a1,a2,a3⟩:=zpp (l:=l) (at':=at') (most:=most) (col:=2+c) (k:=k) (S:=S) (ts:=ts) (y:=y) ha (by omega) (by omega) (by omega) (by omega);refine⟨_,_,rfl,a3,_,_,_,rfl,?_,?_,?_,?_,?_⟩
   ·split<;>(try simp)<;>omega
   ·intro _;split
    ·rename_i h;exact List.length_pos_of_mem h
    ·simp
   ·intro u hu;split at hu
    ·exact h3 u hu
    ·rw[yaH,yaK]at hu
     rcases hu with hu|rfl
     ·exact h3 u hu
     ·exact a1
   ·intro u hu;split at hu
    ·exact h4 u hu
    ·rw[yaH,yaK]at hu
     rcases hu with hu|rfl
     ·exact h4 u hu
     ·exact a2
   ·split
    ·exact h5
    ·rename_i h;rw[ycs];refine⟨h5,by simp,?_⟩
     intro a ha b hb;rw[yaK]at hb;subst hb;rintro rfl;exact h ha)
  (ρ:=[some (false,.scr l),some (false,.int at'),some (false,.int most),some (false,.int (2+c)),some (true,.lst []),none,none]) ⟨[],none,none,rfl,by simp,by simp,by simp,by simp,by simp⟩
 rw[zd2]at h1 h2;refine⟨ts,⟨h2 (by omega),by omega,h3,h4,h5⟩,?_⟩;simp[zcp,zan,zdi,p1,p2,show -1000000<=1+m/\1+m<=1000000 by omega,e]
noncomputable def oD:Option Int->D|none=>.non|some i=>.int i
noncomputable def zkn(c:Nat)(g:Nat->Option Int):List D:=(List.range c).map fun j=>oD (g j)
def zu9(c:Nat)(g:Nat->Option Int):D:=.tup (zkn c g)
noncomputable def zn0(r c:Nat)(g:Z1):List D:=(List.range r).map fun i=>zu9 c (g i)
def flr(r c:Nat)(g:Z1):D:=.tup (zn0 r c g)
@[simp] def zna:(zkn c g).length=c:=by simp[zkn]
@[simp] def zuu:(zn0 r c g).length=r:=by simp[zn0]
def zlc:zkn (k+1) g=zkn k g++[oD (g k)]:=by simp[zkn,List.range_succ]
def zmb:zn0 (k+1) c g=zn0 k c g++[zu9 c (g k)]:=by simp[zn0,List.range_succ]
def zlv(l:List Int)(at' n m:Int)(i j:Nat):Option Int:=if za9 l (at'+7*i+j) (n*m)<n then some (za9 l (at'+7*i+j) (n*m))else none
theorem zsP(h:0<n*m):∀x,zlv l at' n m i j=some x->0<=x/\x<n:=by
 intro x e;unfold zlv at e;have:=zbq l (at'+7*i+j) h;split at e
 ·cases e;omega
 ·cases e
theorem zn1{l:List Int}{at' m:Int}{ts:List D}{r c:Nat}{i:Nat}{S:Sto}{A B Mm:Option (Bool×D)}{y:Option (Bool×D)}{z:Option (Bool×D)}(ha:0<=at')(hp:0<(ts.length:Int)*m)(hm:zbY m=true)(hc:c<=1000):
  ∃y' z',zik (.one 9) zbl (za8 0 c) [some (false,.scr l),some (false,.int at'),some (false,.tup ts),A,B,some (false,.int m),Mm,some (false,.int i),some (true,.lst []),y,z] S
   = .nx [some (false,.scr l),some (false,.int at'),some (false,.tup ts),A,B,some (false,.int m),Mm,some (false,.int i),some (true,.lst (zkn c (zlv l at' ts.length m i))),y',z'] S:=by
 obtain⟨ρ',e,y',z',rfl⟩:=zdz (tg:=.one 9) (body:=zbl) (ds:=za8 0 c) (S:=S) (fun k ρ=>∃y z,ρ=[some (false,.scr l),some (false,.int at'),some (false,.tup ts),A,B,some (false,.int m),Mm,some (false,.int i),some (true,.lst (zkn k (zlv l at' ts.length m i))),y,z]) (by
  rintro k d ρ hd ⟨y,z,rfl⟩;obtain⟨rfl,hk⟩:=zce hd;have p:=za4 (l:=l) (S:=S) (show 0<=at'+7*(i:Int)+(k:Int)by omega) hp;have pn:=zbq l (at'+7*(i:Int)+(k:Int)) hp;refine⟨_,_,rfl,?_,some (false,.int k),some (false,.int (za9 l (at'+7*i+k) (ts.length*m))),rfl⟩
  ·rw[zlc]
   by_cases h:za9 l (at'+7*(i:Int)+(k:Int)) (ts.length*m)<ts.length
   ·simp[zbl,p,hm,h,zlv,oD,show k<=100000 by omega]
   ·simp[zbl,p,hm,h,zlv,oD,show k<=100000 by omega])
  (ρ:=[some (false,.scr l),some (false,.int at'),some (false,.tup ts),A,B,some (false,.int m),Mm,some (false,.int i),some (true,.lst []),y,z]) ⟨y,z,rfl⟩
 exact⟨y',z',by simpa using e⟩
theorem zk7(ha:0<=at')(hp:0<(ts.length:Int)*m)(hm:zbY m=true)(hr:0<=r)(hr2:r<=1000)(hc:0<=c)(hc2:c<=1000):
  zcq [.scr l,.int at',.tup ts,.int r,.int c,.int m] S=.ok (flr r.toNat c.toNat (zlv l at' ts.length m)) S:=by
 obtain⟨r,rfl⟩:=ycm hr;obtain⟨c,rfl⟩:=ycm hc
 obtain⟨ρ',e,x1,x2,x3,x4,rfl⟩:=zdz (tg:=.one 7) (body:=zcC) (ds:=za8 0 r) (S:=S) (fun k ρ=>∃x1 x2 x3 x4,ρ=[some (false,.scr l),some (false,.int at'),some (false,.tup ts),some (false,.int r),some (false,.int c),some (false,.int m),some (true,.lst (zn0 k c (zlv l at' ts.length m))),x1,x2,x3,x4]) (by
  rintro k d ρ hd ⟨x1,x2,x3,x4,rfl⟩;obtain⟨rfl,hk⟩:=zce hd;obtain⟨y',z',e⟩:=zn1 (l:=l) (at':=at') (m:=m) (ts:=ts) (r:=r) (c:=c) (i:=k) (S:=S) (A:=some (false,.int r)) (B:=some (false,.int c)) (Mm:=some (true,.lst (zn0 k c (zlv l at' ts.length m)))) (y:=x3) (z:=x4) ha hp hm (by omega);refine⟨_,_,rfl,?_,some (false,.int k),some (true,.lst (zkn c (zlv l at' ts.length m k))),y',z',rfl⟩
  ·rw[zmb]
   simp[zcC,e,zu9,show -1000000<=(c:Int)/\(c:Int)<=1000000 by omega,show k<=100000 by omega])
  (ρ:=[some (false,.scr l),some (false,.int at'),some (false,.tup ts),some (false,.int r),some (false,.int c),some (false,.int m),some (true,.lst []),none,none,none,none]) ⟨none,none,none,none,rfl⟩
 simp at e;simp[zcq,zan,zdj,e,flr,show -1000000<=(r:Int)/\(r:Int)<=1000000 by omega]
end S2
namespace TX
open PySem
noncomputable abbrev L(x:Str):List Nat:=x.cps.toList
noncomputable abbrev T(l:List Nat):Str:=⟨l.toArray⟩
def zgN{a b:Str}(h:L a=L b):a=b:=Str.ext' (Array.toList_inj.mp h)
def L_T(l:List Nat):L (T l)=l:=List.toList_toArray
def TL(x:Str):T (L x)=x:=zgN (L_T _)
def zkh(a b:Str):L (a++b)=L a++L b:=by show(a.cps++b.cps).toList=_;simp
def zdF(a:Str):(L a).length=a.length:=by show a.cps.toList.length=a.cps.size;simp
def zfF:("\n":Str)=⟨#[10]⟩:=by decide +kernel
def zrU:(" ":Str)=⟨#[32]⟩:=by decide +kernel
def zq9:("":Str)=⟨#[]⟩:=by decide +kernel
noncomputable def jn(c:Nat):List (List Nat)->List Nat
 |[]=>[]|[x]=>x|x::y::r=>x++c::jn c (y::r)
theorem zgt(c:Nat):∀ps:List Str,L (Str.join ⟨#[c]⟩ ps)=jn c (ps.map L)
 |[]=>rfl|[x]=>rfl|x::y::r=>by
  show L (x++⟨#[c]⟩++Str.join ⟨#[c]⟩ (y::r))=L x++c::jn c ((y::r).map L);rw[zkh,zkh,zgt c (y::r)];show(L x++[c])++_=_;rw[ybt];rfl
theorem zgu:∀ps:List Str,L (Str.join ⟨#[]⟩ ps)=(ps.map L).flatten
 |[]=>rfl|[x]=>by simp[Str.join]
 |x::y::r=>by
  show L (x++⟨#[]⟩++Str.join ⟨#[]⟩ (y::r))=L x++((y::r).map L).flatten;rw[zkh,zkh,zgu (y::r)];show(L x++[])++_=_;rw[yaP]
def zqR{c:Nat}{x:List Nat}{r:List (List Nat)}(h:r≠[]):jn c (x::r)=x++c::jn c r:=by
 cases r with
 |nil=>exact absurd rfl h|cons y r=>rfl
theorem zo8{c:Nat}:∀{a b x y:List Nat},c ∉ a->c ∉ b->a++c::x=b++c::y->a=b/\x=y
 |[],[],x,y,_,_,h=>⟨rfl,(List.cons.inj h).2⟩|[],b::bs,x,y,_,hb,h=>absurd (yat.mpr (.inl (List.cons.inj h).1)) hb|a::as,[],x,y,ha,_,h=>absurd (yat.mpr (.inl (List.cons.inj h).1.symm)) ha|a::as,b::bs,x,y,ha,hb,h=>by
  obtain⟨h1,h2⟩:=List.cons.inj h;obtain⟨e1,e2⟩:=zo8 (fun z=>ha (yak _ z)) (fun z=>hb (yak _ z)) h2;exact⟨by rw[h1,e1],e2⟩
theorem zoV{c:Nat}:∀{ps qs:List (List Nat)},ps≠[]->qs≠[]->(∀p∈ps,c ∉ p)->(∀p∈qs,c ∉ p)->jn c ps=jn c qs->ps=qs
 |[],_,h,_,_,_,_=>absurd rfl h|_,[],_,h,_,_,_=>absurd rfl h|[x],[y],_,_,_,_,h=>by rw[show x=y from h]
 |[x],y::z::r,_,_,h1,_,h=>by
  have h:x=y++c::jn c (z::r):=h;exact absurd (by rw[h];exact yaH.mpr (.inr yam)) (h1 x yam)
 |y::z::r,[x],_,_,_,h1,h=>by
  have h:y++c::jn c (z::r)=x:=h;exact absurd (by rw[<-h];exact yaH.mpr (.inr yam)) (h1 x yam)
 |x::y::r,x'::y'::r',_,_,h1,h2,h=>by
  obtain⟨e1,e2⟩:=zo8 (h1 x yam) (h2 x' yam) (show x++c::jn c (y::r)=x'++c::jn c (y'::r')from h);rw[e1,zoV (ps:=y::r) (qs:=y'::r') (List.cons_ne_nil _ _) (List.cons_ne_nil _ _) (fun p hp=>h1 p (yak _ hp)) (fun p hp=>h2 p (yak _ hp)) e2]
def zmW(x y:Str):Txt.split x y≠[]:=by
 unfold Txt.split;split
 ·exact fun z=>nomatch z
 ·split
  ·exact fun z=>nomatch z
  ·rw[StrLaws.partsBetween_eq];obtain⟨p,r,e⟩:=StrLaws.partsFrom_ne x y.length 0 (Builtin.Str.occurrences x y 0 x.length (x.length+1))
   rw[e];exact fun z=>nomatch z
def zge(x:Str)(c:Nat):jn c ((Txt.split x ⟨#[c]⟩).map L)=L x:=by rw[<-zgt,StrLaws.join_split]
def zlB{ps qs:List Str}(h:ps.map L=qs.map L):ps=qs:=by
 have:=congrArg (List.map T) h;rw[yav,yav]at this;have e:(T∘L)=id:=funext TL
 rwa[e,ycP,ycP]at this
def zed{c:Nat}{ps:List Str}(h:ps≠[])(hc:∀p∈ps,c ∉ L p){x:Str}(hx:L x=jn c (ps.map L)):Txt.split x ⟨#[c]⟩=ps:=by
 refine zlB (zoV (c:=c) (fun z=>zmW x _ (ybe.mp z)) (fun z=>h (ybe.mp z)) (fun p hp=>?_) (fun p hp=>?_) (by rw[zge,hx]))
 ·obtain⟨q,hq,rfl⟩:=yag.mp hp;exact StrLaws.split_free x c q hq
 ·obtain⟨q,hq,rfl⟩:=yag.mp hp;exact hc q hq
def zeV(x:Str)(c:Nat):(Txt.split x ⟨#[c]⟩).length<=x.length+1/\∀p∈Txt.split x ⟨#[c]⟩,p.length<=x.length:=by
 have key:∀ps:List (List Nat),ps.length<=(jn c ps).length+1/\∀p∈ps,p.length<=(jn c ps).length:=by
  intro ps
  induction ps with
  |nil=>exact⟨yaM _,fun p hp=>nomatch hp⟩|cons a r ih=>
   by_cases hr:r=[]
   ·subst hr;refine⟨?_,fun p hp=>?_⟩
    ·show 1<=a.length+1;omega
    ·obtain rfl:=yaK.mp hp;exact yal _
   ·rw[zqR hr,yah,yae,yae];refine⟨by have:=ih.1;omega,fun p hp=>?_⟩
    rcases yat.mp hp with rfl|hp
    ·omega
    ·have:=ih.2 p hp;omega
 obtain⟨k1,k2⟩:=key ((Txt.split x ⟨#[c]⟩).map L);rw[zge,zdF,yab]at k1;refine⟨k1,fun p hp=>?_⟩;have:=k2 _ (yb1 hp)
 rwa[zge,zdF,zdF]at this
def zmg(x:Str):Txt.endswith x ⟨#[10]⟩=true↔∃b,L x=b++[10]:=by
 unfold Txt.endswith;rw[yaa,StrLaws.subAt_eq,yaT];show(0+1<=x.length/\(((L x).drop (x.length-1)).take 1==[10])=true)↔_;rw[yby,<-zdF];constructor
 ·rintro⟨h1,h2⟩;refine⟨(L x).take ((L x).length-1),?_⟩;have e:=List.take_append_drop ((L x).length-1) (L x);rw[List.take_of_length_le (by rw[List.length_drop];omega)]at h2;rw[h2]at e;exact e.symm
 ·rintro⟨b,e⟩;rw[e,yah,ycw];refine⟨by omega,?_⟩;rw[Nat.add_sub_cancel,List.drop_left];rfl
def zfM{x:Str}{b:List Nat}{c:Nat}(h:L x=b++[c]):Txt.slice x none (some (-1))=T b:=by
 have hl:x.length=b.length+1:=by rw[<-zdF,h,yah];rfl
 have e:Txt.slice x none (some (-1))=_:=StrLaws.sliceText_to_neg (x:=x) (j:=-1) (by decide) (by omega);rw[e,show x.cps.toList=b++[c]from h,hl,List.drop_zero,show(-1+((b.length+1:Nat):Int)-0).toNat=b.length by omega,List.take_left]
noncomputable def dI(i:Int):Str:=toString i
noncomputable abbrev dg(n:Nat):Str:=dI n
def zn9:∀n,n<9->dg n=⟨#[48+n]⟩:=by decide +kernel
def zmp:∀n,n<12->10 ∉ L (dg n)/\32 ∉ L (dg n)/\(L (dg n)).length<=2/\L (dg n)≠[]:=by decide +kernel
def ztu(c:Nat):(!(Builtin.Str.occurrences ("012345678":Str) ⟨#[c]⟩ 0 ("012345678":Str).length 1).isEmpty)=decide (48<=c/\c<=56):=by
 rw[StrLaws.found_one]
 have e:("012345678":Str).cps.toList=[48,49,50,51,52,53,54,55,56]:=by decide +kernel
 rw[e]
 by_cases h:48<=c/\c<=56
 ·rw[yaz h,yaz]
  have:∀c,c<=56->48<=c->c∈[48,49,50,51,52,53,54,55,56]:=by decide
  exact this c h.2 h.1
 ·rw[yaJ h,yaJ];intro z;apply h;simp only[yat,ybY,or_false]at z;omega
def zt4:∀c,c<=56->48<=c->(Builtin.Str.occurrences ("012345678":Str) ⟨#[c]⟩ 0 ("012345678":Str).length 1).head?=some (c-48):=by decide +kernel
end TX
namespace S2
open PySem TX
open L2 hiding D
def zum(g:Str->D->Option D)(x:Str):Out D->Out D|.ok d S=>Out.of (g x d) S|.exc c S=>.exc c S|.bad=>.bad
noncomputable def kSm(g:Str->D->Option D)(f:Fe)(ρ:Env):Out D->Out D|.ok d S=>(match d with|.str x=>zum g x (f ρ S)|_=>.bad)|.exc c S=>.exc c S|.bad=>.bad
def znQ(ds:List (D×D))(k:D):Out D->Out D|.ok z S=>(match k with|.str x=>.ok ((zab x ds).getD z) S|_=>.bad)|.exc c S=>.exc c S|.bad=>.bad
noncomputable def znR(f2:Fe)(ρ:Env)(ds:List (D×D)):Out D->Out D|.ok k S=>znQ ds k (f2 ρ S)|.exc c S=>.exc c S|.bad=>.bad
def ztj(f f2:Fe)(ρ:Env):Out D->Out D|.ok d S=>(match d with|.dic ds=>if zac ds then znR f2 ρ ds (f ρ S)else .bad|_=>.bad)|.exc c S=>.exc c S|.bad=>.bad
noncomputable def ztk(k:Str):Out D->Out D|.ok d S=>.ok (.dic [(.str k,d)]) S|.exc c S=>.exc c S|.bad=>.bad
def zuq(i:Nat)(ρ:Env)(ds:List (D×D))(d:D):Out D->Fo|.ok k S=>(match k with|.str x=>.nx (ρ.set i (some (true,.dic (putS x d ds)))) S|_=>.bad)|.exc c S=>.ex c ρ S|.bad=>.bad
noncomputable def zur(i:Nat)(fk:Fe)(ρ:Env)(ds:List (D×D)):Out D->Fo|.ok d S=>zuq i ρ ds d (fk ρ S)|.exc c S=>.ex c ρ S|.bad=>.bad
noncomputable def kPX(i:Nat)(fk fe:Fe)(ρ:Env)(S:Sto):Option (List (D×D))->Fo|some ds=>zur i fk ρ ds (fe ρ S)|none=>.bad
section
variable{f f2 fo:Fe}{ρ:Env}{S:Sto}{g:Str->D->Option D}{x y:Str}{d z:D}{ds:List (D×D)}{i j:Nat}{a:Fs}
@[simp] def zxO:eSm g fo f ρ S=kSm g f ρ (fo ρ S):=by
 unfold eSm
 cases fo ρ S with
 |ok d S1=>
  cases d with
  |str x=>show(f ρ S1).bind _=zum g x (f ρ S1);cases f ρ S1<;>rfl|_=>rfl
 |exc c S1=>rfl|bad=>rfl
@[simp] def zyx:kSm g f ρ (.ok (.str x) S)=zum g x (f ρ S):=(rfl)
@[simp] def zyw:zum g x (.ok d S)=Out.of (g x d) S:=(rfl)
@[simp] def zuF:zeH fo f f2 ρ S=ztj f f2 ρ (fo ρ S):=by
 unfold zeH
 cases fo ρ S with
 |ok d S1=>
  cases d with
  |dic ds=>
   show(if zac ds then _ else _)=(if zac ds then _ else _);split
   ·show(f ρ S1).bind _=znR f2 ρ ds (f ρ S1)
    cases f ρ S1 with
    |ok k S2=>show(f2 ρ S2).bind _=znQ ds k (f2 ρ S2);cases f2 ρ S2<;>rfl|exc c S2=>rfl|bad=>rfl
   ·rfl
  |_=>rfl
 |exc c S1=>rfl|bad=>rfl
@[simp] def zwZ:ztj f f2 ρ (.ok (.dic ds) S)=if zac ds then znR f2 ρ ds (f ρ S)else .bad:=(rfl)
@[simp] def zwY:znR f2 ρ ds (.ok d S)=znQ ds d (f2 ρ S):=(rfl)
@[simp] def zwX:znQ ds (.str x) (.ok z S)=.ok ((zab x ds).getD z) S:=(rfl)
@[simp] def zuH:zj8 x f ρ S=ztk x (f ρ S):=by unfold zj8;cases f ρ S<;>rfl
@[simp] def zw3:ztk x (.ok d S)=.ok (.dic [(.str x,d)]) S:=(rfl)
def zpi{fk fe:Fe}:zdJ i fk fe ρ S=kPX i fk fe ρ S (zg2 i ρ):=by
 unfold zdJ
 cases zg2 i ρ with
 |none=>rfl|some ds=>
  show _=zur i fk ρ ds (fe ρ S)
  cases fe ρ S with
  |ok d S1=>
   show _=zuq i ρ ds d (fk ρ S1);dsimp only
   cases fk ρ S1 with
   |ok k S2=>cases k<;>rfl|exc c S2=>rfl|bad=>rfl
  |exc c S1=>rfl|bad=>rfl
@[simp] def zzv:kPX i f f2 ρ S (some ds)=zur i f ρ ds (f2 ρ S):=(rfl)
@[simp] def zyB:zur i f ρ ds (.ok d S)=zuq i ρ ds d (f ρ S):=(rfl)
@[simp] def zyA:zuq i ρ ds d (.ok (.str x) S)=.nx (ρ.set i (some (true,.dic (putS x d ds)))) S:=(rfl)
@[simp] def zwr:zmh x (.str y)=some (.bl (Txt.endswith x y)):=(rfl)
@[simp] def zxV{x y:Str}:zbD (.str x) (.str y)=if zaD (x.length+y.length)then some (.str (x++y))else none:=(rfl)
@[simp] def zxy{l u:Option Int}:slD (.str x) l u=if zaD x.length then some (.str (Txt.slice x l u))else none:=(rfl)
@[simp] def zuC{l:List D}:zfG x (.lst l)=(zeU l).bind fun ts=>if JoinOk x ts then some (.str (Txt.join x ts))else none:=(rfl)
@[simp] def zue:zdV x (.str y)=if !(y.length==0)&&zaD x.length then some (.lst ((Txt.split x y).map D.str))else none:=(rfl)
@[simp] def zwc{n:Int}:zos [.int n]=if decide (-1000<=n/\n<=1000)then some (.str (dI n))else none:=(rfl)
end
theorem zdp{α:Type}(t:α->Str):∀l:List α,zeU (l.map fun a=>D.str (t a))=some (l.map t)
 |[]=>rfl|a::l=>by
  show(zeU (l.map fun a=>D.str (t a))).map _=_;rw[zdp t l];rfl
def zff{sep:Str}{ts:List Str}(h1:ts.length<=1000)(h2:∀t∈ts,t.length<=1000)(h3:sep.length<=1):JoinOk sep ts=true:=by
 unfold JoinOk;rw[yaG];refine StrLaws.joinFits (B:=1000) h2 ?_;have:=Nat.mul_le_mul h1 (yal 1000);have:=Nat.mul_le_mul h1 h3;omega
def zfg(sep:Str)(ts:List Str):Txt.join sep ts=Str.join sep ts:=StrLaws.glued_eq_join sep ts
open PySem
def zxi(cn f:Str):Out D->Out D|.ok d S=>(match zo1 cn f d S with|some r=>.ok r S|none=>.bad)|.exc c S=>.exc c S|.bad=>.bad
noncomputable def zjo(G:List D->Sto->Out D)(d:D):Out (List D)->Out D|.ok ds S=>G (d::ds) S|.exc c S=>.exc c S|.bad=>.bad
def zti(c m:Str)(G:List D->Sto->Out D)(fs:List Fe)(ρ:Env):Out D->Out D|.ok d S=>if zaG c m d S then zjo G d (zas fs ρ S)else .bad|.exc c S=>.exc c S|.bad=>.bad
noncomputable def zus(n:Nat):Out D->Out D|.ok .non S=>.ok (.ref n) S|.ok _ _=>.bad|.exc c S=>.exc c S|.bad=>.bad
noncomputable def kMk(c:Str)(dds:List D)(G:List D->Sto->Out D):Out (List D)->Out D|.ok ds S=>zus S.length (G (.ref S.length::(ds++dds)) (S++[⟨c,[]⟩]))|.exc c S=>.exc c S|.bad=>.bad
section
variable{ρ:Env}{S:Sto}{f:Fe}{n i:Nat}
@[simp] def zwu:zmi c x f ρ S=zxi c x (f ρ S):=by unfold zmi;cases f ρ S<;>rfl
@[simp] def zyR:zxi c x (.ok d S)=(match zo1 c x d S with|some r=>.ok r S|none=>.bad):=(rfl)
@[simp] def zpk:zaU c m G f fs ρ S=zti c m G fs ρ (f ρ S):=by
 unfold zaU
 cases f ρ S with
 |ok d S1=>
  show(if zaG c m d S1 then(zas fs ρ S1).bind fun ds S2=>G (d::ds) S2 else .bad)=(if zaG c m d S1 then zjo G d (zas fs ρ S1)else .bad)
  cases zas fs ρ S1<;>rfl
 |exc c S=>rfl|bad=>rfl
@[simp] def ztf:zti c m G fs ρ (.ok d S)=if zaG c m d S then zjo G d (zas fs ρ S)else .bad:=(rfl)
@[simp] def zqM:zjo G d (.ok ds S)=G (d::ds) S:=(rfl)
@[simp] def zxR:eMk c dds G fs ρ S=kMk c dds G (zas fs ρ S):=by
 unfold eMk
 cases zas fs ρ S with
 |ok ds S1=>
  show((G (.ref S1.length::(ds++dds)) (S1++[⟨c,[]⟩])).bind fun r S2=>match r with|.non=>.ok (.ref S1.length) S2|_=>.bad)=zus S1.length (G (.ref S1.length::(ds++dds)) (S1++[⟨c,[]⟩]))
  cases G (.ref S1.length::(ds++dds)) (S1++[⟨c,[]⟩])with
  |ok r S2=>cases r<;>rfl|exc c S=>rfl|bad=>rfl
 |exc c S=>rfl|bad=>rfl
@[simp] def zzw:kMk c dds G (.ok ds S)=zus S.length (G (.ref S.length::(ds++dds)) (S++[⟨c,[]⟩])):=(rfl)
@[simp] def zyG:zus n (.ok .non S)=.ok (.ref n) S:=(rfl)
noncomputable def alb(ts:D)(ds:List (D×D))(dn un:List D):Ob:=⟨"Album",[("tiles",false,ts),("named",true,.tup [.dic ds]),("done",true,.tup [.lst dn]),("undone",true,.tup [.lst un])]⟩
variable{ts:D}{ds ds':List (D×D)}{dn un dn' un':List D}
def zfB:zeE (alb ts ds dn un)=true:=by
 show decide (["tiles","named","done","undone"]:List Str).Nodup=true;decide
def zcX(h:S[n]?=some (alb ts ds dn un)):zo1 "Album" "tiles" (.ref n) S=some ts:=by unfold zo1;dsimp only;rw[h];rfl
def zcY(hi:ρ[i]?=some (some (false,.ref n)))(h:S[n]?=some (alb ts ds dn un))(ho:zac ds=true):dicI "Album" "named" ρ S i=some (n,alb ts ds dn un,ds):=by
 unfold dicI zjd;rw[hi];dsimp only[zrn];rw[h];show(if zac ds then some (n,alb ts ds dn un,ds)else none)=_;rw[if_pos ho]
def ziD(hi:ρ[i]?=some (some (false,.ref n)))(h:S[n]?=some (alb ts ds dn un)):zjd "Album" "done" ρ S i=some (n,alb ts ds dn un,.lst dn):=by
 unfold zjd;rw[hi];dsimp only[zrn];rw[h];rfl
def zmA(hi:ρ[i]?=some (some (false,.ref n)))(h:S[n]?=some (alb ts ds dn un)):zjd "Album" "undone" ρ S i=some (n,alb ts ds dn un,.lst un):=by
 unfold zjd;rw[hi];dsimp only[zrn];rw[h];rfl
def zaK{m:Str}(h:S[n]?=some (alb ts ds dn un))(hm:(m==("tiles":Str))=false/\(m==("named":Str))=false/\(m==("done":Str))=false/\(m==("undone":Str))=false):zaG "Album" m (.ref n) S=true:=by
 unfold zaG;dsimp only;rw[h];show(true&&(List.lookup m _).isNone)=true;simp[alb,List.lookup,hm]
def zkS{ob ob':Ob}(h:S[n]?=some ob):(S.set n ob')[n]?=some ob':=by
 rw[yaC (yan.mp h).1]
def zy2{k:Str}(hi:ρ[i]?=some (some (false,.ref n)))(h:S[n]?=some (alb ts ds dn un))(ho:zac ds=true){j:Nat}(hj:ρ[j]?=some (some (false,.str k))):eQ (zne "Album" "named" i (zbI j)) ρ S=.ok (.bl (zab k ds).isSome) S:=by
 unfold eQ zne;rw[zcY hi h ho,show zbI j ρ S=some (.str k)by unfold zbI;rw[hj]]
def zsW{k:Str}(hi:ρ[i]?=some (some (false,.ref n)))(h:S[n]?=some (alb ts ds dn un))(ho:zac ds=true){j:Nat}(hj:ρ[j]?=some (some (false,.str k))):eQ (zfE "Album" "named" i (zbI j)) ρ S=.ok (.bl (!(zab k ds).isSome)) S:=by
 unfold eQ zfE;rw[zcY hi h ho,show zbI j ρ S=some (.str k)by unfold zbI;rw[hj]]
def zyZ{k:Str}{d:D}(hi:ρ[i]?=some (some (false,.ref n)))(h:S[n]?=some (alb ts ds dn un))(ho:zac ds=true){j:Nat}(hj:ρ[j]?=some (some (false,.str k)))(hd:zab k ds=some d):eQ (zp5 "Album" "named" i (zbI j)) ρ S=.ok d S:=by
 unfold eQ zp5;rw[zcY hi h ho,show zbI j ρ S=some (.str k)by unfold zbI;rw[hj]];dsimp only;rw[hd]
noncomputable def nmd(k:Str)(d:D)(ds:List (D×D)):List (D×D):=match d with|.non=>dropS k ds|d=>putS k d ds
def zi2(h:S[n]?=some ob):S.set n ob=S:=by
 apply ycZ;intro m
 by_cases e:n=m
 ·subst e;rw[zkS h,h]
 ·rw[yaQ e]
theorem zfs{k:Str}:∀{ds:List (D×D)},zac ds=true->zab k ds=none->dropS k ds=ds
 |[],_,_=>rfl|(.str x,d)::r,ho,h=>by
  unfold zac at ho;rw[yaa]at ho;unfold zab at h;split at h
  ·cases h
  ·rename_i hx;unfold dropS;rw[if_neg hx,zfs ho.2 h]
def zm7{k:Str}{d:D}(h:S[n]?=some (alb ts ds dn un))(ho:zac ds=true)(hl:ds.length<=100000):zaF [.ref n,.str k,d] S=.ok .non (S.set n (alb ts (nmd k d ds) dn un)):=by
 by_cases hn:zek d=true
 ·have e:d=.non:=zhw hn;subst e
  have e1:∀ρ:Env,ρ[0]?=some (some (false,.ref n))->ρ[1]?=some (some (false,.str k))->zjO "Album" "named" 0 (zbI 1) ρ S=.nx ρ (S.set n (alb ts (dropS k ds) dn un)):=by
   intro ρ h0 h1;unfold zjO;rw[show zbI 1 ρ S=some (.str k)by unfold zbI;rw[h1],zcY h0 h ho];dsimp only;rw[if_pos zfB]
   cases hl:zab k ds with
   |some d=>rfl|none=>
    dsimp only[Option.isSome];have:dropS k ds=ds:=zfs ho hl;rw[this,if_neg (by decide)];congr 1;exact(zi2 h).symm
  have e3:zj2 .non .non=some (.bl true):=rfl;simp[zaF,zan,za5,e3,e1,nmd]
 ·have e1:∀ρ:Env,ρ[0]?=some (some (false,.ref n))->ρ[1]?=some (some (false,.str k))->ρ[2]?=some (some (false,d))->zjN "Album" "named" 0 (zbI 1) (zbI 2) ρ S=.nx ρ (S.set n (alb ts (putS k d ds) dn un)):=by
   intro ρ h0 h1 h2;unfold zjN;rw[show zbI 1 ρ S=some (.str k)by unfold zbI;rw[h1],show zbI 2 ρ S=some d by unfold zbI;rw[h2],zcY h0 h ho];dsimp only;rw[if_pos (by rw[zfB,show zaD ds.length=true from yaz hl];rfl)];rfl
  have e2:nmd k d ds=putS k d ds:=by
   unfold nmd
   cases d<;>first|rfl|exact absurd rfl hn
  have hn':zek d=false:=by simpa using hn
  rw[e2]
  have e3:zj2 d .non=some (.bl false):=by unfold zj2;rw[hn'];rfl
  simp[zaF,zan,za5,e3,e1]
end
section
variable{ρ:Env}{S:Sto}{n i:Nat}{ts:D}{ds:List (D×D)}{dn un:List D}
def qv{j:Nat}{d:D}(h:ρ[j]?=some (some (false,d))):zbI j ρ S=some d:=by unfold zbI;rw[h]
def zk9{w k:Str}{d:D}(h:S[n]?=some (alb ts ds dn un))(ho:zac ds=true)(hl:ds.length<=100000)(hd:dn.length<=100000):
  zb9 [.ref n,.str w,.str k,d] S=.ok .non (S.set n (alb ts (nmd k d ds) (dn++[.tup [.str w,.str k,(zab k ds).getD .non,d]]) [])):=by
 have e1:∀ρ:Env,ρ[0]?=some (some (false,.ref n))->ρ[1]?=some (some (false,.str w))->ρ[2]?=some (some (false,.str k))->ρ[3]?=some (some (false,d)) →
   zjQ "Album" "done" 0 [(zbI 1),(zbI 2),(zhg "Album" "named" 0 (zbI 2)),(zbI 3)] ρ S=.nx ρ (S.set n (alb ts ds (dn++[.tup [.str w,.str k,(zab k ds).getD .non,d]]) un)):=by
  intro ρ h0 h1 h2 h3
  have q:zin [(zbI 1),(zbI 2),(zhg "Album" "named" 0 (zbI 2)),(zbI 3)] ρ S=some [.str w,.str k,(zab k ds).getD .non,d]:=by
   have g:zhg "Album" "named" 0 (zbI 2) ρ S=some ((zab k ds).getD .non):=by unfold zhg;rw[qv h2,zcY h0 h ho]
   simp only[zin,qv h1,qv h2,qv h3,g,Option.bind,Option.map]
  unfold zjQ;rw[ziD h0 h,q];dsimp only;rw[if_pos (by rw[zfB,show zaD dn.length=true from yaz hd];rfl)];rfl
 generalize hx:dn++[.tup [.str w,.str k,(zab k ds).getD .non,d]]=dn' at e1 ⊢;have h1:(S.set n (alb ts ds dn' un))[n]?=some (alb ts ds dn' un):=zkS h
 have e2:∀ρ:Env,ρ[0]?=some (some (false,.ref n))->zfD "Album" "undone" 0 ρ (S.set n (alb ts ds dn' un))=.nx ρ (S.set n (alb ts ds dn' [])):=by
  intro ρ h0;unfold zfD;rw[h0];dsimp only;rw[h1];show(if _ then Fo.nx ρ ((S.set n (alb ts ds dn' un)).set n (alb ts ds dn' []))else _)=_;rw[if_pos (by rfl),List.set_set]
 have h2:(S.set n (alb ts ds dn' []))[n]?=some (alb ts ds dn' []):=zkS h;have e3:=zm7 (k:=k) (d:=d) h2 ho hl;have m:zaG "Album" "name_floor" (.ref n) (S.set n (alb ts ds dn' []))=true:=zaK h2 (by decide);simp[zb9,zan,zet,e1,e2,e3,m]
noncomputable def zcm(k:Str):Prop:=k="a" \/ k="b" \/ k="c" \/ k="sheet"
def zds{k:Str}(h:zcm k):zc6 [.str k] S=.ok (.bl true) S:=by
 rcases h with rfl|rfl|rfl|rfl<;>kernel_rfl
def zbe{k:Str}(h:zcm k):zaZ [.str k] S=.ok .non S:=by
 simp[zaZ,zan,zbU,zds h,zcl]
def za7{k:Str}{d:D}(hk:zcm k)(h:S[n]?=some (alb ts ds dn un))(ho:zac ds=true)(hd:zab k ds=some d):zao [.ref n,.str k] S=.ok d S:=by
 have e1:∀ρ:Env,ρ[0]?=some (some (false,.ref n))->ρ[1]?=some (some (false,.str k))->eQ (zfE "Album" "named" 0 (zbI 1)) ρ S=.ok (.bl false) S:=fun ρ h0 h1=>by rw[zsW h0 h ho h1,hd];rfl
 have e2:∀ρ:Env,ρ[0]?=some (some (false,.ref n))->ρ[1]?=some (some (false,.str k))->eQ (zp5 "Album" "named" 0 (zbI 1)) ρ S=.ok d S:=fun ρ h0 h1=>zyZ h0 h ho h1 hd
 simp[zao,zan,zbm,zds hk,zcl,e1,e2]
def zcz{k:Str}(hk:zcm k)(h:S[n]?=some (alb ts ds dn un))(ho:zac ds=true)(hd:zab k ds=none):zao [.ref n,.str k] S=.exc "NoName" S:=by
 have e1:∀ρ:Env,ρ[0]?=some (some (false,.ref n))->ρ[1]?=some (some (false,.str k))->eQ (zfE "Album" "named" 0 (zbI 1)) ρ S=.ok (.bl true) S:=fun ρ h0 h1=>by rw[zsW h0 h ho h1,hd];rfl
 simp[zao,zan,zbm,zds hk,zcl,e1]
def zpY{k:Str}{d:D}(hk:zcm k)(hn:zek d=false)(h:S[n]?=some (alb ts ds dn un))(ho:zac ds=true)(hl:ds.length<=100000)(hd:dn.length<=100000)(hf:zaL [ts,d] S=.ok (.bl true) S):
  zaO [.ref n,.str k,d] S=.ok (.bl (zab k ds).isSome) (S.set n (alb ts (putS k d ds) (dn++[.tup [.str "put",.str k,(zab k ds).getD .non,d]]) [])):=by
 have e1:∀ρ:Env,ρ[0]?=some (some (false,.ref n))->ρ[1]?=some (some (false,.str k))->eQ (zne "Album" "named" 0 (zbI 1)) ρ S=.ok (.bl (zab k ds).isSome) S:=fun ρ h0 h1=>zy2 h0 h ho h1
 have e3:=zk9 (w:="put") (k:=k) (d:=d) h ho hl hd
 have en:nmd k d ds=putS k d ds:=by
  unfold nmd
  cases d<;>first|rfl|cases hn
 rw[en]at e3;have m:zaG "Album" "do" (.ref n) S=true:=zaK h (by decide);simp[zaO,zan,zdP,zbe hk,zcX h,hf,zcl,e1,e3,m]
def zm6{k:Str}{d:D}(hk:zcm k)(h:S[n]?=some (alb ts ds dn un))(ho:zac ds=true)(hl:ds.length<=100000)(hd:dn.length<=100000)(he:zab k ds=some d):
  zaw [.ref n,.str k] S=.ok d (S.set n (alb ts (dropS k ds) (dn++[.tup [.str "take",.str k,d,.non]]) [])):=by
 have e1:=za7 hk h ho he;have e3:=zk9 (w:="take") (k:=k) (d:=.non) h ho hl hd;rw[he]at e3;have e4:nmd k .non ds=dropS k ds:=rfl;rw[e4]at e3;have m:zaG "Album" "do" (.ref n) S=true:=zaK h (by decide);have m2:zaG "Album" "floor_of" (.ref n) S=true:=zaK h (by decide);simp[zaw,zan,zcv,e1,e3,m,m2]
def zh3{k:Str}(hk:zcm k)(h:S[n]?=some (alb ts ds dn un))(ho:zac ds=true)(he:zab k ds=none):zaw [.ref n,.str k] S=.exc "NoName" S:=by
 have e1:=zcz hk h ho he;have m2:zaG "Album" "floor_of" (.ref n) S=true:=zaK h (by decide);simp[zaw,zan,zcv,e1,m2]
noncomputable def zj1(b:Bool)(x y:D)(S:Sto):Out D:=if b then zb0 [x,y] S else zcN [x,y] S
def zm8{k k1 k2:Str}{b:Bool}{x y z:D}(hk:zcm k)(hk1:zcm k1)(hk2:zcm k2)(hn:zek z=false)(h:S[n]?=some (alb ts ds dn un))(ho:zac ds=true)(hl:ds.length<=100000)(hd:dn.length<=100000)
  (h1:zab k1 ds=some x) (h2:zab k2 ds=some y) (hj:zj1 b x y S=.ok z S) (hf:zaL [ts,z] S=.ok (.bl true) S):
  zal [.ref n,.str k,.str k1,.str k2,.bl b] S=.ok z (S.set n (alb ts (putS k z ds) (dn++[.tup [.str "join",.str k,(zab k ds).getD .non,z]]) [])):=by
 have e1:=za7 hk1 h ho h1;have e2:=za7 hk2 h ho h2;have e3:=zk9 (w:="join") (k:=k) (d:=z) h ho hl hd
 have en:nmd k z ds=putS k z ds:=by
  unfold nmd
  cases z<;>first|rfl|cases hn
 rw[en]at e3;have m:zaG "Album" "do" (.ref n) S=true:=zaK h (by decide);have m2:zaG "Album" "floor_of" (.ref n) S=true:=zaK h (by decide)
 cases b with
 |true=>
  have hj':zb0 [x,y] S=.ok z S:=hj;simp[zal,zan,zaH,zbe hk,e1,e2,hj',zcX h,hf,zcl,e3,m,m2]
 |false=>
  have hj':zcN [x,y] S=.ok z S:=hj;simp[zal,zan,zaH,zbe hk,e1,e2,hj',zcX h,hf,zcl,e3,m,m2]
def zhb{k k1 k2:Str}{b:Bool}(hk:zcm k)(hk1:zcm k1)(h:S[n]?=some (alb ts ds dn un))(ho:zac ds=true)(h1:zab k1 ds=none):zal [.ref n,.str k,.str k1,.str k2,.bl b] S=.exc "NoName" S:=by
 have e1:=zcz hk1 h ho h1;have m2:zaG "Album" "floor_of" (.ref n) S=true:=zaK h (by decide);simp[zal,zan,zaH,zbe hk,e1,m2]
def zha{k k1 k2:Str}{b:Bool}{x:D}(hk:zcm k)(hk1:zcm k1)(hk2:zcm k2)(h:S[n]?=some (alb ts ds dn un))(ho:zac ds=true)(h1:zab k1 ds=some x)(h2:zab k2 ds=none):zal [.ref n,.str k,.str k1,.str k2,.bl b] S=.exc "NoName" S:=by
 have e1:=za7 hk1 h ho h1;have e2:=zcz hk2 h ho h2;have m2:zaG "Album" "floor_of" (.ref n) S=true:=zaK h (by decide);simp[zal,zan,zaH,zbe hk,e1,e2,m2]
def zcL{k k1 k2:Str}{b:Bool}{x y:D}(hk:zcm k)(hk1:zcm k1)(hk2:zcm k2)(h:S[n]?=some (alb ts ds dn un))(ho:zac ds=true)(h1:zab k1 ds=some x)(h2:zab k2 ds=some y)
  (hj:zj1 b x y S=.exc "Unlike" S\/∃z,zj1 b x y S=.ok z S/\zaL [ts,z] S=.ok (.bl false) S):zal [.ref n,.str k,.str k1,.str k2,.bl b] S=.exc "Unlike" S:=by
 have e1:=za7 hk1 h ho h1;have e2:=za7 hk2 h ho h2;have m2:zaG "Album" "floor_of" (.ref n) S=true:=zaK h (by decide)
 cases b with
 |true=>
  rcases hj with hj|⟨z,hj,hf⟩
  ·have hj':zb0 [x,y] S=.exc "Unlike" S:=hj;simp[zal,zan,zaH,zbe hk,e1,e2,hj',m2]
  ·have hj':zb0 [x,y] S=.ok z S:=hj;simp[zal,zan,zaH,zbe hk,e1,e2,hj',zcX h,hf,zcl,m2]
 |false=>
  rcases hj with hj|⟨z,hj,hf⟩
  ·have hj':zcN [x,y] S=.exc "Unlike" S:=hj;simp[zal,zan,zaH,zbe hk,e1,e2,hj',m2]
  ·have hj':zcN [x,y] S=.ok z S:=hj;simp[zal,zan,zaH,zbe hk,e1,e2,hj',zcX h,hf,zcl,m2]
end
noncomputable def FlD(rs:List (List D)):D:=.tup (rs.map D.tup)
noncomputable def zmI(n:Nat)(d:D):Prop:=d=.non\/∃x:Int,d=.int x/\0<=x/\x<n
structure FlOk(n c:Nat)(rs:List (List D)):Prop where
 ne:1<=rs.length
 c1:1<=c
 row:∀r∈rs,r.length=c/\∀d∈r,zmI n d
section
variable{S:Sto}{n c c':Nat}{rs rs':List (List D)}{tl:List D}
def zdZ{x:Int}:zcF [.int x] S=.ok (.bl true) S:=by
 simp[zcF,zan,zes,zel,zcl]
def zbn{l:List D}{a b:Int}:zaN [.tup l,.int a,.int b] S=.ok (.bl (decide (a<=l.length/\(l.length:Int)<=b))) S:=by
 by_cases h:a<=(l.length:Int)
 ·simp[zaN,zan,zb4,zel,h]
 ·simp[zaN,zan,zb4,zel,h]
def zjR{d:D}(h:zmI tl.length d):zcE [.tup tl,d] S=.ok (.bl true) S:=by
 rcases h with rfl|⟨x,rfl,h1,h2⟩
 ·have e:zj2 .non .non=some (.bl true):=rfl;simp[zcE,zan,zd7,e]
 ·have e:zj2 (.int x) .non=some (.bl false):=rfl;simp[zcE,zan,zd7,e,zc7,zde,zdZ,h1,h2]
theorem zhQ{α:Type}(f:α->Bool):∀l:List α,zgJ (l.map fun x=>.bl (f x))=some (l.map f)
 |[]=>rfl|a::l=>by rw[yaw];unfold zgJ;rw[zhQ f l];rfl
theorem all_map{α:Type}{f:α->Bool}{l:List α}:zmM [.lst (l.map fun x=>.bl (f x))]=some (.bl (l.all f)):=by
 show(zgJ _).map _=_;rw[zhQ];show some (D.bl ((l.map f).all id))=_;rw[List.all_map];rfl
theorem zk6{row:List D}(h1:1<=row.length)(hz:row.length<=1000)(h:∀d∈row,zmI tl.length d):zdu [.tup tl,.tup row] S=.ok (.bl (decide (row.length<=6))) S:=by
 have ec:zbg (.one 0) zcJ (eFn zcE [(zae 1),(zae 0)]) [none,some (false,.tup tl)] row S=.ok (row.map fun _=>.bl true) S:=by
  refine zaA fun d hd=>⟨_,rfl,?_⟩
  simp[zjR (h d hd)]
 have ea:=all_map (f:=fun _:D=>true) (l:=row)
 by_cases h6:row.length<=6
 ·have e6:((1:Int)<=row.length/\(row.length:Int)<=6):=⟨by omega,by omega⟩;simp[zdu,zan,zeR,zbn,e6,ec,ea,zfC,show row.length<=100000 by omega,h6]
 ·have e6:¬ ((1:Int)<=row.length/\(row.length:Int)<=6):=fun z=>h6 (by omega)
  simp[zdu,zan,zeR,zbn,e6,h6]
theorem zcd(h:FlOk tl.length c rs)(hr:rs.length<=1000)(hc:c<=1000):zaL [.tup tl,FlD rs] S=.ok (.bl (decide (rs.length<=6/\c<=6))) S:=by
 unfold FlD
 by_cases h6:rs.length<=6
 ·have e6:((1:Int)<=(rs.map D.tup).length/\((rs.map D.tup).length:Int)<=6):=by rw[yab];have:=h.ne;exact⟨by omega,by omega⟩
  have ec:zbg (.one 0) zcJ (eFn zdu [(zae 1),(zae 0)]) [none,some (false,.tup tl)] (rs.map D.tup) S=.ok ((rs.map D.tup).map fun _=>.bl (decide (c<=6))) S:=by
   refine zaA fun d hd=>?_
   obtain⟨r,hr',rfl⟩:=yag.mp hd;obtain⟨hl,hok⟩:=h.row r hr';refine⟨_,rfl,?_⟩;have e:=zk6 (S:=S) (tl:=tl) (row:=r) (by rw[hl];exact h.c1) (by rw[hl];exact hc) hok;rw[hl]at e;simp[e]
  have ea:=all_map (f:=fun _:D=>decide (c<=6)) (l:=rs.map D.tup)
  obtain⟨r0,zbR,hrs⟩:∃r0 zbR,rs=r0::zbR:=by
   cases hx:rs with
   |nil=>have:=h.ne;rw[hx]at this;cases this|cons a b=>exact⟨a,b,rfl⟩
  have ef:((rs.map D.tup).all fun _=>decide (c<=6))=decide (c<=6):=by
   rw[hrs]
   by_cases hc6:c<=6
   ·simp[hc6]
   ·simp[hc6]
  rw[ef]at ea
  by_cases hc6:c<=6
  ·have ed:zbg (.one 0) zcJ (zaj eqD (zaz zc1 [(zai 0)]) (zaz zc1 [(zaj ixD (zai 1) (zad (.int 0)))])) [none,some (false,.tup (rs.map D.tup))] (rs.map D.tup) S=.ok ((rs.map D.tup).map fun _=>.bl true) S:=by
    refine zaA fun d hd=>?_
    obtain⟨r,hr',rfl⟩:=yag.mp hd;have l1:=(h.row r hr').1;have l2:=(h.row r0 (by rw[hrs];exact yam)).1;refine⟨_,rfl,?_⟩
    have ea:atI (rs.map D.tup) 0=some (.tup r0):=by
     have:=zag (rs.map D.tup) 0;rw[hrs]at this ⊢;exact this
    simp[ea,l1,l2]
   have eb:=all_map (f:=fun _:D=>true) (l:=rs.map D.tup);rw[yaz hc6]at ec ea;generalize rs.map D.tup=R at*;simp[zaL,zan,zcI,zbn,e6,ec,ea,ed,eb,zfC,zcl,h6,hc6,show R.length<=100000 by omega]
  ·rw[yaJ hc6]at ec ea;generalize rs.map D.tup=R at*;simp[zaL,zan,zcI,zbn,e6,ec,ea,zfC,zcl,hc6,show R.length<=100000 by omega]
 ·have e6:¬ ((1:Int)<=(rs.map D.tup).length/\((rs.map D.tup).length:Int)<=6):=by rw[yab];intro z;omega
  generalize rs.map D.tup=R at*;simp[zaL,zan,zcI,zbn,e6,zcl,h6]
end
section
variable{S:Sto}{n c c':Nat}{rs rs':List (List D)}{tl:List D}
theorem zfU:∀t:List Int,zeG (t.map D.int)=some t
 |[]=>rfl|a::t=>by rw[yaw];unfold zeG;rw[zfU t];rfl
theorem zfQ:∀ts:List (List Int),keysOf (ts.map zah)=some ts
 |[]=>rfl|t::ts=>by rw[yaw];unfold keysOf;rw[show zqL (zah t)=some t from zfU t,zfQ ts];rfl
theorem zjS{t:List Int}(h4:t.length=4)(hc:∀c∈t,0<=c/\c<3):zc5 [zah t] S=.ok (.bl true) S:=by
 have ec:zbg (.one 0) zcJ (eFn zcM [(zae 0)]) [none] (t.map D.int) S=.ok ((t.map D.int).map fun _=>.bl true) S:=by
  refine zaA fun d hd=>?_
  obtain⟨x,hx,rfl⟩:=yag.mp hd;refine⟨_,rfl,?_⟩;have:=hc x hx;simp[zcM,zan,zdN,zdZ,show 0<=x by omega,show x<=8 by omega]
 have ea:=all_map (f:=fun _:D=>true) (l:=t.map D.int)
 have hl:(t.map D.int).length=4:=by rw[yab];exact h4
 unfold zah;generalize t.map D.int=T at*;have e4:((4:Int)<=T.length/\(T.length:Int)<=4):=⟨by omega,by omega⟩;simp[zc5,zan,zfo,zbn,e4,ec,ea,show T.length<=100000 by omega]
theorem zk5{most:Int}{ts:Z2}(h:Tiles most ts)(hm:most<=5):zbZ [.tup (ts.map zah)] S=.ok (.bl true) S:=by
 have ec:zbg (.one 0) zcJ (eFn zc5 [(zae 0)]) [none] (ts.map zah) S=.ok ((ts.map zah).map fun _=>.bl true) S:=by
  refine zaA fun d hd=>?_
  obtain⟨x,hx,rfl⟩:=yag.mp hd;refine⟨_,rfl,?_⟩;simp[zjS (h.four x hx) (h.col x hx)]
 have ea:=all_map (f:=fun _:D=>true) (l:=ts.map zah);have hl:(ts.map zah).length=ts.length:=yab _;have h1:=h.ne;have h2:=h.le
 have es:zdK (.tup (ts.map zah))=some (.int ts.length):=by
  show(keysOf (ts.map zah)).bind _=_;rw[zfQ];exact if_pos ⟨by omega,h.nd⟩
 rw[ybx.mpr (fun _ _=>rfl)]at ea;generalize ts.map zah=T at*;have e16:((1:Int)<=T.length/\(T.length:Int)<=16):=⟨by omega,by omega⟩;simp[zbZ,zan,zgC,zbn,ec,ea,es,zcl,hl,show ts.length<=100000 by omega,show(1:Int)<=ts.length by omega,show(ts.length:Int)<=16 by omega]
noncomputable def zb2(rs rs':List (List D)):List (List D):=(List.zip rs rs').map fun p=>p.1++p.2
def zcH:(zb2 rs rs').length=min rs.length rs'.length:=by unfold zb2;rw[yab,List.length_zip]
def zq4(h:FlOk n c rs):∃r0 zbR,rs=r0::zbR/\r0.length=c:=by
 cases hx:rs with
 |nil=>have:=h.ne;rw[hx]at this;cases this|cons a b=>exact⟨a,b,rfl,(h.row a (by rw[hx];exact yam)).1⟩
def at0(h:FlOk n c rs):∃r0,atI (rs.map D.tup) 0=some (.tup r0)/\r0.length=c:=by
 obtain⟨r0,zbR,rfl,hl⟩:=zq4 h;exact⟨r0,zag ((r0::zbR).map D.tup) 0,hl⟩
theorem zeN(h:FlOk n c rs):zcf [FlD rs] S=.ok (.tup [.int rs.length,.int c]) S:=by
 obtain⟨r0,e0,hl⟩:=at0 h;have h1:=h.ne;have hm:(rs.map D.tup).length=rs.length:=yab _;unfold FlD;generalize rs.map D.tup=R at*
 have hg:decide (0<(R.length:Int))=true:=by rw[hm];simp;omega
 have hg':(0<R.length):=by omega
 simp[zcf,zan,zfn,e0,hl,hm,show 0<rs.length by omega]
theorem ziH:∀(rs rs':List (List D)),zgR (rs.map D.tup) (rs'.map D.tup)=(List.zip rs rs').map fun p=>.tup [.tup p.1,.tup p.2]
 |[],_=>rfl|_::_,[]=>rfl|a::rs,b::rs'=>by rw[yaw,yaw,List.zip_cons_cons,yaw,<-ziH rs rs'];rfl
theorem zjT(h:FlOk n c rs)(h':FlOk n c' rs')(hr:rs.length<=100)(hc:c<=100)(hc':c'<=100):zb0 [FlD rs,FlD rs'] S=if rs.length=rs'.length then .ok (FlD (zb2 rs rs')) S else .exc "Unlike" S:=by
 have s1:=zeN (S:=S) h;have s2:=zeN (S:=S) h'
 have ec:zbg (.tup [0,1]) zcJ (zaj zbD (zai 0) (zai 1)) [none,none] (zgR (rs.map D.tup) (rs'.map D.tup)) S=.ok ((zb2 rs rs').map D.tup) S:=by
  rw[ziH,zaA (g:=fun d=>match d with|.tup [.tup a,.tup b]=>.tup (a++b)|_=>.non) (fun d hd=>by
   obtain⟨⟨a,b⟩,hp,rfl⟩:=yag.mp hd;refine⟨_,rfl,?_⟩;have ha:=(h.row a (ya8 hp).1).1;have hb:=(h'.row b (ya8 hp).2).1
   have hs:a.length+b.length<=100000:=by omega
   simp[hs]),yav]
  unfold zb2;rw[yav];rfl
 have hz:((zb2 rs rs').map D.tup).length<=100000:=by rw[yab,zcH];omega
 unfold FlD at*;generalize (zb2 rs rs').map D.tup=Z at*;generalize rs.map D.tup=R at*;generalize rs'.map D.tup=R' at*
 by_cases he:rs.length=rs'.length
 ·simp[zb0,zan,zeS,s1,s2,ec,hz,he]
 ·have he':¬ ((rs.length:Int)=rs'.length):=by omega
  simp[zb0,zan,zeS,s1,s2,he,he']
theorem zlb(h:FlOk n c rs)(h':FlOk n c' rs')(hr:rs.length<=100)(hr':rs'.length<=100):zcN [FlD rs,FlD rs'] S=if c=c' then .ok (FlD (rs++rs')) S else .exc "Unlike" S:=by
 have s1:=zeN (S:=S) h;have s2:=zeN (S:=S) h'
 have hz:(rs.map D.tup).length+(rs'.map D.tup).length<=100000:=by rw[yab,yab];omega
 unfold FlD at*;rw[ybK];generalize rs.map D.tup=R at*;generalize rs'.map D.tup=R' at*
 by_cases he:c=c'
 ·simp[zcN,zan,zgD,s1,s2,hz,he]
 ·have he':¬ ((c:Int)=c'):=by omega
  simp[zcN,zan,zgD,s1,s2,he,he']
theorem FlOk.beside(h:FlOk n c rs)(h':FlOk n c' rs')(he:rs.length=rs'.length):FlOk n (c+c') (zb2 rs rs')where
 ne:=by rw[zcH,<-he,Nat.min_self];exact h.ne
 c1:=by have:=h.c1;omega
 row:=fun r hr=>by
  unfold zb2 at hr;obtain⟨⟨a,b⟩,hp,rfl⟩:=yag.mp hr;obtain⟨a1,a2⟩:=h.row a (ya8 hp).1;obtain⟨b1,b2⟩:=h'.row b (ya8 hp).2;refine⟨by show(a++b).length=_;rw[yah,a1,b1],fun d hd=>?_⟩
  rcases yaH.mp hd with hd|hd
  ·exact a2 d hd
  ·exact b2 d hd
theorem FlOk.below(h:FlOk n c rs)(h':FlOk n c rs'):FlOk n c (rs++rs')where
 ne:=by rw[yah];have:=h.ne;omega
 c1:=h.c1
 row:=fun r hr=>by
  rcases yaH.mp hr with hr|hr
  ·exact h.row r hr
  ·exact h'.row r hr
end
noncomputable def zby:List (D×D)->List (Str×D)
 |(.str x,d)::r=>(x,d)::zby r|_=>[]
noncomputable def unS(ps:List (Str×D)):List (D×D):=ps.map fun p=>(.str p.1,p.2)
section
variable{ds es:List (D×D)}{k x:Str}{d:D}
def zaT(h:zac ((.str x,d)::ds)=true):zab x ds=none/\zac ds=true:=by
 unfold zac at h;rw[yaa]at h;exact⟨by simpa using h.1,h.2⟩
theorem za2:∀{ds:List (D×D)},zau ds=(zby ds).map (·.1)
 |[]=>rfl|(.str x,d)::r=>by show x::zau r=x::(zby r).map (·.1);rw[za2]
 |(.non,_)::_=>rfl|(.bl _,_)::_=>rfl|(.int _,_)::_=>rfl|(.tup _,_)::_=>rfl|(.lst _,_)::_=>rfl|(.dic _,_)::_=>rfl|(.ref _,_)::_=>rfl|(.exc _,_)::_=>rfl|(.scr _,_)::_=>rfl
theorem zbA:∀{ds:List (D×D)},zac ds=true->(zab k ds=none↔k ∉ zau ds)
 |[],_=>⟨(fun _ z=>by cases z),fun _=>rfl⟩
 |(.str x,d)::r,h=>by
  have ih:=zbA (zaT h).2;unfold zab;show _↔k ∉ x::zau r
  by_cases e:x=k
  ·rw[if_pos e];simp[e]
  ·rw[if_neg e,ih];simp[Ne.symm e]
theorem zbJ:∀{ds:List (D×D)},zac ds=true->(zau ds).Nodup
 |[],_=>List.nodup_nil|(.str x,d)::r,h=>ya7.mpr ⟨(zbA (zaT h).2).mp (zaT h).1,zbJ (zaT h).2⟩
theorem zc8:∀{ds:List (D×D)},zac ds=true->∀p∈zby ds,zab p.1 ds=some p.2
 |[],_,p,h=>by cases h
 |(.str x,d)::r,h,p,hp=>by
  cases hp with
  |head=>show(if x=x then some d else _)=_;rw[if_pos rfl]
  |tail _ hp=>
   have ih:=zc8 (zaT h).2 p hp;unfold zab;rw[if_neg (fun e=>by subst e;rw[(zaT h).1]at ih;cases ih)];exact ih
theorem zhp:∀{ds:List (D×D)},zab k ds=some d->(k,d)∈zby ds
 |(.str x,e)::r,h=>by
  unfold zab at h
  by_cases q:x=k
  ·rw[if_pos q]at h;cases h;rw[q];exact yam
  ·rw[if_neg q]at h;exact yak _ (zhp h)
theorem zlg:∀{ds:List (D×D)},zac ds=true->zab k ds=none->putS k d ds=ds++[(.str k,d)]
 |[],_,_=>rfl|(.str x,e)::r,h,hn=>by
  unfold zab at hn
  by_cases q:x=k
  ·rw[if_pos q]at hn;cases hn
  ·rw[if_neg q]at hn;unfold putS;rw[if_neg q,zlg (zaT h).2 hn];rfl
theorem zdT:∀{ps:List (Str×D)},(ps.map (·.1)).Nodup->zac (unS ps)=true/\zby (unS ps)=ps
 |[],_=>⟨rfl,rfl⟩|(x,e)::r,h=>by
  rw[yaw,ya7]at h;obtain⟨h1,h2⟩:=zdT h.2;refine⟨?_,by show(x,e)::zby (unS r)=_;rw[h2]⟩;show((zab x (unS r)).isNone&&zac (unS r))=true;rw[h1,(zbA h1).mpr (by rw[za2,h2];exact h.1)];rfl
theorem zeg:∀(ps qs:List (Str×D)),((qs++ps).map (·.1)).Nodup->ps.foldl (fun acc p=>putS p.1 p.2 acc) (unS qs)=unS (qs++ps)
 |[],qs,_=>by rw[yaP];rfl
 |p::ps,qs,h=>by
  have hq:(qs.map (·.1)).Nodup:=by rw[ybK]at h;exact(ycs.mp h).1
  obtain⟨o,pe⟩:=zdT hq
  have hn:zab p.1 (unS qs)=none:=by
   rw[zbA o,za2,pe];intro z;rw[ybK,ycs]at h;exact h.2.2 p.1 z p.1 (by simp) rfl
  rw[yce,zlg o hn];have:=zeg ps (qs++[p]) (by rw[ybt];exact h);rw[ybt]at this;refine Eq.trans ?_ this;unfold unS;rw[ybK];rfl
def zp7{ps:List (Str×D)}(h:(ps.map (·.1)).Nodup):zp8 ps=unS ps:=zeg ps [] h
theorem zli:∀(ps:List (Str×D)),zqd (ps.map fun p=>.tup [.str p.1,p.2])=some ps
 |[]=>rfl|p::ps=>by
  show(zqd (ps.map fun p=>.tup [.str p.1,p.2])).map _=_;rw[zli ps];rfl
def zf1{ps:List (Str×D)}(h:(ps.map (·.1)).Nodup):zit [.lst (ps.map fun p=>.tup [.str p.1,p.2])]=some (.dic (unS ps)):=by
 show(zqd _).map _=_;rw[zli];show some (D.dic (zp8 ps))=_;rw[zp7 h]
theorem zft:∀{ds:List (D×D)},zac ds=true->unS ((zby ds).filter fun p=>!decide (p.1=k))=dropS k ds
 |[],_=>rfl|(.str x,d)::r,h=>by
  have hh:=zaT h;have ih:=zft hh.2;show unS (((x,d)::zby r).filter _)=_;unfold dropS
  by_cases e:x=k
  ·rw[if_pos e,List.filter_cons_of_neg (by simp[e]),ih];exact zfs hh.2 (by rw[<-e];exact hh.1)
  ·rw[if_neg e,List.filter_cons_of_pos (by simp[e])];show(D.str x,d)::unS _=_;rw[ih]
theorem zcG:∀{ds:List (D×D)},zac ds=true->zab x (dropS k ds)=if k=x then none else zab x ds
 |[],_=>by show none=_;split<;>rfl
 |(.str y,e)::r,h=>by
  have hh:=zaT h;unfold dropS
  by_cases q:y=k
  ·rw[if_pos q]
   by_cases z:k=x
   ·rw[if_pos z,<-z,<-q];exact hh.1
   ·rw[if_neg z];show _=(if y=x then some e else zab x r);rw[if_neg (fun w=>z (q.symm.trans w))]
  ·rw[if_neg q];unfold zab
   by_cases w:y=x
   ·rw[if_pos w,if_neg (fun z=>q (w.trans z.symm)),if_pos w]
   ·rw[if_neg w,zcG hh.2,if_neg w]
theorem zbO:∀{ds:List (D×D)},zac ds=true->zac (dropS k ds)=true
 |[],_=>rfl|(.str y,e)::r,h=>by
  have hh:=zaT h;unfold dropS
  by_cases q:y=k
  ·rw[if_pos q];exact hh.2
  ·rw[if_neg q];show((zab y (dropS k r)).isNone&&zac (dropS k r))=true;rw[zcG hh.2,zbO hh.2,if_neg (fun z=>q z.symm),hh.1];rfl
structure Mp(ds es:List (D×D)):Prop where
 l:zac ds=true
 r:zac es=true
 eq:∀x,zab x ds=zab x es
def Mp.perm(m:Mp ds es):(zau ds).Perm (zau es):=by
 refine(List.perm_ext_iff_of_nodup (zbJ m.l) (zbJ m.r)).mpr fun x=>?_
 have h1:=zbA (k:=x) m.l;have h2:=zbA (k:=x) m.r;rw[m.eq]at h1;exact Decidable.not_iff_not.mp (h1.symm.trans h2)
theorem zd5:∀{ds:List (D×D)},zac ds=true->(zau ds).length=ds.length
 |[],_=>rfl|(.str x,d)::r,h=>by show _+1=_+1;rw[zd5 (zaT h).2]
def Mp.len(m:Mp ds es):ds.length=es.length:=by rw[<-zd5 m.l,<-zd5 m.r];exact m.perm.length_eq
def zmY{a b:List Str}(p:a.Perm b):zaC a=zaC b:=
 List.Perm.eq_of_pairwise (le:=leS) (fun x y _ _ h1 h2=>ziW (List.le_antisymm h1 h2)) (zc3 a) (zc3 b) ((zaE a).trans (p.trans (zaE b).symm))
noncomputable def PlV(ds:List (D×D)):Prop:=∀x d,zab x ds=some d->d.pl=true/\d.fit 8=true
theorem zil:∀{ds:List (D×D)},zac ds=true->PlV ds->zme ds=true
 |[],_,_=>rfl|(.str x,d)::r,h,p=>by
  have hh:=zaT h;unfold zme;rw[ya3,yaa];refine⟨(p x d (by unfold zab;rw[if_pos rfl])).2,zil hh.2 fun y e hy=>p y e ?_⟩;unfold zab;rw[if_neg (fun z=>by rw[<-z,hh.1]at hy;cases hy)];exact hy
theorem zo4:∀{ds:List (D×D)},zac ds=true->PlV ds->(∀x d,zab x ds=some d->zab x es=some d)->eqK es ds=true
 |[],_,_,_=>rfl|(.str x,d)::r,h,p,m=>by
  have hh:=zaT h
  have h0:zab x ((.str x,d)::r)=some d:=by unfold zab;rw[if_pos rfl]
  have up:∀y e,zab y r=some e->zab y ((.str x,d)::r)=some e:=fun y e hy=>by
   unfold zab;rw[if_neg (fun z=>by rw[<-z,hh.1]at hy;cases hy)];exact hy
  show((match zab x es with|some e=>zeO d e|none=>false)&&eqK es r)=true;rw[m x d h0,zo4 hh.2 (fun y e hy=>p y e (up y e hy)) fun y e hy=>m y e (up y e hy)];show(zeO d d&&true)=true;rw[show zeO d d=true from(zfZ d d (p x d h0).1 (p x d h0).1).mpr rfl];rfl
def zsY(m:Mp ds es)(p:PlV ds):neD (.dic ds) (.dic es)=some (.bl false):=by
 have p':PlV es:=fun x d h=>p x d (by rw[m.eq];exact h)
 show(zmo (.dic ds) (.dic es)).map _=_;show(if zac ds&&zac es&&zme ds&&zme es then some (ds.length==es.length&&eqK es ds)else none).map _=_;rw[m.l,m.r,zil m.l p,zil m.r p',m.len,zo4 m.l p fun x d h=>by rw[<-m.eq];exact h];simp
end
inductive DeedOk(n:Nat):D->Prop
 |put {k:Str}{rs:List (List D)}{c:Nat}:zcm k->FlOk n c rs->rs.length<=6->c<=6->DeedOk n (.tup [.str "put",.str k,FlD rs])
 |take {k:Str}:zcm k->DeedOk n (.tup [.str "take",.str k])
 |join {k k1 k2:Str}{b:Bool}:zcm k->zcm k1->zcm k2->DeedOk n (.tup [.str "join",.str k,.str k1,.str k2,.bl b])
noncomputable def nmL:List D:=[.str "a",.str "b",.str "c",.str "sheet"]
theorem zqw{p:Int}(h0:0<=p)(h4:p<4):∃k,zcm k/\atI nmL p=some (.str k):=by
 have:p=0\/p=1\/p=2\/p=3:=by omega
 rcases this with rfl|rfl|rfl|rfl
 ·exact⟨"a",.inl rfl,zag nmL 0⟩
 ·exact⟨"b",.inr (.inl rfl),zag nmL 1⟩
 ·exact⟨"c",.inr (.inr (.inl rfl)),zag nmL 2⟩
 ·exact⟨"sheet",.inr (.inr (.inr rfl)),zag nmL 3⟩
def znZ{r c:Nat}{g:Z1}:flr r c g=FlD ((List.range r).map fun i=>zkn c (g i)):=by
 unfold flr zn0 FlD;rw[yav];rfl
def ztA{n r c:Nat}{g:Z1}(h1:1<=r)(h2:1<=c)(hg:∀i j x,g i j=some x->0<=x/\x<n):FlOk n c ((List.range r).map fun i=>zkn c (g i))where
 ne:=by rw[yab,ybO];exact h1
 c1:=h2
 row:=fun row hr=>by
  obtain⟨i,_,rfl⟩:=yag.mp hr;refine⟨zna,fun d hd=>?_⟩;unfold zkn at hd;obtain⟨j,_,rfl⟩:=yag.mp hd
  cases hx:g i j with
  |none=>exact .inl rfl|some x=>exact .inr ⟨x,rfl,hg i j x hx⟩
theorem zi6{l:List Int}{at' most:Int}{ts:Z2}{S:Sto}(ha:0<=at')(ht:Tiles most ts)(hm:most<=16):∃d,DeedOk ts.length d/\zbp [.scr l,.int at',.tup (ts.map zah)] S=.ok d S:=by
 obtain⟨p0,p4⟩:=zbq l at' (many:=4) (by decide);obtain⟨w0,w6⟩:=zbq l (at'+1) (many:=6) (by decide);obtain⟨k,hk,ek⟩:=zqw p0 p4;have e1:=za4 (l:=l) (k:=at') (many:=4) (S:=S) ha (by decide);have e2:=za4 (l:=l) (k:=at'+1) (many:=6) (S:=S) (by omega) (by decide);have hnl:nmL.length=4:=rfl
 by_cases hw:za9 l (at'+1) 6<3
 ·obtain⟨r0,r3⟩:=zbq l (at'+2) (many:=3) (by decide);obtain⟨c0,c3⟩:=zbq l (at'+3) (many:=3) (by decide);have e3:=za4 (l:=l) (k:=at'+2) (many:=3) (S:=S) (by omega) (by decide);have e4:=za4 (l:=l) (k:=at'+3) (many:=3) (S:=S) (by omega) (by decide);generalize za9 l (at'+2) 3=R at*;generalize za9 l (at'+3) 3=C at*;have hne:=ht.ne
  have hp:0<(((ts.map zah).length:Nat):Int)*2:=by rw[yab];omega
  have ef:=zk7 (l:=l) (at':=at'+10) (m:=2) (ts:=ts.map zah) (r:=1+R) (c:=1+C) (S:=S) (by omega) hp (by decide) (by omega) (by omega) (by omega) (by omega);rw[znZ]at ef
  have hok:=ztA (n:=ts.length) (r:=(1+R).toNat) (c:=(1+C).toNat) (g:=zlv l (at'+10) ((ts.map zah).length:Nat) 2) (by omega) (by omega) (fun i j x hx=>by
   have:=zsP hp x hx;rw[yab]at this
   exact this)
  refine⟨_,.put hk hok (by rw[yab,ybO];omega) (by omega),?_⟩;generalize FlD _=F at*;generalize ts.map zah=T at*;generalize za9 l at' 4=P at*;generalize za9 l (at'+1) 6=W at*;have en:D.lst [.str "a",.str "b",.str "c",.str "sheet"]=.lst nmL:=rfl;simp[zbp,zan,zcj,en,e1,e2,e3,e4,ek,hw,ef]
 ·by_cases hw3:za9 l (at'+1) 6=3
  ·refine⟨_,.take hk,?_⟩;generalize ts.map zah=T at*;generalize za9 l at' 4=P at*;generalize za9 l (at'+1) 6=W at*;have en:D.lst [.str "a",.str "b",.str "c",.str "sheet"]=.lst nmL:=rfl;simp[zbp,zan,zcj,en,e1,e2,ek,hw,hw3]
  ·obtain⟨q0,q4⟩:=zbq l (at'+4) (many:=4) (by decide);obtain⟨s0,s4⟩:=zbq l (at'+5) (many:=4) (by decide);obtain⟨k1,hk1,ek1⟩:=zqw q0 q4;obtain⟨k2,hk2,ek2⟩:=zqw s0 s4;have e3:=za4 (l:=l) (k:=at'+4) (many:=4) (S:=S) (by omega) (by decide);have e4:=za4 (l:=l) (k:=at'+5) (many:=4) (S:=S) (by omega) (by decide);have e5:=za4 (l:=l) (k:=at'+6) (many:=2) (S:=S) (by omega) (by decide);refine⟨_,.join (b:=decide (za9 l (at'+6) 2=0)) hk hk1 hk2,?_⟩;generalize ts.map zah=T at*;generalize za9 l at' 4=P at*;generalize za9 l (at'+1) 6=W at*;generalize za9 l (at'+4) 4=Q at*;generalize za9 l (at'+5) 4=V at*;generalize za9 l (at'+6) 2=U at*;have en:D.lst [.str "a",.str "b",.str "c",.str "sheet"]=.lst nmL:=rfl;simp[zbp,zan,zcj,en,e1,e2,e3,e4,e5,ek,ek1,ek2,hw,hw3]
theorem zsU{k:Str}(h:zcm k):PyData.strOk k=true:=by
 rcases h with rfl|rfl|rfl|rfl<;>decide +kernel
def zsX{x k:Str}(hx:PyData.strOk x=true)(hk:PyData.strOk k=true):neD (.str x) (.str k)=some (.bl (!decide (x=k))):=by
 unfold neD;rw[if_pos (by show(PyData.strOk x&&PyData.strOk k)=true;rw[hx,hk];rfl)]
 have e:zeO (.str x) (.str k)=decide (x=k):=by
  have h:=zfZ (.str x) (.str k) rfl rfl
  by_cases q:x=k
  ·rw[yaz q];exact h.mpr (by rw[q])
  ·rw[yaJ q]
   cases hb:zeO (.str x) (.str k)with
   |false=>rfl|true=>exact absurd (by cases h.mp hb;rfl) q
 rw[e]
def ztG:eqD (.str "put") (.str "put")=some (.bl true):=by kernel_rfl
def zq8:eqD (.str "take") (.str "put")=some (.bl false):=by kernel_rfl
def ztF:eqD (.str "take") (.str "take")=some (.bl true):=by kernel_rfl
def zhE:eqD (.str "join") (.str "put")=some (.bl false):=by kernel_rfl
def zhD:eqD (.str "join") (.str "take")=some (.bl false):=by kernel_rfl
def zvU:eqD (.str "join") (.str "join")=some (.bl true):=by kernel_rfl
def zvT:eqD (.str "put") (.str "join")=some (.bl false):=by kernel_rfl
def zvS:eqD (.str "take") (.str "join")=some (.bl false):=by kernel_rfl
noncomputable def zgO(es:List (D×D)):Prop:=∀x d,zab x es=some d->zcm x
section
variable{S:Sto}{es:List (D×D)}{k k1 k2:Str}{F deed:D}
def zdC(ho:zac es=true)(hk:zgO es)(hn:zcm k)(hd:ixD deed (.int 1)=some (.str k)):
  zbg (.one 0) (zaj neD (zai 0) (zaj ixD (zai 1) (zad (.int 1)))) (zeJ [(zae 0),(zaj ixD (zai 2) (zai 0))]) [none,some (false,deed),some (false,.dic es)] ((zau es).map D.str) S=.ok (((zby es).filter fun p=>!decide (p.1=k)).map fun p=>.tup [.str p.1,p.2]) S:=by
 rw[zfx (p:=fun d=>match d with|.str x=>!decide (x=k)|_=>false) (g:=fun d=>match d with|.str x=>.tup [.str x,(zab x es).getD .non]|_=>.non) (fun d hx0=>by
  obtain⟨x,hx,rfl⟩:=yag.mp hx0;rw[za2]at hx;obtain⟨p,hp,rfl⟩:=yag.mp hx;have hl:=zc8 ho p hp;have en:=zsX (zsU (hk _ _ hl)) (zsU hn)
  have ei:ixD (.dic es) (.str p.1)=some p.2:=by show(if zac es then zab p.1 es else none)=_;rw[if_pos ho,hl]
  refine⟨_,rfl,?_,fun _=>?_⟩
  ·simp[hd,en]
  ·simp[ei,hl]),za2,yav,List.filter_map,yav]
 congr 1;have ef:((fun d=>match d with|D.str x=>!decide (x=k)|_=>false)∘D.str∘fun x:Str×D=>x.1)=fun p:Str×D=>!decide (p.1=k):=rfl
 rw[ef];apply ya1;intro p hp;have hl:=zc8 ho p (ycI.mp hp).1;show D.tup [.str p.1,(zab p.1 es).getD .non]=_;rw[hl];rfl
def zj4(ho:zac es=true):((((zby es).filter fun p=>!decide (p.1=k))).map (·.1)).Nodup:=by
 have h:=zbJ ho;rw[za2]at h;exact h.sublist ((List.filter_sublist).map _)
def zdB(ho:zac es=true):zit [.lst (((zby es).filter fun p=>!decide (p.1=k)).map fun p=>.tup [.str p.1,p.2])]=some (.dic (dropS k es)):=by
 rw[zf1 (zj4 ho),zft ho]
def zl2(ho:zac es=true):inD (.str k) (.dic es)=some (.bl (zab k es).isSome):=by
 show(zrp (.str k) (.dic es)).map _=_;show(if zac es then some (zab k es).isSome else none).map _=_;rw[if_pos ho];rfl
def zei(ho:zac es=true):zmK (.str k) (.dic es)=some (.bl (!(zab k es).isSome)):=by
 show(zrp (.str k) (.dic es)).map _=_;show(if zac es then some (zab k es).isSome else none).map _=_;rw[if_pos ho];rfl
def zfS{d:D}(ho:zac es=true)(h:zab k es=some d):ixD (.dic es) (.str k)=some d:=by
 show(if zac es then zab k es else none)=_;rw[if_pos ho,h]
theorem zd9:∀{ds:List (D×D)},(dropS k ds).length<=ds.length
 |[]=>yal _|(.str x,d)::r=>by
  unfold dropS;split
  ·exact ya6 _
  ·exact Nat.succ_le_succ zd9
 |(.non,_)::_=>yaM _|(.bl _,_)::_=>yaM _|(.int _,_)::_=>yaM _|(.tup _,_)::_=>yaM _|(.lst _,_)::_=>yaM _|(.dic _,_)::_=>yaM _|(.ref _,_)::_=>yaM _|(.exc _,_)::_=>yaM _|(.scr _,_)::_=>yaM _
def zlr{l:List (Str×D)}(h:l.length<=100000):(l.map fun p=>D.tup [.str p.1,p.2]).length<=100000:=by rw[yab];exact h
theorem zdA(hl:es.length<=1000)(ho:zac es=true):(((zby es).filter fun p=>!decide (p.1=k)).map fun p=>D.tup [.str p.1,p.2]).length<=100000:=by
 refine zlr (yas (List.length_filter_le _ _) ?_);have:=zd5 ho;rw[za2,yab]at this;omega
def zrf(ho:zac es=true)(hl:es.length<=1000)(hk:zgO es)(hn:zcm k):zaa [.dic es,.tup [.str "put",.str k,F]] S=.ok (.tup [.dic (putS k F (dropS k es)),.bl (zab k es).isSome]) S:=by
 have d0:ixD (.tup [.str "put",.str k,F]) (.int 0)=some (.str "put"):=zag _ 0;have d1:ixD (.tup [.str "put",.str k,F]) (.int 1)=some (.str k):=zag _ 1;have d2:ixD (.tup [.str "put",.str k,F]) (.int 2)=some F:=zag _ 2;have ec:=zdC (S:=S) ho hk hn d1;have er:=zdB (k:=k) ho;have hz:=zdA (k:=k) hl ho;have ei:=zl2 (k:=k) ho
 have hP:∀ρ:Env,ρ[2]?=some (some (true,.dic (dropS k es)))->ρ[1]?=some (some (false,.tup [.str "put",.str k,F]))->zdJ 2 (zaj ixD (zai 1) (zad (.int 1))) (zaj ixD (zai 1) (zad (.int 2))) ρ S=.nx (ρ.set 2 (some (true,.dic (putS k F (dropS k es))))) S:=
  fun ρ h2 h1=>zi9 h2 (zbO ho) (yas zd9 (by omega)) (by rw[ziO,ziN,h1,znP,zjn,ziM,zjm,d2];rfl) (by rw[ziO,ziN,h1,znP,zjn,ziM,zjm,d1];rfl)
 generalize hdd:D.tup [.str "put",.str k,F]=deed at*;generalize (((zby es).filter fun p=>!decide (p.1=k)).map fun p=>D.tup [.str p.1,p.2])=L at*;simp[zaa,zan,zat,zfC,ho,ec,er,hz,d0,d1,ztG,hP,ei]
end
section
variable{S:Sto}{es:List (D×D)}{k k1 k2:Str}{F deed x y:D}{b:Bool}
def zoi(ho:zac es=true)(hl:es.length<=1000)(hk:zgO es)(hn:zcm k)(h:zab k es=some F):zaa [.dic es,.tup [.str "take",.str k]] S=.ok (.tup [.dic (dropS k es),F]) S:=by
 have d0:ixD (.tup [.str "take",.str k]) (.int 0)=some (.str "take"):=zag _ 0;have d1:ixD (.tup [.str "take",.str k]) (.int 1)=some (.str k):=zag _ 1;have ec:=zdC (S:=S) ho hk hn d1;have er:=zdB (k:=k) ho;have hz:=zdA (k:=k) hl ho;have ei:=zl2 (k:=k) ho;rw[h]at ei;have ex:=zfS ho h;generalize hdd:D.tup [.str "take",.str k]=deed at*;generalize (((zby es).filter fun p=>!decide (p.1=k)).map fun p=>D.tup [.str p.1,p.2])=L at*;simp[zaa,zan,zat,zfC,ho,ec,er,hz,d0,d1,zq8,ztF,ei,ex]
def ziB(ho:zac es=true)(hl:es.length<=1000)(hk:zgO es)(hn:zcm k)(h:zab k es=none):zaa [.dic es,.tup [.str "take",.str k]] S=.ok (.tup [.dic es,.str "no name"]) S:=by
 have d0:ixD (.tup [.str "take",.str k]) (.int 0)=some (.str "take"):=zag _ 0;have d1:ixD (.tup [.str "take",.str k]) (.int 1)=some (.str k):=zag _ 1;have ec:=zdC (S:=S) ho hk hn d1;have er:=zdB (k:=k) ho;have hz:=zdA (k:=k) hl ho;have ei:=zl2 (k:=k) ho;rw[h]at ei;generalize hdd:D.tup [.str "take",.str k]=deed at*;generalize (((zby es).filter fun p=>!decide (p.1=k)).map fun p=>D.tup [.str p.1,p.2])=L at*;simp[zaa,zan,zat,zfC,ho,ec,er,hz,d0,d1,zq8,ztF,ei]
def zfz(ho:zac es=true)(hl:es.length<=1000)(hk:zgO es)(hn:zcm k)(h:zab k1 es=none\/zab k2 es=none):zaa [.dic es,.tup [.str "join",.str k,.str k1,.str k2,.bl b]] S=.ok (.tup [.dic es,.str "no name"]) S:=by
 have d0:ixD (.tup [.str "join",.str k,.str k1,.str k2,.bl b]) (.int 0)=some (.str "join"):=zag _ 0;have d1:ixD (.tup [.str "join",.str k,.str k1,.str k2,.bl b]) (.int 1)=some (.str k):=zag _ 1;have d2:ixD (.tup [.str "join",.str k,.str k1,.str k2,.bl b]) (.int 2)=some (.str k1):=zag _ 2;have d3:ixD (.tup [.str "join",.str k,.str k1,.str k2,.bl b]) (.int 3)=some (.str k2):=zag _ 3;have ec:=zdC (S:=S) ho hk hn d1;have er:=zdB (k:=k) ho;have hz:=zdA (k:=k) hl ho;have n1:=zei (k:=k1) ho;have n2:=zei (k:=k2) ho;generalize hdd:D.tup [.str "join",.str k,.str k1,.str k2,.bl b]=deed at*;generalize (((zby es).filter fun p=>!decide (p.1=k)).map fun p=>D.tup [.str p.1,p.2])=L at*
 cases h1:zab k1 es with
 |none=>
  rw[h1]at n1;simp[zaa,zan,zat,zfC,ho,ec,er,hz,d0,d1,d2,d3,zhE,zhD,n1]
 |some x=>
  rw[h1]at n1 h
  rcases h with z|h
  ·cases z
  rw[h]at n2;simp[zaa,zan,zat,zfC,ho,ec,er,hz,d0,d1,d2,d3,zhE,zhD,n1,n2]
variable{n c c':Nat}{rs rs':List (List D)}
theorem zgK(ho:zac es=true)(hl:es.length<=1000)(hk:zgO es)(hn:zcm k)(h1:zab k1 es=some (FlD rs))(h2:zab k2 es=some (FlD rs'))(f1:FlOk n c rs)(f2:FlOk n c' rs')(r1:rs.length<=6)(r2:rs'.length<=6)(hc:c<=6)(hc':c'<=6):
  zaa [.dic es,.tup [.str "join",.str k,.str k1,.str k2,.bl true]] S=.ok (if rs.length=rs'.length/\c+c'<=6 then .tup [.dic (putS k (FlD (zb2 rs rs')) (dropS k es)),FlD (zb2 rs rs')]else .tup [.dic es,.str "unlike"]) S:=by
 have d0:ixD (.tup [.str "join",.str k,.str k1,.str k2,.bl true]) (.int 0)=some (.str "join"):=zag _ 0;have d1:ixD (.tup [.str "join",.str k,.str k1,.str k2,.bl true]) (.int 1)=some (.str k):=zag _ 1;have d2:ixD (.tup [.str "join",.str k,.str k1,.str k2,.bl true]) (.int 2)=some (.str k1):=zag _ 2;have d3:ixD (.tup [.str "join",.str k,.str k1,.str k2,.bl true]) (.int 3)=some (.str k2):=zag _ 3;have d4:ixD (.tup [.str "join",.str k,.str k1,.str k2,.bl true]) (.int 4)=some (.bl true):=zag _ 4;have ec:=zdC (S:=S) ho hk hn d1;have er:=zdB (k:=k) ho;have hz:=zdA (k:=k) hl ho;have n1:=zei (k:=k1) ho;have n2:=zei (k:=k2) ho;have x1:=zfS ho h1;have x2:=zfS ho h2;rw[h1]at n1;rw[h2]at n2;generalize hdd:D.tup [.str "join",.str k,.str k1,.str k2,.bl true]=deed at*;generalize (((zby es).filter fun p=>!decide (p.1=k)).map fun p=>D.tup [.str p.1,p.2])=L at*
 have ha:zbD (FlD rs) (FlD rs')=some (FlD (rs++rs')):=by
  unfold FlD;show(if zaD _ then some (D.tup (rs.map D.tup++rs'.map D.tup))else none)=_;rw[if_pos (show zaD _=true from yaz (by rw[yab,yab];omega)),ybK]
 have e1:zc1 [FlD rs]=some (.int rs.length):=by unfold FlD;rw[zew,yab]
 have e2:zc1 [FlD rs']=some (.int rs'.length):=by unfold FlD;rw[zew,yab]
 by_cases he:rs.length=rs'.length
 ·have fj:=f1.beside f2 he;rw[<-he]at e2
  have ecj:zbg (.one 0) zcJ (zaj zbD (zaj ixD (zai 1) (zai 0)) (zaj ixD (zai 2) (zai 0))) [none,some (false,FlD rs),some (false,FlD rs')] (za8 0 rs.length) S=.ok ((zb2 rs rs').map D.tup) S:=by
   rw[zaA (g:=fun d=>match d with|.int i=>.tup ((rs.getD i.toNat [])++(rs'.getD i.toNat []))|_=>.non) (fun d hd=>by
    obtain⟨i,rfl,hi⟩:=zle hd
    have hi1:i<rs.length:=by omega
    have hi2:i<rs'.length:=by omega
    have g1:ixD (FlD rs) (.int i)=some (.tup rs[i]):=by unfold FlD;rw[zru,zag,yau,yad hi1];rfl
    have g2:ixD (FlD rs') (.int i)=some (.tup rs'[i]):=by unfold FlD;rw[zru,zag,yau,yad hi2];rfl
    have l1:=(f1.row _ (ycE hi1)).1;have l2:=(f2.row _ (ycE hi2)).1
    have hs:rs[i].length+rs'[i].length<=100000:=by omega
    refine⟨_,rfl,?_⟩
    have q1:rs.getD i []=rs[i]:=by rw[yaO,yad hi1];rfl
    have q2:rs'.getD i []=rs'[i]:=by rw[yaO,yad hi2];rfl
    simp only[ybL,q1,q2];generalize rs[i]=u at*;generalize rs'[i]=v at*;generalize FlD rs=A at*;generalize FlD rs'=B at*
    simp[g1,g2,hs])]
   congr 1;apply ycZ;intro i
   by_cases hi:i<rs.length
   ·have hi2:i<rs'.length:=by omega
    unfold zb2 za8;rw[yau,yau,yau,yau,List.getElem?_range (by omega)];have hzp:(List.zip rs rs')[i]?=some (rs[i],rs'[i]):=List.getElem?_zip_eq_some.mpr ⟨yad hi,yad hi2⟩;rw[hzp];simp[hi,hi2]
   ·rw[ycC (by rw[yab,zd2];omega),ycC (by rw[yab,zcH];omega)]
  have hzj:((zb2 rs rs').map D.tup).length<=100000:=by rw[yab,zcH];omega
  have et:zcb [.lst ((zb2 rs rs').map D.tup)]=some (FlD (zb2 rs rs')):=rfl
  have ej:zc1 [FlD (zb2 rs rs')]=some (.int rs.length):=by unfold FlD;rw[zew,yab,zcH,<-he,Nat.min_self]
  obtain⟨j0,aj,lj⟩:=at0 fj;have aj':ixD (FlD (zb2 rs rs')) (.int 0)=some (.tup j0):=aj
  have lj':zc1 [.tup j0]=some (.int (c+c':Nat)):=by rw[zew,lj]
  have hr:decide ((6:Int)<rs.length)=false:=by simp;omega
  have hP:∀ρ:Env,ρ[2]?=some (some (true,.dic (dropS k es)))->ρ[1]?=some (some (false,deed))->ρ[6]?=some (some (false,FlD (zb2 rs rs')))->zdJ 2 (zaj ixD (zai 1) (zad (.int 1))) (zae 6) ρ S=.nx (ρ.set 2 (some (true,.dic (putS k (FlD (zb2 rs rs')) (dropS k es))))) S:=
   fun ρ h2 h1 h6=>zi9 h2 (zbO ho) (yas zd9 (by omega)) (by rw[ziL,h6];rfl) (by rw[ziO,ziN,h1,znP,zjn,ziM,zjm,d1];rfl)
  have hrr:-1000000<=(rs.length:Int)/\(rs.length:Int)<=1000000:=by omega
  have hq:(6:Int)<(rs.length:Int)↔False:=⟨fun z=>by omega,False.elim⟩;generalize FlD (rs++rs')=AB at*;generalize FlD (zb2 rs rs')=J at*;generalize (zb2 rs rs').map D.tup=JL at*;generalize FlD rs=A at*;generalize FlD rs'=B at*
  by_cases h6:c+c'<=6
  ·have hc6:decide ((6:Int)<((c+c':Nat):Int))=false:=yaJ (by omega);rw[if_pos ⟨he,h6⟩];generalize ((c+c':Nat):Int)=Q at*;generalize ((rs.length:Nat):Int)=R at*;simp[zaa,zan,zat,zfC,ho,ec,er,hz,d0,d1,d2,d3,d4,zhE,zhD,n1,n2,x1,x2,e1,e2,ha,ecj,hzj,et,ej,aj',lj',hP,hrr,hr,hc6]
  ·have hc6:decide ((6:Int)<((c+c':Nat):Int))=true:=yaz (by omega);rw[if_neg (fun z=>h6 z.2)];generalize ((c+c':Nat):Int)=Q at*;generalize ((rs.length:Nat):Int)=R at*;simp[zaa,zan,zat,zfC,ho,ec,er,hz,d0,d1,d2,d3,d4,zhE,zhD,n1,n2,x1,x2,e1,e2,ha,ecj,hzj,et,ej,aj',lj',hrr,hr,hc6]
 ·have he':¬ ((rs.length:Int)=rs'.length):=by omega
  generalize FlD (rs++rs')=AB at*;generalize FlD (zb2 rs rs')=J at*;generalize FlD rs=A at*;generalize FlD rs'=B at*;rw[if_neg (fun z=>he z.1)];simp[zaa,zan,zat,zfC,ho,ec,er,hz,d0,d1,d2,d3,d4,zhE,zhD,n1,n2,x1,x2,e1,e2,he']
end
section
variable{S:Sto}{es:List (D×D)}{k k1 k2:Str}{n c c':Nat}{rs rs':List (List D)}
theorem zfK(ho:zac es=true)(hl:es.length<=1000)(hk:zgO es)(hn:zcm k)(h1:zab k1 es=some (FlD rs))(h2:zab k2 es=some (FlD rs'))(f1:FlOk n c rs)(f2:FlOk n c' rs')(r1:rs.length<=6)(r2:rs'.length<=6)(hc:c<=6)(hc':c'<=6):
  zaa [.dic es,.tup [.str "join",.str k,.str k1,.str k2,.bl false]] S=.ok (if c=c'/\rs.length+rs'.length<=6 then .tup [.dic (putS k (FlD (rs++rs')) (dropS k es)),FlD (rs++rs')]else .tup [.dic es,.str "unlike"]) S:=by
 have d0:ixD (.tup [.str "join",.str k,.str k1,.str k2,.bl false]) (.int 0)=some (.str "join"):=zag _ 0;have d1:ixD (.tup [.str "join",.str k,.str k1,.str k2,.bl false]) (.int 1)=some (.str k):=zag _ 1;have d2:ixD (.tup [.str "join",.str k,.str k1,.str k2,.bl false]) (.int 2)=some (.str k1):=zag _ 2;have d3:ixD (.tup [.str "join",.str k,.str k1,.str k2,.bl false]) (.int 3)=some (.str k2):=zag _ 3;have d4:ixD (.tup [.str "join",.str k,.str k1,.str k2,.bl false]) (.int 4)=some (.bl false):=zag _ 4;have ec:=zdC (S:=S) ho hk hn d1;have er:=zdB (k:=k) ho;have hz:=zdA (k:=k) hl ho;have n1:=zei (k:=k1) ho;have n2:=zei (k:=k2) ho;have x1:=zfS ho h1;have x2:=zfS ho h2;rw[h1]at n1;rw[h2]at n2;generalize hdd:D.tup [.str "join",.str k,.str k1,.str k2,.bl false]=deed at*;generalize (((zby es).filter fun p=>!decide (p.1=k)).map fun p=>D.tup [.str p.1,p.2])=L at*
 have ha:zbD (FlD rs) (FlD rs')=some (FlD (rs++rs')):=by
  unfold FlD;show(if zaD _ then some (D.tup (rs.map D.tup++rs'.map D.tup))else none)=_;rw[if_pos (show zaD _=true from yaz (by rw[yab,yab];omega)),ybK]
 obtain⟨a0,aa,la⟩:=at0 f1;obtain⟨b0,ab,lb⟩:=at0 f2;have aa':ixD (FlD rs) (.int 0)=some (.tup a0):=aa;have ab':ixD (FlD rs') (.int 0)=some (.tup b0):=ab
 have la':zc1 [.tup a0]=some (.int c):=by rw[zew,la]
 have lb':zc1 [.tup b0]=some (.int c'):=by rw[zew,lb]
 have nn:zcl (.bl false)=some (.bl true):=rfl
 by_cases he:c=c'
 ·subst he;have fj:=f1.below f2
  have ej:zc1 [FlD (rs++rs')]=some (.int (rs.length+rs'.length:Nat)):=by unfold FlD;rw[zew,yab,yah]
  obtain⟨j0,aj,lj⟩:=at0 fj;have aj':ixD (FlD (rs++rs')) (.int 0)=some (.tup j0):=aj
  have lj':zc1 [.tup j0]=some (.int c):=by rw[zew,lj]
  have hr:decide ((6:Int)<c)=false:=yaJ (by omega)
  have hP:∀ρ:Env,ρ[2]?=some (some (true,.dic (dropS k es)))->ρ[1]?=some (some (false,deed))->ρ[6]?=some (some (false,FlD (rs++rs')))->zdJ 2 (zaj ixD (zai 1) (zad (.int 1))) (zae 6) ρ S=.nx (ρ.set 2 (some (true,.dic (putS k (FlD (rs++rs')) (dropS k es))))) S:=
   fun ρ h2 h1 h6=>zi9 h2 (zbO ho) (yas zd9 (by omega)) (by rw[ziL,h6];rfl) (by rw[ziO,ziN,h1,znP,zjn,ziM,zjm,d1];rfl)
  generalize FlD (rs++rs')=J at*;generalize FlD rs=A at*;generalize FlD rs'=B at*
  by_cases h6:rs.length+rs'.length<=6
  ·have hc6:decide ((6:Int)<((rs.length+rs'.length:Nat):Int))=false:=yaJ (by omega);rw[if_pos ⟨rfl,h6⟩];generalize ((rs.length+rs'.length:Nat):Int)=Q at*;generalize ((c:Nat):Int)=R at*;simp[zaa,zan,zat,zfC,ho,ec,er,hz,d0,d1,d2,d3,d4,zhE,zhD,n1,n2,x1,x2,aa',ab',la',lb',nn,ha,ej,aj',lj',hP,hr,hc6]
  ·have hc6:decide ((6:Int)<((rs.length+rs'.length:Nat):Int))=true:=yaz (by omega);rw[if_neg (fun z=>h6 z.2)];generalize ((rs.length+rs'.length:Nat):Int)=Q at*;generalize ((c:Nat):Int)=R at*;simp[zaa,zan,zat,zfC,ho,ec,er,hz,d0,d1,d2,d3,d4,zhE,zhD,n1,n2,x1,x2,aa',ab',la',lb',nn,ha,ej,aj',lj',hr,hc6]
 ·have he':¬ ((c:Int)=c'):=by omega
  generalize FlD (rs++rs')=J at*;generalize FlD rs=A at*;generalize FlD rs'=B at*;rw[if_neg (fun z=>he z.1)];simp[zaa,zan,zat,zfC,ho,ec,er,hz,d0,d1,d2,d3,d4,zhE,zhD,n1,n2,x1,x2,aa',ab',la',lb',nn,he']
variable{m:Nat}{ts:D}{ds:List (D×D)}{dn un:List D}
def zg9(h:S[m]?=some (alb ts ds dn un))(ho:zac ds=true)(hl:ds.length<64):zbz [.ref m] S=.ok (.lst ((zaC (zau ds)).map D.str)) S:=by
 have e1:∀ρ:Env,ρ[0]?=some (some (false,.ref m))->zj6 "Album" "named" 0 ρ S=.ok (.lst ((zaC (zau ds)).map D.str)) S:=fun ρ h0=>by
  unfold zj6;rw[zcY h0 h ho];dsimp only;rw[if_pos hl]
 simp[zbz,zan,zcU,e1]
def zdI(ds:List (D×D)):List (Str×D):=(zaC (zau ds)).map fun x=>(x,(zab x ds).getD .non)
def zg1:(zdI ds).map (·.1)=zaC (zau ds):=by
 unfold zdI;rw[yav];exact ycP _
def zdr(ho:zac ds=true):((zdI ds).map (·.1)).Nodup:=by
 rw[zg1];exact(zaE _).nodup_iff.mpr (zbJ ho)
def zlC(ho:zac ds=true)(x:Str):zab x (unS (zdI ds))=zab x ds:=by
 obtain⟨o,pe⟩:=zdT (zdr ho)
 cases hx:zab x ds with
 |none=>
  rw[zbA o,za2,pe,zg1];intro z;exact(zbA ho).mp hx ((zaE _).mem_iff.mp z)
 |some d=>
  have hm:x∈zaC (zau ds):=(zaE _).mem_iff.mpr (by
   rw[za2]
   exact yag.mpr ⟨(x,d),zhp hx,rfl⟩)
  have:(x,d)∈zby (unS (zdI ds)):=by
   rw[pe];exact yag.mpr ⟨x,hm,by rw[hx];rfl⟩
  exact zc8 o _ this
def Mp.srt(ho:zac ds=true):Mp (unS (zdI ds)) ds:=⟨(zdT (zdr ho)).1,ho,zlC ho⟩
theorem zpZ(h:S[m]?=some (alb ts ds dn un))(ho:zac ds=true)(hl:ds.length<64)(hk:zgO ds):zb1 [.ref m] S=.ok (.dic (unS (zdI ds))) S:=by
 have e1:=zg9 h ho hl;have m1:zaG "Album" "names" (.ref m) S=true:=zaK h (by decide);have m2:zaG "Album" "floor_of" (.ref m) S=true:=zaK h (by decide)
 have ec:zbg (.one 0) zcJ (zeJ [(zae 0),(zaU "Album" "floor_of" zao (zae 1) [(zae 0)])]) [none,some (false,.ref m)] ((zaC (zau ds)).map D.str) S=.ok ((zdI ds).map fun p=>.tup [.str p.1,p.2]) S:=by
  rw[zaA (g:=fun d=>match d with|.str x=>.tup [.str x,(zab x ds).getD .non]|_=>.non) (fun d hd0=>by
   obtain⟨x,hx,rfl⟩:=yag.mp hd0;have hx':=(zaE _).mem_iff.mp hx;rw[za2]at hx';obtain⟨p,hp,rfl⟩:=yag.mp hx';have hl:=zc8 ho p hp;have e2:=za7 (hk _ _ hl) h ho hl;refine⟨_,rfl,?_⟩
   simp[m2,e2,hl]),yav]
  unfold zdI;rw[yav];rfl
 have hz:((zdI ds).map fun p=>D.tup [.str p.1,p.2]).length<=100000:=by
  rw[yab];unfold zdI;rw[yab,(zaE _).length_eq,zd5 ho];omega
 have ed:=zf1 (zdr ho);generalize ((zdI ds).map fun p=>D.tup [.str p.1,p.2])=L at*;simp[zb1,zan,zcS,zfC,m1,e1,ec,hz,ed]
end
section
variable{S:Sto}
noncomputable def nT:D->Str|.int i=>dI i|_=>"-"
noncomputable def OkN(d:D):Prop:=d=.non\/∃i:Nat,i<12/\d=.int i
def znF{d:D}(h:OkN d):10 ∉ L (nT d)/\32 ∉ L (nT d)/\(L (nT d)).length<=2/\L (nT d)≠[]:=by
 rcases h with rfl|⟨i,hi,rfl⟩
 ·exact(by decide +kernel:10 ∉ L ("-":Str)/\32 ∉ L ("-":Str)/\(L ("-":Str)).length<=2/\L ("-":Str)≠[])
 ·exact zmp i hi
def zs0{d:D}(h:OkN d):(nT d).length<=2:=by rw[<-zdF];exact(znF h).2.2.1
def zfN(h:OkN d):zaW [d] S=.ok (.str (nT d)) S:=by
 rcases h with rfl|⟨i,hi,rfl⟩
 ·have e:zj2 .non .non=some (.bl true):=rfl;simp[zaW,zan,zb3,e,nT]
 ·have e:zj2 (.int i) .non=some (.bl false):=rfl;simp[zaW,zan,zb3,e,nT,show -1000<=(i:Int)/\(i:Int)<=1000 by omega]
def zej(l:List Nat):(T l).length=l.length:=by rw[<-zdF,L_T]
theorem zcu{α:Type}{f:α->List Nat}:∀{l:List α},(∀a∈l,(f a).length<=B)->(l.map f).flatten.length<=l.length*B
 |[],_=>yaM _|a::l,h=>by
  rw[yaw,yct,yah,yae,Nat.succ_mul];have:=h a yam;have:=zcu (l:=l) fun x hx=>h x (yak _ hx)
  omega
theorem zlR{c B:Nat}:∀{l:List (List Nat)},(∀a∈l,a.length<=B)->(jn c l).length<=l.length*(B+1)
 |[],_=>yaM _|[a],h=>by have:=h a yam;show a.length<=1*(B+1);omega
 |a::b::r,h=>by
  have h1:=h a yam;have h2:=zlR (c:=c) (l:=b::r) fun x hx=>h x (yak _ hx)
  show(a++c::jn c (b::r)).length<=_;rw[yah,yae,yae,Nat.succ_mul];omega
theorem zlQ{c:Nat}:∀{ps:List (List Nat)},ps≠[]->(ps.map (·++[c])).flatten=jn c ps++[c]
 |[],h=>absurd rfl h|[a],_=>by simp[jn]
 |a::b::r,_=>by
  rw[yaw,yct,zlQ (List.cons_ne_nil b r)];show _=(a++c::jn c (b::r))++[c];simp
noncomputable def fD(k:List Nat):List D:=k.map fun i=>D.int (i:Nat)
noncomputable def kL(k:List Nat):List Nat:=k.map (48+·)
noncomputable def zey(ks:List (List Nat)):List Nat:=(ks.map fun k=>kL k++[10]).flatten
structure Ks(ks:List (List Nat)):Prop where
 ne:1<=ks.length
 le:ks.length<=16
 four:∀k∈ks,k.length=4
 lt:∀k∈ks,∀i∈k,i<9
def dgs{k:List Nat}(h:∀i∈k,i<9):((k.map fun i=>dg i).map L).flatten=kL k:=by
 induction k with
 |nil=>rfl|cons i k ih=>
  rw[yaw,yaw,yct,ih fun x hx=>h x (yak _ hx)];have:=zn9 i (h i yam);rw[this];rfl
def zg5{k:List Nat}(h4:k.length=4)(h:∀i∈k,i<9):zbF [.tup (fD k)] S=.ok (.str (T (kL k))) S:=by
 have ec:zbg (.one 0) zcJ (zaz zos [(zai 0)]) [none] (fD k) S=.ok (k.map fun i=>.str (dg i)) S:=by
  have:=zaA (tg:=.one 0) (elt:=zaz zos [(zai 0)]) (ρ0:=[none]) (S:=S) (ds:=fD k) (g:=fun d=>.str (nT d)) fun d hd=>by
   obtain⟨i,hi,rfl⟩:=yag.mp hd;have:=h i hi;refine⟨_,rfl,?_⟩;simp[nT,show -1000<=(i:Int)/\(i:Int)<=1000 by omega]
  rw[this];unfold fD;rw[yav];rfl
 have es:=zdp (fun i:Nat=>dg i) k
 have ej:JoinOk ("":Str) (k.map fun i:Nat=>dg i)=true:=zff (by rw[yab];omega) (fun t ht=>by
  obtain⟨i,hi,rfl⟩:=yag.mp ht;have:=(zmp i (by have:=h i hi;omega)).2.2.1;rw[zdF]at this
  omega) (by decide +kernel)
 have et:Txt.join ("":Str) (k.map fun i:Nat=>dg i)=T (kL k):=zgN (by rw[zfg,zq9,zgu,dgs h,L_T])
 have hl:(k.map fun i:Nat=>D.str (dg i)).length<=100000:=by rw[yab];omega
 simp[zbF,zan,zdL,ec,es,ej,et,hl,show k.length<=100000 by omega]
def zfR(k:List Nat):(kL k).length=k.length:=yab _
def zeX{ks:List (List Nat)}(h:Ks ks):zcD [FlD (ks.map fD)] S=.ok (.str (T (zey ks))) S:=by
 have ec:zbg (.one 0) zcJ (zaj zbD (eFn zbF [(zae 0)]) (zad (.str "\n"))) [none] ((ks.map fD).map D.tup) S=.ok (ks.map fun k=>.str (T (kL k++[10]))) S:=by
  have:=zaA (tg:=.one 0) (elt:=zaj zbD (eFn zbF [(zae 0)]) (zad (.str "\n"))) (ρ0:=[none]) (S:=S) (ds:=ks.map fun k=>D.tup (fD k)) (g:=fun d=>match d with|.tup r=>.str (T (r.flatMap (fun d=>L (nT d))++[10]))|_=>.non) fun d hd=>by
   obtain⟨k,hk,rfl⟩:=yag.mp hd;refine⟨_,rfl,?_⟩;have e:T (kL k)++("\n":Str)=T (kL k++[10]):=zgN (by rw[zkh,L_T,L_T,zfF])
   have e2:(fD k).flatMap (fun d=>L (nT d))=kL k:=by
    rw[<-dgs (h.lt k hk),yav,List.flatMap_def];unfold fD;rw[yav];rfl
   have hz:((T (kL k)).length+("\n":Str).length)<=100000:=by rw[zej,zfR,h.four k hk];decide +kernel
   simp[zg5 (h.four k hk) (h.lt k hk),e,e2,hz]
  rw[yav];show zbg _ _ _ _ (ks.map fun k=>D.tup (fD k)) S=_;rw[this,yav];congr 1;refine ya1 fun k hk=>?_
  show D.str (T ((fD k).flatMap (fun d=>L (nT d))++[10]))=_;rw[<-dgs (h.lt k hk),yav,List.flatMap_def];unfold fD;rw[yav];rfl
 have es:=zdp (fun k=>T (kL k++[10])) ks;have hle:=h.le
 have ej:JoinOk ("":Str) (ks.map fun k=>T (kL k++[10]))=true:=zff (by rw[yab];omega) (fun t ht=>by
  obtain⟨k,hk,rfl⟩:=yag.mp ht
  rw[zej,yah,zfR,h.four k hk];decide) (by decide +kernel)
 have et:Txt.join ("":Str) (ks.map fun k=>T (kL k++[10]))=T (zey ks):=zgN (by
  rw[zfg,zq9,zgu,L_T,yav];unfold zey
  congr 1)
 unfold FlD;generalize (ks.map fD).map D.tup=X at*;simp[zcD,zan,zeo,ec,es,ej,et,show ks.length<=100000 by omega]
end
section
variable{S:Sto}
structure Fls(rs:List (List D)):Prop where
 ne:1<=rs.length
 le:rs.length<=6
 row:∀r∈rs,1<=r.length/\r.length<=6
 ok:∀r∈rs,∀d∈r,OkN d
def rL(r:List D):List Nat:=jn 32 (r.map fun d=>L (nT d))
def flL(rs:List (List D)):List Nat:=jn 10 (rs.map rL)
def zoB{r:List D}(h6:r.length<=6)(h:∀d∈r,OkN d):(rL r).length<=18:=by
 have:=zlR (c:=32) (B:=2) (l:=r.map fun d=>L (nT d)) fun a ha=>by
  obtain⟨d,hd,rfl⟩:=yag.mp ha;exact(znF (h d hd)).2.2.1
 rw[yab]at this;unfold rL;omega
def zh4{r:List D}(h6:r.length<=6)(h:∀d∈r,OkN d):zb6 [.tup r] S=.ok (.str (T (rL r))) S:=by
 have ec:zbg (.one 0) zcJ (eFn zaW [(zae 0)]) [none] r S=.ok (r.map fun d=>.str (nT d)) S:=by
  refine zaA fun d hd=>⟨_,rfl,?_⟩
  simp[zfN (h d hd)]
 have es:=zdp nT r
 have ej:JoinOk (" ":Str) (r.map nT)=true:=zff (by rw[yab];omega) (fun t ht=>by
  obtain⟨d,hd,rfl⟩:=yag.mp ht
  have:=zs0 (h d hd);omega) (by decide +kernel)
 have et:Txt.join (" ":Str) (r.map nT)=T (rL r):=zgN (by rw[zfg,zrU,zgt,L_T,yav];rfl);simp[zb6,zan,zep,ec,es,ej,et,show r.length<=100000 by omega]
def zd0{rs:List (List D)}(h:Fls rs):zbu [FlD rs] S=.ok (.str (T (flL rs))) S:=by
 have hle:=h.le
 have ec:zbg (.one 0) zcJ (eFn zb6 [(zae 0)]) [none] (rs.map D.tup) S=.ok (rs.map fun r=>.str (T (rL r))) S:=by
  have:=zaA (tg:=.one 0) (elt:=eFn zb6 [(zae 0)]) (ρ0:=[none]) (S:=S) (ds:=rs.map D.tup) (g:=fun d=>match d with|.tup r=>.str (T (rL r))|_=>.non) fun d hd=>by
   obtain⟨r,hr,rfl⟩:=yag.mp hd;refine⟨_,rfl,?_⟩;simp[zh4 (h.row r hr).2 (h.ok r hr)]
  rw[this,yav];rfl
 have es:=zdp (fun r=>T (rL r)) rs
 have ej:JoinOk ("\n":Str) (rs.map fun r=>T (rL r))=true:=zff (by rw[yab];omega) (fun t ht=>by
  obtain⟨r,hr,rfl⟩:=yag.mp ht;have:=zoB (h.row r hr).2 (h.ok r hr)
  rw[zej];omega) (by decide +kernel)
 have et:Txt.join ("\n":Str) (rs.map fun r=>T (rL r))=T (flL rs):=zgN (by
  rw[zfg,zfF,zgt,L_T,yav];unfold flL
  congr 1)
 unfold FlD;generalize rs.map D.tup=X at*;simp[zbu,zan,zdf,ec,es,ej,et,show rs.length<=100000 by omega]
end
section
variable{S:Sto}{tl:List D}{n:Nat}
noncomputable def zkr(c:Nat):D:=if 48<=c/\c<=56 then .int ((c-48:Nat):Int)else .str "?"
def zl1{c:Nat}:inD (.str ⟨#[c]⟩) (.str "012345678")=some (.bl (decide (48<=c/\c<=56))):=by
 show some (D.bl (!(Builtin.Str.occurrences ("012345678":Str) ⟨#[c]⟩ 0 ("012345678":Str).length 1).isEmpty))=_;rw[ztu]
def zhc{c:Nat}:zbo [.str ⟨#[c]⟩] S=.ok (zkr c) S:=by
 unfold zkr
 by_cases h:48<=c/\c<=56
 ·have e:zjt "012345678" (.str ⟨#[c]⟩)=some (.int ((c-48:Nat):Int)):=by
   show((Builtin.Str.occurrences ("012345678":Str) ⟨#[c]⟩ 0 ("012345678":Str).length 1).head?).map _=_;rw[zt4 c h.2 h.1];rfl
  simp[zbo,zan,zcR,zl1,h,e]
 ·simp[zbo,zan,zcR,zl1,h]
def zg8{x:Str}(hx:x.length<=2000):zbG [.str x] S=.ok (.tup ((L x).map zkr)) S:=by
 have ec:zbg (.one 0) zcJ (eFn zbo [(zae 0)]) [none] (zkk x) S=.ok ((L x).map zkr) S:=by
  have:=zaA (tg:=.one 0) (elt:=eFn zbo [(zae 0)]) (ρ0:=[none]) (S:=S) (ds:=zkk x) (g:=fun d=>match d with|.str y=>zkr (y.cps.getD 0 0)|_=>.non) fun d hd=>by
   obtain⟨c,_,rfl⟩:=yag.mp hd;refine⟨_,rfl,?_⟩;simp[zhc]
  rw[this];unfold zkk;rw[yav];congr 1
 have hl:((L x).map zkr).length<=100000:=by rw[yab,zdF];omega
 generalize (L x).map zkr=X at*;simp[zbG,zan,zdM,ec,hl]
noncomputable def zeF(s:Str):List Str:=Txt.split (Txt.slice s none (some (-1))) ⟨#[10]⟩
def rdS(s:Str):List (List D):=(zeF s).map fun l=>(L l).map zkr
def zlF{s:Str}:(zeF s).length<=s.length+1/\∀l∈zeF s,l.length<=s.length:=by
 have h1:=zeV (Txt.slice s none (some (-1))) 10;have h2:=Txt.slice_le s none (some (-1));exact⟨by unfold zeF;omega,fun l hl=>yas (h1.2 l hl) h2⟩
noncomputable def knD(n:Nat):List (D×D):=(.str "-",.non)::(List.range n).map fun i=>(.str (dg i),.int (i:Nat))
def zs7{i:Nat}(hi:i<12):putS (dg i) (.int (i:Nat)) (knD i)=knD (i+1):=by
 have:i=0\/i=1\/i=2\/i=3\/i=4\/i=5\/i=6\/i=7\/i=8\/i=9\/i=10\/i=11:=by omega
 rcases this with rfl|rfl|rfl|rfl|rfl|rfl|rfl|rfl|rfl|rfl|rfl|rfl<;>kernel_rfl
def zlK:∀n,n<13->zac (knD n)=true:=by decide +kernel
noncomputable def isI:Option D->Nat->Bool|some (.int j),i=>j==(i:Int)|_,_=>false
def zs8:∀n,n<13->∀i,i<n->isI (zab (dg i) (knD n)) i=true:=by decide +kernel
noncomputable def isN:Option D->Bool|some .non=>true|_=>false
def zs9:∀n,n<13->isN (zab "-" (knD n))=true:=by decide +kernel
noncomputable def OkC(n:Nat)(d:D):Prop:=d=.non\/∃i:Nat,i<n/\d=.int i
def OkC.to{d:D}(h:OkC n d)(hn:n<=12):OkN d:=h.imp_right fun⟨i,hi,e⟩=>⟨i,by omega,e⟩
def zlD{d:D}(hn:n<=12)(h:OkC n d):zab (nT d) (knD n)=some d:=by
 rcases h with rfl|⟨i,hi,rfl⟩
 ·have:=zs9 n (by omega);show zab "-" (knD n)=_
  cases e:zab "-" (knD n)with
  |none=>rw[e]at this;cases this|some d=>rw[e]at this;cases d<;>first|rfl|cases this
 ·have:=zs8 n (by omega) i hi;show zab (dg i) (knD n)=_
  cases e:zab (dg i) (knD n)with
  |none=>rw[e]at this;cases this|some d=>
   rw[e]at this
   cases d with
   |int j=>rw[eq_of_beq (show(j==(i:Int))=true from this)]|_=>cases this
def zh6(hn:tl.length<=12):zbf [.tup tl] S=.ok (.dic (knD tl.length)) S:=by
 obtain⟨ρ',e,y,rfl⟩:=zdz (tg:=.one 2) (body:=zbr) (ds:=za8 0 tl.length) (S:=S) (fun k ρ=>∃y,ρ=[some (false,.tup tl),some (true,.dic (knD k)),y]) (by
  rintro k d ρ hd ⟨y,rfl⟩;obtain⟨rfl,hk⟩:=zce hd;refine⟨_,_,rfl,?_,some (false,.int k),rfl⟩;have o:=zlK k (by omega)
  have hs:zg2 1 [some (false,.tup tl),some (true,.dic (knD k)),some (false,.int k)]=some (knD k):=by
   show(if zac (knD k)&&zaD (knD k).length then some (knD k)else none)=_;rw[o,if_pos];exact yaz (by unfold knD;rw[yae,yab,ybO];omega)
  rw[<-zs7 (show k<12 by omega)]
  simp[zbr,zpi,hs,zfN (S:=S) (.inr ⟨k,by omega,rfl⟩),nT])
  (ρ:=[some (false,.tup tl),some (true,.dic (knD 0)),none]) ⟨none,rfl⟩
 rw[zd2]at e;simp only[ybL]at e;have e0:knD 0=[(.str "-",.non)]:=rfl;rw[e0]at e;simp[zbf,zan,zbK,e,show -1000000<=(tl.length:Int)/\(tl.length:Int)<=1000000 by omega]
def ce(n:Nat)(w:Str):D:=(zab w (knD n)).getD (.str "?")
def zh5{x:Str}(hn:n<=12)(hx:x.length<=1500):zb7 [.dic (knD n),.str x] S=.ok (.tup ((Txt.split x ⟨#[32]⟩).map (ce n))) S:=by
 have h:=zeV x 32
 have ec:zbg (.one 0) zcJ (zeH (zae 1) (zae 0) (zad (.str "?"))) [none,some (false,.dic (knD n))] ((Txt.split x " ").map D.str) S=.ok ((Txt.split x ⟨#[32]⟩).map (ce n)) S:=by
  rw[zrU]
  have:=zaA (tg:=.one 0) (elt:=zeH (zae 1) (zae 0) (zad (.str "?"))) (ρ0:=[none,some (false,.dic (knD n))]) (S:=S) (ds:=(Txt.split x ⟨#[32]⟩).map D.str) (g:=fun d=>match d with|.str y=>ce n y|_=>.non) fun d hd=>by
   obtain⟨l,hl,rfl⟩:=yag.mp hd;refine⟨_,rfl,?_⟩;simp[zlK n (by omega),ce]
  rw[this,yav];rfl
 have n1:(" ":Str).length=1:=by decide +kernel
 have hl:((Txt.split x ⟨#[32]⟩).map (ce n)).length<=100000:=by rw[yab];omega
 generalize (Txt.split x ⟨#[32]⟩).map (ce n)=X at*;simp[zb7,zan,zer,ec,hl,zfC,n1,show x.length<=100000 by omega]
def rdF(n:Nat)(s:Str):List (List D):=(Txt.split s ⟨#[10]⟩).map fun l=>(Txt.split l ⟨#[32]⟩).map (ce n)
def ztR{c:Nat}(h:48<=c/\c<=56):zkr c=.int ((c-48:Nat):Int):=if_pos h
def zi3{ks:List (List Nat)}(h:ks≠[]):zey ks=jn 10 (ks.map kL)++[10]:=by
 have:=zlQ (c:=10) (ps:=ks.map kL) (fun z=>h (ybe.mp z));rwa[yav]at this
def zq1{ks:List (List Nat)}(h:Ks ks):Txt.endswith (T (zey ks)) "\n"=true/\rdS (T (zey ks))=ks.map fD:=by
 have hne:ks≠[]:=fun z=>by have:=h.ne;rw[z]at this;cases this
 have hs:L (T (zey ks))=jn 10 (ks.map kL)++[10]:=by rw[L_T,zi3 hne]
 refine⟨by rw[zfF];exact(zmg _).mpr ⟨_,hs⟩,?_⟩
 have el:zeF (T (zey ks))=ks.map fun k=>T (kL k):=by
  unfold zeF;rw[zfM hs];refine zed (fun z=>hne (ybe.mp z)) (fun p hp=>?_) ?_
  ·obtain⟨k,hk,rfl⟩:=yag.mp hp;rw[L_T];intro z;obtain⟨i,_,e⟩:=yag.mp z;omega
  ·rw[L_T,yav];congr 1
 unfold rdS;rw[el,yav];refine ya1 fun k hk=>?_
 show(L (T (kL k))).map zkr=fD k;rw[L_T];unfold kL fD;rw[yav];refine ya1 fun i hi=>?_
 have:=h.lt k hk i hi;show zkr (48+i)=_;rw[ztR ⟨by omega,by omega⟩,show 48+i-48=i by omega]
theorem zma{c x:Nat}(hx:x≠c):∀{ps:List (List Nat)},(∀p∈ps,x ∉ p)->x ∉ jn c ps
 |[],_=>fun z=>nomatch z|[a],h=>h a yam|a::b::r,h=>fun z=>by
  rcases yaH.mp (show x∈a++c::jn c (b::r)from z)with z|z
  ·exact h a yam z
  ·rcases yat.mp z with z|z
   ·exact hx z
   ·exact zma hx (fun p hp=>h p (yak _ hp)) z
def zl8{rs:List (List D)}(hn:n<=12)(h:Fls rs)(hc:∀r∈rs,∀d∈r,OkC n d):rdF n (T (flL rs))=rs:=by
 have hne:rs≠[]:=fun z=>by have:=h.ne;rw[z]at this;cases this
 have e1:Txt.split (T (flL rs)) ⟨#[10]⟩=rs.map fun r=>T (rL r):=by
  refine zed (fun z=>hne (ybe.mp z)) (fun p hp=>?_) ?_
  ·obtain⟨r,hr,rfl⟩:=yag.mp hp;rw[L_T];refine zma (by decide) fun p hp=>?_
   obtain⟨d,hd,rfl⟩:=yag.mp hp;exact(znF (h.ok r hr d hd)).1
  ·rw[L_T,yav];unfold flL;congr 1
 unfold rdF;rw[e1,yav]
 have:∀r∈rs,((fun l=>(Txt.split l ⟨#[32]⟩).map (ce n))∘fun r=>T (rL r)) r=id r:=fun r hr=>by
  have hr1:=(h.row r hr).1
  have e2:Txt.split (T (rL r)) ⟨#[32]⟩=r.map nT:=by
   refine zed (fun z=>by rw[ybe.mp z]at hr1;cases hr1) (fun p hp=>?_) ?_
   ·obtain⟨d,hd,rfl⟩:=yag.mp hp;exact(znF (h.ok r hr d hd)).2.1
   ·rw[L_T,yav];rfl
  show(Txt.split (T (rL r)) ⟨#[32]⟩).map (ce n)=r;rw[e2,yav]
  have:∀d∈r,(ce n∘nT) d=id d:=fun d hd=>by
   show ce n (nT d)=d;unfold ce;rw[zlD hn (hc r hr d hd)];rfl
  rw[ya1 this,ycP]
 rw[ya1 this,ycP]
end
end S2
namespace TX
open PySem StrLaws Builtin Builtin.Str
noncomputable def Y:Str:=⟨#[10,45,45,10]⟩
noncomputable def nn(q:List Nat):Prop:=∀i,¬ (q[i]?=some 45/\q[i+1]?=some 45)
noncomputable def jy:List (List Nat)->List Nat
 |[]=>[]|[x]=>x|x::y::r=>x++[10,45,45,10]++jy (y::r)
theorem zf5{s sub:Str}{hi:Nat}:∀{c1 c2:List Nat}{a f1 f2:Nat},ChainG s sub hi a c1 f1->(∀k,f1<=k->¬ At s sub hi k)->ChainG s sub hi a c2 f2->(∀k,f2<=k->¬ At s sub hi k)->c1=c2
 |[],[],_,_,_,_,_,_,_=>rfl|[],c::r,a,f1,f2,h1,n1,h2,_=>by
  have e:f1=a:=h1;subst e;exact absurd h2.2.1 (n1 c h2.1)
 |c::r,[],a,f1,f2,h1,_,h2,n2=>by
  have e:f2=a:=h2;subst e;exact absurd h1.2.1 (n2 c h1.1)
 |c::r,d::t,a,f1,f2,h1,n1,h2,n2=>by
  have e:c=d:=by
   rcases yc0 c d with h|h|h
   ·exact absurd h1.2.1 (h2.2.2.1 c h1.1 h)
   ·exact h
   ·exact absurd h2.2.1 (h1.2.2.1 d h2.1 h)
  subst e;rw[zf5 h1.2.2.2 n1 h2.2.2.2 n2]
def zoj{x:Str}{k:Nat}(h:At x Y x.length k):(L x)[k]?=some 10/\(L x)[k+1]?=some 45/\(L x)[k+2]?=some 45:=by
 have e:=h.2;rw[subAt_eq]at e;have e:=eq_of_beq e
 have g:∀i,i<4->(L x)[k+i]?=(L Y)[i]?:=fun i hi=>by
  show _=Y.cps.toList[i]?;rw[<-e,List.getElem?_take_of_lt (show i<Y.length from hi),ybn]
 exact⟨g 0 (by decide),g 1 (by decide),g 2 (by decide)⟩
def zsQ{x:Str}{pre q post:List Nat}(hx:L x=pre++(q++post))(hq:nn q)(hp:post=[]\/∃t,post=10::t){k:Nat}(h1:pre.length<=k)(h2:k<pre.length+q.length\/post=[]):¬ At x Y x.length k:=by
 intro h;obtain⟨_,g1,g2⟩:=zoj h;obtain⟨i,rfl⟩:∃i,k=pre.length+i:=⟨k-pre.length,by omega⟩;rw[hx,yax (by omega)]at g1 g2;rw[show pre.length+i+1-pre.length=i+1 by omega]at g1;rw[show pre.length+i+2-pre.length=i+1+1 by omega]at g2
 by_cases hi:i+1+1<q.length
 ·rw[yaE (by omega)]at g1;rw[yaE hi]at g2;exact hq (i+1) ⟨g1,g2⟩
 ·rcases hp with rfl|⟨t,rfl⟩
  ·rw[yaP,ycC (by omega)]at g2;cases g2
  ·rcases h2 with h2|h2
   ·by_cases hj:i+1<q.length
    ·rw[yax (by omega),show i+1+1-q.length=0 by omega]at g2;cases g2
    ·rw[yax (by omega),show i+1-q.length=0 by omega]at g1;cases g1
   ·cases h2
def zgd{x:Str}{pre q post:List Nat}(hx:L x=pre++(q++post)):strSub x pre.length (pre.length+q.length)=T q:=by
 apply zgN;show(strSub x _ _).cps.toList=_;rw[strSub_toList,L_T,show x.cps.toList=pre++(q++post)from hx,List.drop_left,Nat.add_sub_cancel_left,List.take_left]
def ztn{x:Str}:x.length=(L x).length:=(zdF x).symm
theorem zpa:∀(Q:List (List Nat)) (pre:List Nat) (x:Str),Q≠[]->L x=pre++jy Q->(∀q∈Q,nn q)->∃cuts f,ChainG x Y x.length pre.length cuts f/\(∀k,f<=k->¬ At x Y x.length k)/\partsFrom x 4 pre.length cuts=Q.map T
 |[],_,_,h,_,_=>absurd rfl h|[q],pre,x,_,hx,hq=>by
  have hx':L x=pre++(q++[]):=by rw[yaP];exact hx
  refine⟨[],pre.length,rfl,fun k hk=>zsQ hx' (hq q (.head _)) (.inl rfl) hk (.inr rfl),?_⟩;show[strSub x pre.length x.length]=[T q];rw[<-zgd hx',ztn,hx',yah,yaP]
 |q::q2::r,pre,x,_,hx,hq=>by
  have hx':L x=pre++(q++([10,45,45,10]++jy (q2::r))):=by
   rw[hx];show pre++(q++[10,45,45,10]++jy (q2::r))=_;rw[ybt q]
  have hx2:L x=(pre++q++[10,45,45,10])++jy (q2::r):=by
   rw[hx'];simp
  obtain⟨cuts,f,c1,c2,c3⟩:=zpa (q2::r) (pre++q++[10,45,45,10]) x (by simp) hx2 (fun z hz=>hq z (.tail _ hz))
  have el:(pre++q++[10,45,45,10]).length=pre.length+q.length+Y.length:=by rw[yah,yah];rfl
  rw[el]at c1 c3;refine⟨(pre.length+q.length)::cuts,f,⟨Nat.le_add_right _ _,⟨?_,?_⟩,fun k h1 h2=>zsQ hx' (hq q (.head _)) (.inr ⟨_,rfl⟩) h1 (.inl h2),c1⟩,c2,?_⟩
  ·have:=congrArg List.length hx2;rw[yah,el,zdF]at this;omega
  ·rw[subAt_eq]
   have:(x.cps.toList.drop (pre.length+q.length)).take Y.length=L Y:=by
    rw[show x.cps.toList=(pre++q)++([10,45,45,10]++jy (q2::r))by rw[show x.cps.toList=L x from rfl,hx'];simp,<-yah,List.drop_left];rfl
   rw[this];exact ybi _
  ·show strSub x pre.length (pre.length+q.length)::partsFrom x 4 (pre.length+q.length+4) cuts=_;rw[zgd hx'];exact congrArg (T q::·) c3
def zpJ{x:Str}{Q:List (List Nat)}(hQ:Q≠[])(hx:L x=jy Q)(hq:∀q∈Q,nn q)(hk:(Builtin.Str.strKind x<Builtin.Str.strKind Y)=False):Txt.split x Y=Q.map T:=by
 obtain⟨cuts,f,c1,c2,c3⟩:=zpa Q [] x hQ hx hq;obtain⟨f',d1,d2⟩:=occ_tight x Y (by decide);have e:=zf5 d1 d2 c1 c2
 have whole:cuts=[]->Q.map T=[x]:=fun h=>by
  subst h;rw[<-c3];show[strSub x 0 x.length]=[x];rw[sub_whole]
 unfold Txt.split;split
 ·rename_i h;rw[ych,yaT,yaT]at h
  rcases h with h|h
  ·refine(whole ?_).symm
   cases cuts with
   |nil=>rfl|cons c r=>have:=c1.2.1.1;omega
  ·rw[hk]at h;exact h.elim
 ·split
  ·rename_i h;rw[e]at h;exact(whole (List.isEmpty_iff.mp h)).symm
  ·rw[e,partsBetween_eq];exact c3
def zqr{a b:List Nat}(ha:10 ∉ a):Txt.partition (T (a++10::b)) ⟨#[10]⟩=(T a,⟨#[10]⟩,T b):=by
 have hx:L (T (a++10::b))=a++10::b:=L_T _
 have hat:At (T (a++10::b)) ⟨#[10]⟩ (T (a++10::b)).length a.length:=by
  refine(subAt_one _ _ _).mpr ?_;show(L (T (a++10::b)))[a.length]?=some 10;rw[hx,yax (yal _),yb5];rfl
 have hno:∀k,k<a.length->¬ At (T (a++10::b)) ⟨#[10]⟩ (T (a++10::b)).length k:=fun k hk h=>by
  have h:=(subAt_one _ _ _).mp h;have h:(L (T (a++10::b)))[k]?=some 10:=h;rw[hx,yaE hk]at h;exact ha (yaY h)
 unfold Txt.partition
 rcases occ_head (T (a++10::b)) ⟨#[10]⟩ 1 (yal _)with⟨e,n⟩|⟨i,r,e,h1,h2⟩
 ·exact absurd hat (n _)
 ·have ei:i=a.length:=by
   rcases yc0 i a.length with h|h|h
   ·exact absurd h1 (hno i h)
   ·exact h
   ·exact absurd hat (h2 _ h)
  rw[e];subst ei
  have l1:(T (a++10::b)).length=a.length+1+b.length:=by rw[<-zdF,hx,yah,yae];omega
  have s1:strSub (T (a++10::b)) 0 a.length=T a:=by
   have:=zgd (x:=T (a++10::b)) (pre:=[]) (q:=a) (post:=10::b) hx;rwa[ycb,Nat.zero_add]at this
  have s2:strSub (T (a++10::b)) (a.length+1) (a.length+1+b.length)=T b:=by
   have:=zgd (x:=T (a++10::b)) (pre:=a++[10]) (q:=b) (post:=[]) (by rw[hx];simp);rwa[yah]at this
  show(strSub _ 0 a.length,_,strSub _ (a.length+1) _)=_;rw[l1,s1,s2]
end TX
namespace S2
open PySem TX
open L2 hiding D
section
variable{S:Sto}{tl:List D}{n m:Nat}
def zh9{ks:List (List Nat)}(h:Ks ks)(hi:zbZ [FlD (ks.map fD)] S=.ok (.bl true) S):zdt [.str (T (zey ks))] S=.ok (FlD (ks.map fD)) S:=by
 obtain⟨he,hr⟩:=zq1 h
 have hs:(T (zey ks)).length<=1500:=by
  have:=zcu (f:=fun k=>kL k++[10]) (B:=5) (l:=ks) fun k hk=>by rw[yah,zfR,h.four k hk];decide
  have hle:=h.le;rw[zej];unfold zey;omega
 generalize T (zey ks)=s at*;have hl0:=zlF (s:=s);have hz:=Txt.slice_le s none (some (-1))
 have ec:zbg (.one 0) zcJ (eFn zbG [(zae 0)]) [none] ((Txt.split (Txt.slice s none (some (-1))) "\n").map D.str) S=.ok ((rdS s).map D.tup) S:=by
  rw[zfF];show zbg _ _ _ _ ((zeF s).map D.str) S=_
  have:=zaA (tg:=.one 0) (elt:=eFn zbG [(zae 0)]) (ρ0:=[none]) (S:=S) (ds:=(zeF s).map D.str) (g:=fun d=>match d with|.str y=>.tup ((L y).map zkr)|_=>.non) fun d hd=>by
   obtain⟨l,hl,rfl⟩:=yag.mp hd;refine⟨_,rfl,?_⟩;simp[zg8 (show l.length<=2000 by have:=hl0.2 l hl;omega)]
  rw[this,yav];unfold rdS;rw[yav];rfl
 have n1:("\n":Str).length=1:=by decide +kernel
 have hl:((rdS s).map D.tup).length<=100000:=by unfold rdS;rw[yab,yab];omega
 have hs1:s.length<=100000:=by omega
 have hs2:(Txt.slice s none (some (-1))).length<=100000:=by omega
 rw[<-hr]at hi ⊢;have e':FlD (rdS s)=.tup ((rdS s).map D.tup):=rfl;rw[e']at hi ⊢;have en:zqy (.int 1)=some (.int (-1)):=rfl;generalize (rdS s).map D.tup=X at*;simp[zdt,zan,zeq,he,zcl,ec,hl,hs1,hs2,hi,en,n1]
def zhA{rs:List (List D)}(h:Fls rs):(flL rs).length<=200:=by
 have:=zlR (c:=10) (B:=18) (l:=rs.map rL) fun a ha=>by
  obtain⟨r,hr,rfl⟩:=yag.mp ha;exact zoB (h.row r hr).2 (h.ok r hr)
 have hle:=h.le;rw[yab]at this;unfold flL;omega
def zgl{rs:List (List D)}(hn:tl.length<=12)(h:Fls rs)(hc:∀r∈rs,∀d∈r,OkC tl.length d)(hi:zaL [.tup tl,FlD rs] S=.ok (.bl true) S):zbt [.tup tl,.str (T (flL rs))] S=.ok (FlD rs) S:=by
 have hr:=zl8 hn h hc
 have hs:(T (flL rs)).length<=1500:=by rw[zej];have:=zhA h;omega
 generalize T (flL rs)=s at*;have h0:=zeV s 10
 have ec:zbg (.one 0) zcJ (eFn zb7 [(zae 1),(zae 0)]) [none,some (false,.dic (knD tl.length))] ((Txt.split s "\n").map D.str) S=.ok ((rdF tl.length s).map D.tup) S:=by
  rw[zfF]
  have:=zaA (tg:=.one 0) (elt:=eFn zb7 [(zae 1),(zae 0)]) (ρ0:=[none,some (false,.dic (knD tl.length))]) (S:=S) (ds:=(Txt.split s ⟨#[10]⟩).map D.str) (g:=fun d=>match d with|.str y=>.tup ((Txt.split y ⟨#[32]⟩).map (ce tl.length))|_=>.non) fun d hd=>by
   obtain⟨l,hl,rfl⟩:=yag.mp hd;refine⟨_,rfl,?_⟩;simp[zh5 hn (show l.length<=1500 by have:=h0.2 l hl;omega)]
  rw[this,yav];unfold rdF;rw[yav];rfl
 have n1:("\n":Str).length=1:=by decide +kernel
 have hl:((rdF tl.length s).map D.tup).length<=100000:=by unfold rdF;rw[yab,yab];omega
 have hs1:s.length<=100000:=by omega
 have ek:=zh6 (S:=S) hn;rw[<-hr]at hi ⊢;have e':FlD (rdF tl.length s)=.tup ((rdF tl.length s).map D.tup):=rfl;rw[e']at hi ⊢;generalize (rdF tl.length s).map D.tup=X at*;simp[zbt,zan,zdc,ek,zcl,ec,hl,hs1,hi,n1,zfC]
noncomputable def enL(k:Str)(rs:List (List D)):List Nat:=[45,45,10]++L k++[10]++flL rs++[10]
def ztM:("--\n":Str)=T [45,45,10]:=by decide +kernel
def zjh{k:Str}(h:zcm k):k.length<=5:=by rcases h with rfl|rfl|rfl|rfl<;>decide +kernel
def zol(a b:List Nat):T a++T b=T (a++b):=zgN (by rw[zkh,L_T,L_T,L_T])
def zk8{T':D}{ds:List (D×D)}{dn un:List D}{k:Str}{rs:List (List D)}(h:S[m]?=some (alb T' ds dn un))(ho:zac ds=true)(hk:zcm k)(hd:zab k ds=some (FlD rs))(hf:Fls rs):zbv [.ref m,.str k] S=.ok (.str (T (enL k rs))) S:=by
 have e1:=za7 hk h ho hd;have m1:zaG "Album" "floor_of" (.ref m) S=true:=zaK h (by decide);have e2:=zd0 (S:=S) hf;have l1:=zjh hk;have l2:=zhA hf;have n1:("\n":Str)=T [10]:=zfF;unfold enL;have ek:k=T (L k):=(TL k).symm
 have lk:(L k).length<=5:=by rw[zdF];exact l1
 generalize L k=kl at*;subst ek;generalize flL rs=fl at*;generalize FlD rs=F at*
 have q1:[45,45,10].length+kl.length<=100000:=by simp;omega
 have a1:3+kl.length<=100000:=by omega
 have a2:kl.length+1+1+1+1<=100000:=by omega
 have a3:kl.length+1+1+1+1+fl.length<=100000:=by omega
 have a4:kl.length+(fl.length+1)+1+1+1+1<=100000:=by omega
 simp[zbv,zan,zdg,e1,m1,e2,ztM,n1,zol,zej,a1,a2,a3,a4]
end
open PySem
def zkq(und:Str->Str->Bool)(isx:Str->Str->Option Bool):Fs:=
  (zak (sFz [] (sIf (zaj eqD (zaj ixD (zai 1) (zad (.int 0))) (zad (.str "join"))) (zak (sFz [0,1] (za6 (zdR und isx [0,1] (zaU "Album" "join" zal (zae 0) [(zaj ixD (zai 1) (zad (.int 1))),(zaj ixD (zai 1) (zad (.int 2))),(zaj ixD (zai 1) (zad (.int 3))),(zaj ixD (zai 1) (zad (.int 4)))])))) sNx) sNx))
  (zak (sFz [0,1] (za6 (zdR und isx [0,1] (eIf (zaj eqD (zaj ixD (zai 1) (zad (.int 0))) (zad (.str "put"))) (zaU "Album" "put" zaO (zae 0) [(zaj ixD (zai 1) (zad (.int 1))),(zaj ixD (zai 1) (zad (.int 2)))]) (zaU "Album" "take" zaw (zae 0) [(zaj ixD (zai 1) (zad (.int 1)))])))))
  sNx))
structure ClsT(und:Str->Str->Bool)(isx:Str->Str->Option Bool):Prop where
 u1:und "NoName" "FloorError"=true
 u2:und "Unlike" "FloorError"=true
 c1:∀S,zmL isx "NoName" S=.ok (.str "no name") S
 c2:∀S,zmL isx "Unlike" S=.ok (.str "unlike") S
def zfc(und:Str->Str->Bool)(isx:Str->Str->Option Bool):Out D->Out D|.ok d S'=>.ok d S'|.exc c S'=>if und c "FloorError"then zmL isx c S' else .bad|.bad=>.bad
section
variable{und:Str->Str->Bool}{isx:Str->Str->Option Bool}{S:Sto}{m:Nat}{deed:D}
def ziS{ρ:Env}{caps:List Nat}{fb:Fe}{ds:List D}(h:zhL ρ caps=some ds):zdR und isx caps fb ρ S=zfc und isx (fb (ds.map fun d=>some (false,d)) S):=by
 unfold zdR;rw[h];dsimp only
 cases fb (ds.map fun d=>some (false,d)) S<;>rfl
def zn8{k k1 k2:Str}{b:Bool}(hm:zaG "Album" "join" (.ref m) S=true):zbc 2 false (zkq und isx) [.ref m,.tup [.str "join",.str k,.str k1,.str k2,.bl b]] S=zfc und isx (zal [.ref m,.str k,.str k1,.str k2,.bl b] S):=by
 have d0:ixD (.tup [.str "join",.str k,.str k1,.str k2,.bl b]) (.int 0)=some (.str "join"):=zag _ 0;have d1:ixD (.tup [.str "join",.str k,.str k1,.str k2,.bl b]) (.int 1)=some (.str k):=zag _ 1;have d2:ixD (.tup [.str "join",.str k,.str k1,.str k2,.bl b]) (.int 2)=some (.str k1):=zag _ 2;have d3:ixD (.tup [.str "join",.str k,.str k1,.str k2,.bl b]) (.int 3)=some (.str k2):=zag _ 3;have d4:ixD (.tup [.str "join",.str k,.str k1,.str k2,.bl b]) (.int 4)=some (.bl b):=zag _ 4;generalize D.tup [.str "join",.str k,.str k1,.str k2,.bl b]=deed at*
 have ht:zdR und isx [0,1] (zaU "Album" "join" zal (zae 0) [(zaj ixD (zai 1) (zad (.int 1))),(zaj ixD (zai 1) (zad (.int 2))),(zaj ixD (zai 1) (zad (.int 3))),(zaj ixD (zai 1) (zad (.int 4)))]) [some (false,.ref m),some (false,deed)] S=zfc und isx (zal [.ref m,.str k,.str k1,.str k2,.bl b] S):=by
  rw[ziS (ds:=[.ref m,deed]) rfl];simp[hm,d1,d2,d3,d4]
 cases hx:zfc und isx (zal [.ref m,.str k,.str k1,.str k2,.bl b] S)<;>rw[hx]at ht<;>simp[zan,zkq,d0,zvU,ht]
 all_goals rfl
def zra{k:Str}{F:D}(hm:zaG "Album" "put" (.ref m) S=true):zbc 2 false (zkq und isx) [.ref m,.tup [.str "put",.str k,F]] S=zfc und isx (zaO [.ref m,.str k,F] S):=by
 have d0:ixD (.tup [.str "put",.str k,F]) (.int 0)=some (.str "put"):=zag _ 0;have d1:ixD (.tup [.str "put",.str k,F]) (.int 1)=some (.str k):=zag _ 1;have d2:ixD (.tup [.str "put",.str k,F]) (.int 2)=some F:=zag _ 2;generalize D.tup [.str "put",.str k,F]=deed at*
 have ht:zdR und isx [0,1] (eIf (zaj eqD (zaj ixD (zai 1) (zad (.int 0))) (zad (.str "put"))) (zaU "Album" "put" zaO (zae 0) [(zaj ixD (zai 1) (zad (.int 1))),(zaj ixD (zai 1) (zad (.int 2)))]) (zaU "Album" "take" zaw (zae 0) [(zaj ixD (zai 1) (zad (.int 1)))])) [some (false,.ref m),some (false,deed)] S=zfc und isx (zaO [.ref m,.str k,F] S):=by
  rw[ziS (ds:=[.ref m,deed]) rfl];simp[hm,d0,d1,d2,ztG]
 cases hx:zfc und isx (zaO [.ref m,.str k,F] S)<;>rw[hx]at ht<;>simp[zan,zkq,d0,zvT,ht]
 all_goals rfl
def zn7{k:Str}(hm:zaG "Album" "take" (.ref m) S=true):zbc 2 false (zkq und isx) [.ref m,.tup [.str "take",.str k]] S=zfc und isx (zaw [.ref m,.str k] S):=by
 have d0:ixD (.tup [.str "take",.str k]) (.int 0)=some (.str "take"):=zag _ 0;have d1:ixD (.tup [.str "take",.str k]) (.int 1)=some (.str k):=zag _ 1;generalize D.tup [.str "take",.str k]=deed at*
 have ht:zdR und isx [0,1] (eIf (zaj eqD (zaj ixD (zai 1) (zad (.int 0))) (zad (.str "put"))) (zaU "Album" "put" zaO (zae 0) [(zaj ixD (zai 1) (zad (.int 1))),(zaj ixD (zai 1) (zad (.int 2)))]) (zaU "Album" "take" zaw (zae 0) [(zaj ixD (zai 1) (zad (.int 1)))])) [some (false,.ref m),some (false,deed)] S=zfc und isx (zaw [.ref m,.str k] S):=by
  rw[ziS (ds:=[.ref m,deed]) rfl];simp[hm,d0,d1,zq8]
 cases hx:zfc und isx (zaw [.ref m,.str k] S)<;>rw[hx]at ht<;>simp[zan,zkq,d0,zvS,ht]
 all_goals rfl
end
def zq3{n c:Nat}{rs:List (List D)}(h:FlOk n c rs):(FlD rs).pl=true/\∀j,D.fit (j+2) (FlD rs)=true:=by
 have hc:∀r∈rs,∀d∈r,d.pl=true/\∀j,D.fit j d=true:=fun r hr d hd=>by
  rcases(h.row r hr).2 d hd with rfl|⟨x,rfl,_,_⟩
  ·exact⟨rfl,fun j=>zq6⟩
  ·exact⟨rfl,fun j=>zmd⟩
 refine⟨?_,fun j=>?_⟩
 ·show D.pls (rs.map D.tup)=true;rw[D.pls_iff];intro d hd;obtain⟨r,hr,rfl⟩:=yag.mp hd;show D.pls r=true;rw[D.pls_iff];exact fun d hd=>(hc r hr d hd).1
 ·show D.fits (j+1) (rs.map D.tup)=true;rw[D.fits_iff];intro d hd;obtain⟨r,hr,rfl⟩:=yag.mp hd;show D.fits j r=true;rw[D.fits_iff];exact fun d hd=>(hc r hr d hd).2 j
noncomputable def zmN(n:Nat)(d:D):Prop:=∃rs c,d=FlD rs/\FlOk n c rs/\rs.length<=6/\c<=6
structure AV(n:Nat)(ds:List (D×D)):Prop where
 key:zgO ds
 val:∀x d,zab x ds=some d->zmN n d
section
variable{n:Nat}{ds es:List (D×D)}{k:Str}{d:D}
theorem zmN.pl(h:zmN n d):d.pl=true/\d.fit 8=true/\d.fit 9=true/\zek d=false:=by
 obtain⟨rs,c,rfl,f,_,_⟩:=h;exact⟨(zq3 f).1,(zq3 f).2 6,(zq3 f).2 7,rfl⟩
def AV.plv(h:AV n ds):PlV ds:=fun x d hx=>⟨(h.val x d hx).pl.1,(h.val x d hx).pl.2.1⟩
def AV.of(h:AV n ds)(e:∀x,zab x ds=zab x es):AV n es:=⟨fun x d hx=>h.key x d (by rw[e];exact hx),fun x d hx=>h.val x d (by rw[e];exact hx)⟩
def AV.put(h:AV n ds)(ho:zac ds=true)(hk:zcm k)(hd:zmN n d):AV n (putS k d ds):=by
 refine⟨fun x e hx=>?_,fun x e hx=>?_⟩<;>rw[zd3 ho]at hx<;>split at hx
 ·rename_i q;rw[<-q];exact hk
 ·exact h.key x e hx
 ·cases hx;exact hd
 ·exact h.val x e hx
def AV.drop(h:AV n ds)(ho:zac ds=true):AV n (dropS k ds):=by
 refine⟨fun x e hx=>?_,fun x e hx=>?_⟩<;>rw[zcG ho]at hx<;>split at hx
 ·cases hx
 ·exact h.key x e hx
 ·cases hx
 ·exact h.val x e hx
theorem zib:∀{ds:List (D×D)},(putS k d ds).length<=ds.length+1
 |[]=>yal _|(.str x,e)::r=>by
  unfold putS;split
  ·exact ya6 _
  ·exact Nat.succ_le_succ zib
 |(.non,_)::_=>by show 1<=_;rw[yae];omega
 |(.bl _,_)::_=>by show 1<=_;rw[yae];omega
 |(.int _,_)::_=>by show 1<=_;rw[yae];omega
 |(.tup _,_)::_=>by show 1<=_;rw[yae];omega
 |(.lst _,_)::_=>by show 1<=_;rw[yae];omega
 |(.dic _,_)::_=>by show 1<=_;rw[yae];omega
 |(.ref _,_)::_=>by show 1<=_;rw[yae];omega
 |(.exc _,_)::_=>by show 1<=_;rw[yae];omega
 |(.scr _,_)::_=>by show 1<=_;rw[yae];omega
def Mp.putd(M:Mp ds es):Mp (putS k d ds) (putS k d (dropS k es))where
 l:=zeP M.l
 r:=zeP (zbO M.r)
 eq:=fun x=>by
  rw[zd3 M.l,zd3 (zbO M.r),zcG M.r]
  by_cases q:k=x
  ·rw[if_pos q,if_pos q]
  ·rw[if_neg q,if_neg q,if_neg q];exact M.eq x
def Mp.dropd(M:Mp ds es):Mp (dropS k ds) (dropS k es):=⟨zbO M.l,zbO M.r,fun x=>by rw[zcG M.l,zcG M.r,M.eq]⟩
inductive DueOk(n:Nat):D->Prop
 |bl (b:Bool):DueOk n (.bl b)
 |fl {d:D}:zmN n d->DueOk n d
def ztI{d:D}(h:DueOk n d):neD d d=some (.bl false):=by
 cases h with
 |bl b=>cases b<;>kernel_rfl|fl h=>exact zgp h.pl.1 h.pl.2.2.1
structure Done(S S':Sto)(m:Nat)(tl:List D)(n:Nat)(ds es es':List (D×D))(dn:List D)(deed due:D):Prop where
 ex:∃(w k:Str) (new:D),(∃b,deed=.tup (.str w::b))/\(w="put" \/ w="take" \/ w="join")/\zcm k/\(new=.non\/zmN n new)/\DueOk n due/\Mp (nmd k new ds) es'/\AV n (nmd k new ds)/\(nmd k new ds).length<=ds.length+1 ∧
  S'=S.set m (alb (.tup tl) (nmd k new ds) (dn++[.tup [.str w,.str k,(zab k ds).getD .non,new]]) [])
def zlw(h:zek d=false):nmd k d ds=putS k d ds:=by
 unfold nmd
 cases d<;>first|rfl|cases h
theorem zmq{und:Str->Str->Bool}{isx:Str->Str->Option Bool}(C:ClsT und isx){S:Sto}{m:Nat}{tl dn un:List D}{deed:D}(h:S[m]?=some (alb (.tup tl) ds dn un))(M:Mp ds es)(V:AV tl.length ds)(hl:ds.length<=60)(hd:dn.length<=1000)(Dd:DeedOk tl.length deed):
  ∃es' due S',(∀S0,zaa [.dic es,deed] S0=.ok (.tup [.dic es',due]) S0)/\zbc 2 false (zkq und isx) [.ref m,deed] S=.ok due S' ∧
   ((es'=es/\S'=S/\(due=.str "no name" \/ due=.str "unlike"))\/Done S S' m tl tl.length ds es es' dn deed due):=by
 have Ve:=V.of M.eq
 have hle:es.length<=1000:=by rw[<-M.len];omega
 cases Dd with
 |put hk hf hr hc=>
  rename_i k rs c;have FV:zmN tl.length (FlD rs):=⟨rs,c,rfl,hf,hr,hc⟩;have ef:=zcd (S:=S) hf (by omega) (by omega);rw[yaz ⟨hr,hc⟩]at ef;have ep:=zpY hk FV.pl.2.2.2 h M.l (by omega) (by omega) ef;have e2:=zra (und:=und) (isx:=isx) (k:=k) (F:=FlD rs) (m:=m) (S:=S) (zaK h (by decide));rw[ep]at e2
  refine⟨_,_,_,fun S0=>zrf M.r hle Ve.key hk,by rw[e2,<-M.eq];rfl,.inr ⟨"put",k,FlD rs,⟨_,rfl⟩,.inl rfl,hk,.inr FV,.bl _,?_,?_,?_,?_⟩⟩<;>rw[zlw FV.pl.2.2.2]
  ·exact M.putd
  ·exact V.put M.l hk FV
  ·exact zib
 |take hk=>
  rename_i k;have e2:=zn7 (und:=und) (isx:=isx) (k:=k) (m:=m) (S:=S) (zaK h (by decide))
  cases hx:zab k ds with
  |none=>
   rw[zh3 hk h M.l hx]at e2;refine⟨es,.str "no name",S,fun S0=>ziB M.r hle Ve.key hk (by rw[<-M.eq];exact hx),?_,.inl ⟨rfl,rfl,.inl rfl⟩⟩;rw[e2];show(if und "NoName" "FloorError"then _ else _)=_;rw[if_pos C.u1,C.c1]
  |some F=>
   rw[zm6 hk h M.l (by omega) (by omega) hx]at e2;refine⟨_,F,_,fun S0=>zoi M.r hle Ve.key hk (by rw[<-M.eq];exact hx),e2,.inr ⟨"take",k,.non,⟨_,rfl⟩,.inr (.inl rfl),hk,.inl rfl,.fl (V.val k F hx),M.dropd,V.drop M.l,yas zd9 (ya6 _),by rw[hx];rfl⟩⟩
 |join hk hk1 hk2=>
  rename_i k k1 k2 b;have e2:=zn8 (und:=und) (isx:=isx) (k:=k) (k1:=k1) (k2:=k2) (b:=b) (m:=m) (S:=S) (zaK h (by decide))
  have no:(∀S0,zaa [.dic es,.tup [.str "join",.str k,.str k1,.str k2,.bl b]] S0=.ok (.tup [.dic es,.str "no name"]) S0)->zal [.ref m,.str k,.str k1,.str k2,.bl b] S=.exc "NoName" S->∃es' due S',(∀S0,zaa [.dic es,.tup [.str "join",.str k,.str k1,.str k2,.bl b]] S0=.ok (.tup [.dic es',due]) S0)/\zbc 2 false (zkq und isx) [.ref m,.tup [.str "join",.str k,.str k1,.str k2,.bl b]] S=.ok due S' ∧
   ((es'=es/\S'=S/\(due=.str "no name" \/ due=.str "unlike"))\/Done S S' m tl tl.length ds es es' dn (.tup [.str "join",.str k,.str k1,.str k2,.bl b]) due):=fun hb hj=>by
   rw[hj]at e2;refine⟨es,.str "no name",S,hb,?_,.inl ⟨rfl,rfl,.inl rfl⟩⟩;rw[e2];show(if und "NoName" "FloorError"then _ else _)=_;rw[if_pos C.u1,C.c1]
  have un:(∀S0,zaa [.dic es,.tup [.str "join",.str k,.str k1,.str k2,.bl b]] S0=.ok (.tup [.dic es,.str "unlike"]) S0)->zal [.ref m,.str k,.str k1,.str k2,.bl b] S=.exc "Unlike" S->∃es' due S',(∀S0,zaa [.dic es,.tup [.str "join",.str k,.str k1,.str k2,.bl b]] S0=.ok (.tup [.dic es',due]) S0)/\zbc 2 false (zkq und isx) [.ref m,.tup [.str "join",.str k,.str k1,.str k2,.bl b]] S=.ok due S' ∧
   ((es'=es/\S'=S/\(due=.str "no name" \/ due=.str "unlike"))\/Done S S' m tl tl.length ds es es' dn (.tup [.str "join",.str k,.str k1,.str k2,.bl b]) due):=fun hb hj=>by
   rw[hj]at e2;refine⟨es,.str "unlike",S,hb,?_,.inl ⟨rfl,rfl,.inr rfl⟩⟩;rw[e2];show(if und "Unlike" "FloorError"then _ else _)=_;rw[if_pos C.u2,C.c2]
  cases hx:zab k1 ds with
  |none=>exact no (fun S0=>zfz M.r hle Ve.key hk (.inl (by rw[<-M.eq];exact hx))) (zhb hk hk1 h M.l hx)
  |some x=>
   cases hy:zab k2 ds with
   |none=>exact no (fun S0=>zfz M.r hle Ve.key hk (.inr (by rw[<-M.eq];exact hy))) (zha hk hk1 hk2 h M.l hx hy)
   |some y=>
    obtain⟨rs,c,rfl,f1,r1,c1⟩:=V.val k1 x hx;obtain⟨rs',c',rfl,f2,r2,c2⟩:=V.val k2 y hy
    have hx':zab k1 es=some (FlD rs):=by rw[<-M.eq];exact hx
    have hy':zab k2 es=some (FlD rs'):=by rw[<-M.eq];exact hy
    have yes:∀(z:List (List D)) (cz:Nat),FlOk tl.length cz z->z.length<=6->cz<=6->zj1 b (FlD rs) (FlD rs') S=.ok (FlD z) S->(∀S0,zaa [.dic es,.tup [.str "join",.str k,.str k1,.str k2,.bl b]] S0=.ok (.tup [.dic (putS k (FlD z) (dropS k es)),FlD z]) S0)->∃es' due S',(∀S0,zaa [.dic es,.tup [.str "join",.str k,.str k1,.str k2,.bl b]] S0=.ok (.tup [.dic es',due]) S0)/\zbc 2 false (zkq und isx) [.ref m,.tup [.str "join",.str k,.str k1,.str k2,.bl b]] S=.ok due S' ∧
     ((es'=es/\S'=S/\(due=.str "no name" \/ due=.str "unlike"))\/Done S S' m tl tl.length ds es es' dn (.tup [.str "join",.str k,.str k1,.str k2,.bl b]) due):=fun z cz fz hz hcz hj hb=>by
     have FV:zmN tl.length (FlD z):=⟨z,cz,rfl,fz,hz,hcz⟩;have ef:=zcd (S:=S) fz (by omega) (by omega);rw[yaz ⟨hz,hcz⟩]at ef;rw[zm8 hk hk1 hk2 FV.pl.2.2.2 h M.l (by omega) (by omega) hx hy hj ef]at e2
     refine⟨_,_,_,hb,e2,.inr ⟨"join",k,FlD z,⟨_,rfl⟩,.inr (.inr rfl),hk,.inr FV,.fl FV,?_,?_,?_,?_⟩⟩<;>rw[zlw FV.pl.2.2.2]
     ·exact M.putd
     ·exact V.put M.l hk FV
     ·exact zib
    cases b with
    |true=>
     have hb:∀S0,_:=fun S0=>zgK (S:=S0) M.r hle Ve.key hk hx' hy' f1 f2 r1 r2 c1 c2
     have hj:zj1 true (FlD rs) (FlD rs') S=_:=zjT (S:=S) f1 f2 (by omega) (by omega) (by omega)
     by_cases he:rs.length=rs'.length
     ·rw[if_pos he]at hj;have fz:=f1.beside f2 he
      have zl:(zb2 rs rs').length=rs.length:=by rw[zcH,<-he,Nat.min_self]
      by_cases h6:c+c'<=6
      ·simp only[if_pos (And.intro he h6)]at hb;exact yes _ _ fz (by omega) h6 hj hb
      ·simp only[if_neg (fun z:rs.length=rs'.length/\c+c'<=6=>h6 z.2)]at hb;have ef:=zcd (S:=S) fz (by omega) (by omega);rw[yaJ (fun z=>h6 z.2)]at ef;exact un hb (zcL hk hk1 hk2 h M.l hx hy (.inr ⟨_,hj,ef⟩))
     ·rw[if_neg he]at hj;simp only[if_neg (fun z:rs.length=rs'.length/\c+c'<=6=>he z.1)]at hb;exact un hb (zcL hk hk1 hk2 h M.l hx hy (.inl hj))
    |false=>
     have hb:∀S0,_:=fun S0=>zfK (S:=S0) M.r hle Ve.key hk hx' hy' f1 f2 r1 r2 c1 c2
     have hj:zj1 false (FlD rs) (FlD rs') S=_:=zlb (S:=S) f1 f2 (by omega) (by omega)
     by_cases he:c=c'
     ·subst he;rw[if_pos rfl]at hj;have fz:=f1.below f2;have zl:(rs++rs').length=rs.length+rs'.length:=yah
      by_cases h6:rs.length+rs'.length<=6
      ·exact yes _ _ fz (by omega) c1 hj fun S0=>by rw[hb S0,if_pos ⟨rfl,h6⟩]
      ·have ef:=zcd (S:=S) fz (by omega) (by omega);rw[yaJ (fun z=>h6 (by omega))]at ef;exact un (fun S0=>by rw[hb S0,if_neg (fun z=>h6 z.2)]) (zcL hk hk1 hk2 h M.l hx hy (.inr ⟨_,hj,ef⟩))
     ·rw[if_neg he]at hj;simp only[if_neg (fun z:c=c'/\rs.length+rs'.length<=6=>he z.1)]at hb;exact un hb (zcL hk hk1 hk2 h M.l hx hy (.inl hj))
end
def zhz(Iv:Nat->Env->Sto->Prop)(step:∀k d ρ S,ds[k]?=some d->Iv k ρ S->∃ρ1 ρ2 S2,tg.put ρ d=some ρ1/\body ρ1 S=.nx ρ2 S2/\Iv (k+1) ρ2 S2)(h0:Iv 0 ρ S):∃ρ' S',zik tg body ds ρ S=.nx ρ' S'/\Iv ds.length ρ' S':=by
 have go:∀(n:Nat) (es:List D) (k:Nat) (ρ:Env) (S:Sto),es.length=n->ds.drop k=es->k+n=ds.length->Iv k ρ S->∃ρ' S',zik tg body es ρ S=.nx ρ' S'/\Iv ds.length ρ' S':=by
  intro n
  induction n with
  |zero=>
   intro es k ρ S hl he hk hi;obtain rfl:es=[]:=ya0 hl;exact⟨ρ,S,rfl,by rw[show ds.length=k by omega];exact hi⟩
  |succ n ih=>
   intro es k ρ S hl he hk hi
   cases es with
   |nil=>cases hl|cons d es=>
    have hd:ds[k]?=some d:=by
     have:=congrArg (fun l=>l[0]?) he;rw[ybn]at this;simpa using this
    obtain⟨ρ1,ρ2,S2,e1,e2,hi2⟩:=step k d ρ S hd hi;obtain⟨ρ',S',e3,e4⟩:=ih es (k+1) ρ2 S2 (by simpa using hl) (by rw[<-List.drop_drop,he];rfl) (by omega) hi2;refine⟨ρ',S',?_,e4⟩;unfold zik;rw[e1];dsimp only;rw[e2];exact e3
 exact go ds.length ds 0 ρ S rfl (by simp) (by omega) h0
def zef{S:Sto}{x:Ob}:(S++[x])[S.length]?=some x:=by simp
def zdW{S:Sto}{x y:Ob}:(S++[x]).set S.length y=S++[y]:=by simp
def zi5{S:Sto}{T:D}(hs:∀S,zbZ [T] S=.ok (.bl true) S):zaM [.ref S.length,T] (S++[⟨"Album",[]⟩])=.ok .non (S++[alb T [] [] []]):=by
 have e1:zk1 "Album" "tiles" (zae 0) (zae 1) [some (false,.ref S.length),some (false,T)] (S++[⟨"Album",[]⟩])=.nx [some (false,.ref S.length),some (false,T)] (S++[⟨"Album",[("tiles",false,T)]⟩]):=by
  show(match(S++[(⟨"Album",[]⟩:Ob)])[S.length]? with|some ob=>_|none=>_)=_;rw[zef];show(if _ then Fo.nx _ ((S++[(⟨"Album",[]⟩:Ob)]).set S.length _)else _)=_;rw[if_pos (by rfl),zdW];rfl
 have e2:zk2 "Album" "named" 0 [some (false,.ref S.length),some (false,T)] (S++[⟨"Album",[("tiles",false,T)]⟩])=.nx [some (false,.ref S.length),some (false,T)] (S++[⟨"Album",[("tiles",false,T),("named",true,.tup [.dic []])]⟩]):=by
  show(match(S++[(⟨"Album",[("tiles",false,T)]⟩:Ob)])[S.length]? with|some ob=>_|none=>_)=_;rw[zef];show(if _ then Fo.nx _ ((S++[_]).set S.length _)else _)=_;rw[if_pos (by rfl),zdW];rfl
 have e3:zfD "Album" "done" 0 [some (false,.ref S.length),some (false,T)] (S++[⟨"Album",[("tiles",false,T),("named",true,.tup [.dic []])]⟩])=.nx [some (false,.ref S.length),some (false,T)] (S++[⟨"Album",[("tiles",false,T),("named",true,.tup [.dic []]),("done",true,.tup [.lst []])]⟩]):=by
  show(match(S++[(⟨"Album",[("tiles",false,T),("named",true,.tup [.dic []])]⟩:Ob)])[S.length]? with|some ob=>_|none=>_)=_;rw[zef];show(if _ then Fo.nx _ ((S++[_]).set S.length _)else _)=_;rw[if_pos (by rfl),zdW];rfl
 have e4:zfD "Album" "undone" 0 [some (false,.ref S.length),some (false,T)] (S++[⟨"Album",[("tiles",false,T),("named",true,.tup [.dic []]),("done",true,.tup [.lst []])]⟩])=.nx [some (false,.ref S.length),some (false,T)] (S++[alb T [] [] []]):=by
  show(match(S++[(⟨"Album",[("tiles",false,T),("named",true,.tup [.dic []]),("done",true,.tup [.lst []])]⟩:Ob)])[S.length]? with|some ob=>_|none=>_)=_;rw[zef];show(if _ then Fo.nx _ ((S++[_]).set S.length _)else _)=_;rw[if_pos (by rfl),zdW];rfl
 simp[zaM,zan,zbV,hs,zcl,e1,e2,e3,e4]
section
variable{S:Sto}{m:Nat}{T:D}{ds es:List (D×D)}{dn un:List D}{n:Nat}
def zg7(h:S[m]?=some (alb T ds dn un)):zbj [.ref m] S=.ok T S:=by
 simp[zbj,zan,zcB,zcX h]
def zg6(h:S[m]?=some (alb T ds dn un)):zaX [.ref m] S=.ok (.tup [.int dn.length,.int un.length]) S:=by
 have e1:∀ρ:Env,ρ[0]?=some (some (false,.ref m))->zeK "Album" "done" 0 ρ S=.ok (.int dn.length) S:=fun ρ h0=>by unfold zeK;rw[ziD h0 h]
 have e2:∀ρ:Env,ρ[0]?=some (some (false,.ref m))->zeK "Album" "undone" 0 ρ S=.ok (.int un.length) S:=fun ρ h0=>by unfold zeK;rw[zmA h0 h]
 simp[zaX,zan,zcT,e1,e2]
def zgU{ts:Z2}:(D.tup (ts.map zah)).pl=true/\(D.tup (ts.map zah)).fit 9=true:=by
 refine⟨?_,?_⟩
 ·show D.pls (ts.map zah)=true;rw[D.pls_iff];intro d hd;obtain⟨t,_,rfl⟩:=yag.mp hd;exact zid
 ·show D.fits 8 (ts.map zah)=true;rw[D.fits_iff];intro d hd;obtain⟨t,_,rfl⟩:=yag.mp hd;exact zgA
def zt7(M:Mp ds es)(V:AV n ds):neD (.dic (unS (zdI ds))) (.dic es)=some (.bl false):=by
 have m1:=Mp.srt M.l;refine zsY ⟨m1.l,M.r,fun x=>(m1.eq x).trans (M.eq x)⟩ fun x d hx=>V.plv x d (by rw[<-m1.eq];exact hx)
def zjJ(M:Mp ds es)(hl:ds.length<64):zee [.dic es]=some (.lst ((zaC (zau es)).map D.str)):=by
 show(if zac es&&decide (es.length<64)then _ else _)=_;rw[if_pos (by rw[M.r,<-M.len,yaz hl];rfl)]
end
section
variable{S:Sto}{n m:Nat}{ks:List (List Nat)}{ds es:List (D×D)}{dn un:List D}{k:Str}{d:D}
noncomputable def zsa:D->List D|.tup r=>r|_=>[]
def zgk:D->List (List D)|.tup l=>l.map zsa|_=>[]
def zcn{rs:List (List D)}:zgk (FlD rs)=rs:=by
 show(rs.map D.tup).map zsa=rs;rw[yav];exact ycP _
def enD(ds:List (D×D))(k:Str):List Nat:=enL k (zgk ((zab k ds).getD .non))
def zeL(ks:List (List Nat))(ds:List (D×D)):List Nat:=zey ks++((zaC (zau ds)).map (enD ds)).flatten
def zmN.fls(h:zmN n d)(hn:n<=12):∃rs c,d=FlD rs/\Fls rs/\FlOk n c rs/\∀r∈rs,∀d∈r,OkC n d:=by
 obtain⟨rs,c,rfl,ok,h6,c6⟩:=h
 have oc:∀r∈rs,∀d∈r,OkC n d:=fun r hr d hd=>by
  rcases(ok.row r hr).2 d hd with rfl|⟨x,rfl,h0,h1⟩
  ·exact .inl rfl
  ·exact .inr ⟨x.toNat,by omega,by rw[Int.toNat_of_nonneg h0]⟩
 refine⟨rs,c,rfl,⟨ok.ne,h6,fun r hr=>?_,fun r hr d hd=>(oc r hr d hd).to hn⟩,ok,oc⟩;have:=ok.c1;rw[(ok.row r hr).1];omega
def zfa(ho:zac ds=true)(hk:k∈zaC (zau ds)):∃d,zab k ds=some d:=by
 cases hx:zab k ds with
 |none=>exact absurd ((zaE _).mem_iff.mp hk) ((zbA ho).mp hx)|some d=>exact⟨d,rfl⟩
def zc9(ho:zac ds=true)(V:AV n ds):(zaC (zau ds)).length<=4:=by
 rw[(zaE _).length_eq]
 have h:=(zbJ ho).length_le_of_subset (l₂:=[("a":Str),"b","c","sheet"]) fun x hx=>by
  obtain⟨d,hd⟩:=zfa ho ((zaE _).mem_iff.mpr hx)
  rcases V.key x d hd with rfl|rfl|rfl|rfl<;>simp
 exact h
def zjv(V:AV n ds)(hn:n<=12)(ho:zac ds=true)(hk:k∈zaC (zau ds)):(enD ds k).length<=300:=by
 obtain⟨d,hd⟩:=zfa ho hk;obtain⟨rs,c,rfl,hf,_⟩:=(V.val k d hd).fls hn;unfold enD;rw[hd];show(enL k (zgk (FlD rs))).length<=300;rw[zcn];have l1:=zjh (V.key k _ hd);have l2:=zhA hf;have l3:=zdF k;unfold enL;simp only[yah,yae,ycb];omega
def zd1(h:S[m]?=some (alb (FlD (ks.map fD)) ds dn un))(ho:zac ds=true)(hl:ds.length<64)(hks:Ks ks)(V:AV n ds)(hn:n<=12):zbw [.ref m] S=.ok (.str (T (zeL ks ds))) S:=by
 have e1:=zg7 h;have e2:=zg9 h ho hl;have m1:zaG "Album" "set_of" (.ref m) S=true:=zaK h (by decide);have m2:zaG "Album" "names" (.ref m) S=true:=zaK h (by decide);have e3:=zeX (S:=S) hks;have l4:=zc9 ho V
 have ec:zbg (.one 0) zcJ (eFn zbv [(zae 1),(zae 0)]) [none,some (false,.ref m)] ((zaC (zau ds)).map D.str) S=.ok ((zaC (zau ds)).map fun k=>.str (T (enD ds k))) S:=by
  have:=zaA (tg:=.one 0) (elt:=eFn zbv [(zae 1),(zae 0)]) (ρ0:=[none,some (false,.ref m)]) (S:=S) (ds:=(zaC (zau ds)).map D.str) (g:=fun d=>match d with|.str k=>.str (T (enD ds k))|_=>.non) fun d hd=>by
   obtain⟨k,hk,rfl⟩:=yag.mp hd;refine⟨_,rfl,?_⟩;obtain⟨d,hd⟩:=zfa ho hk;obtain⟨rs,c,rfl,hf,_⟩:=(V.val k d hd).fls hn;have e:=zk8 h ho (V.key k _ hd) hd hf
   have e':enD ds k=enL k rs:=by unfold enD;rw[hd];show enL k (zgk (FlD rs))=_;rw[zcn]
   simp[e,e']
  rw[this,yav];rfl
 have es':=zdp (fun k=>T (enD ds k)) (zaC (zau ds))
 have ej:JoinOk ("":Str) ((zaC (zau ds)).map fun k=>T (enD ds k))=true:=zff (by rw[yab];omega) (fun t ht=>by
  obtain⟨k,hk,rfl⟩:=yag.mp ht;have:=zjv V hn ho hk
  rw[zej];omega) (by decide +kernel)
 have et:Txt.join ("":Str) ((zaC (zau ds)).map fun k=>T (enD ds k))=T ((zaC (zau ds)).map (enD ds)).flatten:=zgN (by
  rw[zfg,zq9,zgu,L_T,yav]
  congr 1)
 have l5:((zaC (zau ds)).map (enD ds)).flatten.length<=4*300:=yas (zcu (B:=300) fun k hk=>zjv V hn ho hk) (ycH _ l4)
 have l6:(zey ks).length<=1000:=by
  have:=zcu (f:=fun k=>kL k++[10]) (B:=5) (l:=ks) fun k hk=>by rw[yah,zfR,hks.four k hk];decide
  have hle:=hks.le;unfold zey;omega
 have l7:(zey ks).length+((zaC (zau ds)).map (enD ds)).flatten.length<=100000:=by omega
 unfold zeL
 have l8:(zaC (zau ds)).length<=100000:=by omega
 generalize ((zaC (zau ds)).map (enD ds)).flatten=A at*;generalize zey ks=B at*;generalize FlD (ks.map fD)=C at*;generalize hX:((zaC (zau ds)).map fun k=>D.str (T (enD ds k)))=X at*
 have lX:X.length<=100000:=by rw[<-hX,yab];exact l8
 simp[zbw,zan,zdh,e1,e2,e3,m1,m2,ec,es',ej,et,l7,l8,lX,zej,zol]
end
section
variable{S:Sto}{n m:Nat}{ks:List (List Nat)}{ds es:List (D×D)}{dn un:List D}{k:Str}{d:D}
def zmD(M:Mp ds es):zeL ks ds=zeL ks es:=by
 unfold zeL;rw[zmY M.perm];congr 3;funext k;unfold enD;rw[M.eq]
def zeZ(hks:Ks ks)(V:AV n es)(ho:zac es=true)(hl:es.length<64)(hn:n<=12):zaS [FlD (ks.map fD),.dic es] S=.ok (.str (T (zeL ks es))) S:=by
 have e3:=zeX (S:=S) hks;have l4:=zc9 ho V;have es0:zee [.dic es]=some (.lst ((zaC (zau es)).map D.str)):=zjJ (ds:=es) ⟨ho,ho,fun _=>rfl⟩ hl
 have l6:(zey ks).length<=1000:=by
  have:=zcu (f:=fun k=>kL k++[10]) (B:=5) (l:=ks) fun k hk=>by rw[yah,zfR,hks.four k hk];decide
  have hle:=hks.le;unfold zey;omega
 have hen:=fun k hk=>zjv (k:=k) V hn ho hk
 have hat:∀k∈zaC (zau es),∃rs,ixD (.dic es) (.str k)=some (FlD rs)/\zbu [FlD rs] S=.ok (.str (T (flL rs))) S/\enD es k=enL k rs/\k.length<=5/\(flL rs).length<=200:=fun k hk=>by
  obtain⟨d,hd⟩:=zfa ho hk;obtain⟨rs,c,rfl,hf,_⟩:=(V.val k d hd).fls hn;exact⟨rs,zfS ho hd,zd0 hf,by unfold enD;rw[hd];show enL k (zgk (FlD rs))=_;rw[zcn],zjh (V.key k _ hd),zhA hf⟩
 unfold zeL;generalize zaC (zau es)=NL at*;generalize FlD (ks.map fD)=F at*;generalize zey ks=B at*
 obtain⟨ρ',e,y,rfl⟩:=zdz (tg:=.one 3) (body:=zbs) (ds:=NL.map D.str) (S:=S) (fun j ρ=>∃y,ρ=[some (false,F),some (false,.dic es),some (false,.str (T (B++((NL.take j).map (enD es)).flatten))),y]) (by
  rintro j d ρ hd ⟨y,rfl⟩;rw[yau]at hd
  cases hj:NL[j]? with
  |none=>rw[hj]at hd;cases hd|some k=>
   rw[hj]at hd;cases hd;have hk:=yaY hj;obtain⟨rs,x1,x2,x3,x4,x5⟩:=hat k hk;refine⟨_,_,rfl,?_,some (false,.str k),rfl⟩
   have et:(NL.take (j+1)).map (enD es)=(NL.take j).map (enD es)++[enD es k]:=by
    rw[List.take_succ,hj];simp
   have hA:((NL.take j).map (enD es)).flatten.length<=4*300:=yas (zcu (B:=300) fun k hk=>hen k (List.mem_of_mem_take hk)) (ycH _ (yas (List.length_take_le' _ _) l4));rw[et,List.flatten_append,List.flatten_singleton,x3];unfold enL;generalize ((NL.take j).map (enD es)).flatten=A at*;have ek:k=T (L k):=(TL k).symm
   have lk:(L k).length<=5:=by rw[zdF];exact x4
   have n1:("\n":Str)=T [10]:=zfF;generalize L k=kl at*;subst ek;generalize flL rs=fl at*;generalize FlD rs=R at*
   have q1:B.length+A.length+3<=100000:=by omega
   have q2:B.length+(A.length+1+1+1)+kl.length<=100000:=by omega
   have q3:B.length+(A.length+(kl.length+1+1+1))+1<=100000:=by omega
   have q4:B.length+(A.length+(kl.length+1+1+1+1))+fl.length<=100000:=by omega
   have q5:B.length+(A.length+(kl.length+(fl.length+1)+1+1+1))+1<=100000:=by omega
   simp[zbs,x1,x2,ztM,n1,zol,zej,q1,q2,q3,q4,q5]) (ρ:=[some (false,F),some (false,.dic es),some (false,.str (T B)),none]) ⟨none,by simp⟩
 rw[yab,ybX]at e
 have l8:NL.length<=100000:=by omega
 simp[zaS,zan,zbL,e3,es0,e,l8]
end
end S2
namespace TX
open PySem
def zig{q:List Nat}(h:45 ∉ q):nn q:=fun i z=>h (yaY z.1)
def zoQ{a b:List Nat}{c:Nat}(ha:nn a)(hb:nn b)(hc:c≠45):nn (a++c::b):=by
 intro i ⟨h1,h2⟩
 rcases yc0 (i+1) a.length with h|h|h
 ·rw[yaE (by omega)]at h1;rw[yaE h]at h2;exact ha i ⟨h1,h2⟩
 ·rw[yax (by omega),h,yb5]at h2;exact hc (Option.some.inj h2)
 ·by_cases e:i=a.length
  ·rw[yax (by omega),e,yb5]at h1;exact hc (Option.some.inj h1)
  ·rw[yax (by omega),show i-a.length=(i-a.length-1)+1 by omega,ycj]at h1;rw[yax (by omega),show i+1-a.length=(i-a.length-1+1)+1 by omega,ycj]at h2;exact hb _ ⟨h1,h2⟩
def zsT:nn []:=fun i z=>by cases z.1
theorem znD{c:Nat}(hc:c≠45):∀{ps:List (List Nat)},(∀p∈ps,nn p)->nn (jn c ps)
 |[],_=>zsT|[x],h=>h x (.head _)|x::y::r,h=>zoQ (h x (.head _)) (znD hc (ps:=y::r) fun p hp=>h p (.tail _ hp)) hc
end TX
namespace S2
open PySem TX
open L2 hiding D
def zvq{d:D}(h:OkN d):nn (L (nT d)):=by
 rcases h with rfl|⟨i,hi,rfl⟩
 ·intro j z
  have e:L (nT .non)=[45]:=by decide +kernel
  rw[e]at z
  cases j with
  |zero=>cases z.2|succ j=>cases z.1
 ·refine zig ?_
  have:∀i,i<12->45 ∉ L (dI (i:Nat)):=by decide +kernel
  exact this i hi
def zvr{rs:List (List D)}(h:Fls rs):nn (flL rs):=by
 unfold flL;refine znD (by decide) fun p hp=>?_
 obtain⟨r,hr,rfl⟩:=yag.mp hp;unfold rL;refine znD (by decide) fun p hp=>?_
 obtain⟨d,hd,rfl⟩:=yag.mp hp;exact zvq (h.ok r hr d hd)
def zlx{k:Str}(h:zcm k):10 ∉ L k/\45 ∉ L k:=by rcases h with rfl|rfl|rfl|rfl<;>decide +kernel
def znE{k:Str}{rs:List (List D)}(hk:zcm k)(h:Fls rs):nn (L k++10::flL rs):=zoQ (zig (zlx hk).2) (zvr h) (by decide)
def zjV{k:Str}{rs:List (List D)}(hk:zcm k):Txt.partition (T (L k++10::flL rs)) ⟨#[10]⟩=(k,⟨#[10]⟩,T (flL rs)):=by rw[zqr (zlx hk).1,TL]
def zsS{ks:List (List Nat)}(h:Ks ks):nn (jn 10 (ks.map kL)):=by
 refine znD (by decide) fun p hp=>?_
 obtain⟨k,hk,rfl⟩:=yag.mp hp;refine zig fun z=>?_
 obtain⟨i,_,e⟩:=yag.mp z;omega
def zt8{ks:List (List Nat)}(hne:ks≠[]):∀(es:List (List Nat)),zey ks++(es.map fun q=>[45,45,10]++q++[10]).flatten=jy (jn 10 (ks.map kL)::es)++[10]:=by
 intro es;rw[zi3 hne];generalize jn 10 (ks.map kL)=A
 induction es generalizing A with
 |nil=>simp[jy]|cons q r ih=>
  rw[yaw,yct];have:=ih q;show _=(A++[10,45,45,10]++jy (q::r))++[10];rw[ybt (A++[10,45,45,10]),<-this];simp
section
variable{S:Sto}{n m:Nat}{ks:List (List Nat)}{ds es:List (D×D)}{dn un tl:List D}{k:Str}{d:D}
def zta(x:Str):(Builtin.Str.strKind x<Builtin.Str.strKind Y)=False:=by
 have h:Builtin.Str.strKind Y=1:=by decide +kernel
 rw[h];unfold Builtin.Str.strKind;refine eq_false ?_;split
 ·omega
 ·split<;>omega
def zxw:("\n--\n":Str)=Y:=by decide +kernel
def zvv{a b:Str}(ha:zcm a)(hb:zcm b)(h:leS a b)(hne:a≠b):leD (.str b) (.str a)=some (.bl false):=by
 rcases ha with rfl|rfl|rfl|rfl<;>rcases hb with rfl|rfl|rfl|rfl<;>first|exact absurd rfl hne|exact absurd h (by unfold leS;decide +kernel)|kernel_rfl
def zvw{a:Str}(ha:zcm a):leD (.str a) (.str "")=some (.bl false):=by
 rcases ha with rfl|rfl|rfl|rfl<;>kernel_rfl
def pqL(ds:List (D×D))(k:Str):List Nat:=L k++10::flL (zgk ((zab k ds).getD .non))
def zvV:enD ds k=[45,45,10]++pqL ds k++[10]:=by unfold enD enL pqL;simp
def zmR{ps:List (Str×D)}{k:Str}{d:D}(h:((ps++[(k,d)]).map (·.1)).Nodup):putS k d (unS ps)=unS (ps++[(k,d)]):=zeg [(k,d)] ps h
noncomputable def znN(NL:List Str)(j:Nat):Str:=match j with|0=>""|j+1=>(NL[j]?).getD ""
def zeY(hn:tl.length<=12)(V:AV tl.length ds)(ho:zac ds=true):za1 [.tup tl,.lst ((zaC (zau ds)).map fun k=>.str (T (pqL ds k)))] S=.ok (.dic (unS (zdI ds))) S:=by
 have l4:=zc9 ho V;have hs:=zdr ho
 have hat:∀k∈zaC (zau ds),∃rs,(zab k ds)=some (FlD rs)/\Txt.partition (T (pqL ds k)) ⟨#[10]⟩=(k,⟨#[10]⟩,T (flL rs))/\zbt [.tup tl,.str (T (flL rs))] S=.ok (FlD rs) S/\zcm k/\(T (pqL ds k)).length<=300:=fun k hk=>by
  obtain⟨d,hd⟩:=zfa ho hk;obtain⟨rs,c,e,hf,fo,oc⟩:=(V.val k d hd).fls hn;subst e;have hk':=V.key k _ hd
  have e:pqL ds k=L k++10::flL rs:=by unfold pqL;rw[hd];show L k++10::flL (zgk (FlD rs))=_;rw[zcn]
  obtain⟨rs',c',e',fo',h6,c6⟩:=V.val k _ hd
  have err:rs=rs':=by rw[<-zcn (rs:=rs),e',zcn]
  subst err;have ef:=zcd (S:=S) fo' (by omega) (by omega);rw[yaz ⟨h6,c6⟩]at ef;refine⟨rs,hd,by rw[e];exact zjV hk',zgl hn hf oc ef,hk',?_⟩;rw[zej,e,yah,yae,zdF];have:=zjh hk';have:=zhA hf;omega
 have hsP:zdI ds=(zaC (zau ds)).map fun x=>(x,(zab x ds).getD .non):=rfl
 have hso:=zc3 (zau ds);have hnd:(zaC (zau ds)).Nodup:=(zaE _).nodup_iff.mpr (zbJ ho);rw[hsP]at hs ⊢;generalize zaC (zau ds)=NL at*
 obtain⟨ρ',e,y4,y5,y6,rfl⟩:=zdz (tg:=.one 4) (body:=zbX) (ds:=NL.map fun k=>D.str (T (pqL ds k))) (S:=S) (fun j ρ=>∃y4 y5 y6,ρ=[some (false,.tup tl),some (false,.lst (NL.map fun k=>D.str (T (pqL ds k)))),some (true,.dic (unS ((NL.take j).map fun x=>(x,(zab x ds).getD .non)))),some (false,.str (znN NL j)),y4,y5,y6]) (by
  rintro j d ρ hd ⟨y4,y5,y6,rfl⟩;rw[yau]at hd
  cases hj:NL[j]? with
  |none=>rw[hj]at hd;cases hd|some k=>
   rw[hj]at hd;cases hd;have hk:=yaY hj;obtain⟨rs,x1,x2,x3,x4,x5⟩:=hat k hk
   have et:(NL.take (j+1)).map (fun x=>(x,(zab x ds).getD .non))=(NL.take j).map (fun x=>(x,(zab x ds).getD .non))++[(k,FlD rs)]:=by
    rw[List.take_succ,hj];simp[x1]
   have hnt:(((NL.take j).map (fun x=>(x,(zab x ds).getD .non))++[(k,FlD rs)]).map (·.1)).Nodup:=by
    rw[<-et];exact hs.sublist (((ycr _ _).map _).map _)
   have eu:=zmR hnt;have hu:zac (unS ((NL.take j).map fun x=>(x,(zab x ds).getD .non)))=true:=(zdT (hs.sublist (((ycr _ _).map _).map _))).1
   have hul:(unS ((NL.take j).map fun x=>(x,(zab x ds).getD .non))).length<=100000:=by
    unfold unS;rw[yab,yab];have:=List.length_take_le' j NL;omega
   have ele:leD (.str k) (.str (znN NL j))=some (.bl false):=by
    cases j with
    |zero=>exact zvw x4|succ i=>
     have hi:i<NL.length:=by have:=(yan.mp hj).1;omega
     have el:znN NL (i+1)=NL[i]:=by show(NL[i]?).getD ""=_;rw[yad hi];rfl
     obtain⟨hj1,hj2⟩:=yan.mp hj;obtain⟨_,_,_,_,x4',_⟩:=hat NL[i] (ycE hi);rw[el];refine zvv x4' x4 ?_ ?_
     ·rw[<-hj2];exact List.pairwise_iff_getElem.mp hso i (i+1) hi hj1 (by omega)
     ·rw[<-hj2];exact List.pairwise_iff_getElem.mp hnd i (i+1) hi hj1 (by omega)
   have e7:znN NL (j+1)=k:=by show(NL[j]?).getD ""=_;rw[hj];rfl
   refine⟨_,_,rfl,?_,some (false,.str (T (pqL ds k))),some (false,.tup [.str k,.str ⟨#[10]⟩,.str (T (flL rs))]),some (false,.str k),rfl⟩;rw[et,<-eu,e7]
   have ep:zlq (T (pqL ds k)) (.str "\n")=some (.tup [.str k,.str ⟨#[10]⟩,.str (T (flL rs))]):=by
    rw[zfF];show(if !((⟨#[10]⟩:Str).length==0)&&zaD (T (pqL ds k)).length then some (D.tup [.str (Txt.partition (T (pqL ds k)) ⟨#[10]⟩).1,.str (Txt.partition (T (pqL ds k)) ⟨#[10]⟩).2.1,.str (Txt.partition (T (pqL ds k)) ⟨#[10]⟩).2.2])else none)=_;rw[x2,if_pos];rw[yaa];exact⟨rfl,yaz (by omega)⟩
   have d0:ixD (.tup [.str k,.str ⟨#[10]⟩,.str (T (flL rs))]) (.int 0)=some (.str k):=zag _ 0;have d2:ixD (.tup [.str k,.str ⟨#[10]⟩,.str (T (flL rs))]) (.int 2)=some (.str (T (flL rs))):=zag _ 2;generalize D.tup [.str k,.str ⟨#[10]⟩,.str (T (flL rs))]=P at*;have ei:=zds (S:=S) x4;generalize unS ((NL.take j).map fun x=>(x,(zab x ds).getD .non))=U at*;generalize NL.map (fun k=>D.str (T (pqL ds k)))=NN at*;generalize T (flL rs)=fl at*;generalize FlD rs=F at*
   have hP:∀ρ:Env,ρ[2]?=some (some (true,.dic U))->ρ[0]?=some (some (false,.tup tl))->ρ[5]?=some (some (false,P))->ρ[6]?=some (some (false,.str k))->zdJ 2 (zae 6) (eFn zbt [(zae 0),(zaj ixD (zai 5) (zad (.int 2)))]) ρ S=.nx (ρ.set 2 (some (true,.dic (putS k F U)))) S:=
    fun ρ h2 h0 h5 h6=>zi9 (S1:=S) h2 hu hul (by simp[h0,h5,d2,x3]) (by rw[ziL,h6];rfl)
   simp[zbX,ep,d0,ei,zcl,ele,hP]) (ρ:=[some (false,.tup tl),some (false,.lst (NL.map fun k=>D.str (T (pqL ds k)))),some (true,.dic []),some (false,.str ""),none,none,none]) ⟨none,none,none,rfl⟩
 rw[yab,ybX]at e
 have l8:NL.length<=100000:=by omega
 generalize hX:NL.map (fun k=>D.str (T (pqL ds k)))=X at*
 have lX:X.length<=100000:=by rw[<-hX,yab];exact l8
 generalize unS (NL.map fun x=>(x,(zab x ds).getD .non))=U at*;simp[za1,zan,zcA,e,lX]
end
end S2
namespace S2.L93
open PySem
open L2 hiding D
noncomputable def zmJ:List (Str×Str):=[("NoText","FloorError"),("Unlike","FloorError"),("NoName","FloorError"),("Nothing","FloorError")]
def isL:Str->Str->Option Bool:=zut ["NoText","Unlike","NoName","Nothing"] ["FloorError","NoPlace","NoTile","NoFill","Unlike","Nothing","NoText","NoName"]
noncomputable def zfY:Fs:=
  (zak (sFz [] (sIf (zaj eqD (zaj ixD (zai 1) (zad (.int 0))) (zad (.str "join"))) (zak (sFz [0,1] (za6 (zdR (zkj zmJ) isL [0,1] (zaU "Album" "join" zal (zae 0) [(zaj ixD (zai 1) (zad (.int 1))),(zaj ixD (zai 1) (zad (.int 2))),(zaj ixD (zai 1) (zad (.int 3))),(zaj ixD (zai 1) (zad (.int 4)))])))) sNx) sNx))
  (zak (sFz [0,1] (za6 (zdR (zkj zmJ) isL [0,1] (eIf (zaj eqD (zaj ixD (zai 1) (zad (.int 0))) (zad (.str "put"))) (zaU "Album" "put" zaO (zae 0) [(zaj ixD (zai 1) (zad (.int 1))),(zaj ixD (zai 1) (zad (.int 2)))]) (zaU "Album" "take" zaw (zae 0) [(zaj ixD (zai 1) (zad (.int 1)))])))))
  sNx))
noncomputable def zb8:List S2.D->Sto->Out S2.D:=zbc 2 false zfY
noncomputable def zgM:Fs:=
  (zak (sFz [0,1] (zcc 5 false (eFn zbp [(zae 0),(zaj zbD (zad (.int 1000)) (zaj zji (zad (.int 60)) (zai 4))),(zae 1)]))) (zak (sFz [3,5] (zgh (.tup [3,6]) (eFn zaa [(zae 3),(zae 5)]))) (zak (sFz [2,5] (zkm (eFn zb8 [(zae 2),(zae 5)]))) sNx)))
noncomputable def zgL:Fs:=
  (zak (sFz [0,1] (zcc 5 false (eFn zbp [(zae 0),(zaj zbD (zad (.int 3000)) (zaj zji (zad (.int 60)) (zai 4))),(zae 1)]))) (zak (sFz [9,5] (zgh (.tup [9,6]) (eFn zaa [(zae 9),(zae 5)]))) (zak (sFz [10,5,10,1,9] (sIf (eOr (zaj neD (eFn zb8 [(zae 10),(zae 5)]) (zai 6)) (zaj neD (eFn zbw [(zae 10)]) (eFn zaS [(zae 1),(zae 9)]))) (zak (sFz [] (za6 (zad (.bl false)))) sNx) sNx)) sNx)))
noncomputable def ziT:Fs:=zak (sFz [2] (za6 (zgQ (zaj eqD (eFn zbw [(zae 2)]) (zai 7)) (zaj eqD (zaU "Album" "sizes" zaX (zae 2) []) (zai 8))))) sNx
noncomputable def zkw:Fs:=zak (sFz [] (zkl (.one 4) (zeu (zad (.int 3))) zgL)) ziT
noncomputable def zkx:Fs:=zak (sFz [10] (sIf (zaj neD (zdR (zkj zmJ) isL [10] (zaU "Album" "back" zbM (zae 0) [])) (zad (.str "nothing"))) (zak (sFz [] (za6 (zad (.bl false)))) sNx) sNx)) zkw
noncomputable def zky:Fs:=zak (sFz [10] (sIf (eOr (zaj neD (eFn zb1 [(zae 10)]) (zai 3)) (eOr (zaj neD (zaU "Album" "set_of" zbj (zae 10) []) (zai 1)) (zaj neD (zaU "Album" "sizes" zaX (zae 10) []) (zeJ [(zad (.int 0)),(zad (.int 0))])))) (zak (sFz [] (za6 (zad (.bl false)))) sNx) sNx)) zkx
noncomputable def zkz:Fs:=zak (sFz [7,3] (zgh (.tup [10,9]) (zeJ [(eFn zco [(zae 7)]),(zae 3)]))) zky
noncomputable def zkA:Fs:=zak (sFz [2] (sIf (zaj neD (eFn zbw [(zae 2)]) (zai 7)) (zak (sFz [] (za6 (zad (.bl false)))) sNx) sNx)) zkz
noncomputable def zkB:Fs:=zak (sFz [1,3] (zm3 7 8 false (eFn zaS [(zae 1),(zae 3)]) false (zaU "Album" "sizes" zaX (zae 2) []))) zkA
noncomputable def zkC:Fs:=zak (sFz [0] (zkl (.one 4) (zeu (eFn zar [(zae 0),(zad (.int 0)),(zad (.int 11))])) zgM)) zkB
noncomputable def zkD:Fs:=zak (sFz [1] (zm3 2 3 false (eMk "Album" [] zaM [(zae 1)]) true zmj)) zkC
noncomputable def zkE:Fs:=zak (sFz [0] (zcc 1 false (eFn zcp [(zae 0),(zad (.int 200)),(zad (.int 5))]))) zkD
noncomputable def zq7:Fs:=
  zkE
noncomputable def zsd:List S2.D->Sto->Out S2.D:=zbc 11 false zq7
end S2.L93
namespace S2
open PySem TX
open L2 hiding D
section
variable{S:Sto}{n m:Nat}{ks:List (List Nat)}{ds es:List (D×D)}{dn un tl:List D}{k:Str}{d:D}
def zkR(h:Ks ks):(zey ks).length<=100:=by
 have:=zcu (f:=fun k=>kL k++[10]) (B:=5) (l:=ks) fun k hk=>by rw[yah,zfR,h.four k hk];decide
 have hle:=h.le;unfold zey;omega
def zri(h:Ks ks)(V:AV n es)(hn:n<=12)(ho:zac es=true):(zeL ks es).length<=2000:=by
 have l4:=zc9 ho V;have l5:((zaC (zau es)).map (enD es)).flatten.length<=4*300:=yas (zcu (B:=300) fun k hk=>zjv V hn ho hk) (ycH _ l4);have:=zkR h;unfold zeL;rw[yah];omega
def zvd(V:AV n es)(hn:n<=12)(ho:zac es=true){k:Str}(hk:k∈zaC (zau es)):nn (pqL es k):=by
 obtain⟨d,hd⟩:=zfa ho hk;obtain⟨rs,c,rfl,hf,_⟩:=(V.val k d hd).fls hn;unfold pqL;rw[hd];show nn (L k++10::flL (zgk (FlD rs)));rw[zcn];exact znE (V.key k _ hd) hf
def zgi(hks:Ks ks)(hX:FlD (ks.map fD)=.tup tl)(hi:∀S,zbZ [.tup tl] S=.ok (.bl true) S)(hn:tl.length<=12)(V:AV tl.length es)(ho:zac es=true):
  zco [.str (T (zeL ks es))] S=.ok (.ref S.length) (S++[alb (.tup tl) (unS (zdI es)) [] []]):=by
 have hne:ks≠[]:=fun z=>by have:=hks.ne;rw[z]at this;cases this
 have eL:L (T (zeL ks es))=jy (jn 10 (ks.map kL)::(zaC (zau es)).map (pqL es))++[10]:=by
  rw[L_T,<-zt8 hne];unfold zeL;rw[yav];congr 3;funext k;exact zvV
 have hlen:(T (zeL ks es)).length<=2000:=by rw[zej];exact zri hks V hn ho
 have hend:Txt.endswith (T (zeL ks es)) "\n"=true:=by rw[zfF];exact(zmg _).mpr ⟨_,eL⟩
 have hsl:=zfM eL;generalize T (zeL ks es)=s at*
 have hqq:∀q∈jn 10 (ks.map kL)::(zaC (zau es)).map (pqL es),nn q:=fun q hq=>by
  rcases yat.mp hq with rfl|hq
  ·exact zsS hks
  ·obtain⟨k,hk,rfl⟩:=yag.mp hq;exact zvd V hn ho hk
 have hsp:Txt.split (T (jy (jn 10 (ks.map kL)::(zaC (zau es)).map (pqL es)))) Y=_:=zpJ (by simp) (L_T _) hqq (zta _)
 have hjl:(T (jy (jn 10 (ks.map kL)::(zaC (zau es)).map (pqL es)))).length<=2000:=by
  rw[<-hsl];exact yas (Txt.slice_le s none (some (-1))) hlen
 rw[yaw,yav]at hsp;generalize T (jy (jn 10 (ks.map kL)::(zaC (zau es)).map (pqL es)))=z at*;have eset:=zh9 (S:=S) hks (by rw[hX];exact hi S);rw[hX]at eset
 have e1:T (jn 10 (ks.map kL))++T [10]=T (zey ks):=by rw[zol,zi3 hne]
 have hsl2:=zkR hks
 have hjn:(T (jn 10 (ks.map kL))).length+1<=100000:=by
  rw[zej];rw[zi3 hne,yah]at hsl2;have:([10]:List Nat).length=1:=rfl;omega
 have einit:=zi5 (S:=S) (T:=.tup tl) hi;have eent:=zeY (S:=S++[alb (.tup tl) [] [] []]) hn V ho;have ef:=zcX (S:=S++[alb (.tup tl) [] [] []]) (n:=S.length) zef;have en:zqy (.int 1)=some (.int (-1)):=rfl
 have esd:zdV z (.str "\n--\n")=some (.lst (.str (T (jn 10 (ks.map kL)))::(zaC (zau es)).map fun k=>.str (T (pqL es k)))):=by
  rw[zxw];show(if !(Y.length==0)&&zaD z.length then some (D.lst ((Txt.split z Y).map D.str))else none)=_;rw[hsp,if_pos,yaw,yav]
  ·rfl
  ·rw[yaa];exact⟨rfl,yaz (by omega)⟩
 have l4:=zc9 ho V;generalize hN:((zaC (zau es)).map fun k=>D.str (T (pqL es k)))=NN at*;generalize T (jn 10 (ks.map kL))=a at*;generalize T (zey ks)=b at*
 have c1:zrs (D.str a::NN) (some 1) none=NN:=by
  unfold zrs;rw[show(some (1:Int))=some ((1:Nat):Int)from rfl,HT.zpX,HT.zm4,yae,Nat.min_eq_left (by omega)];show NN.take _=NN;rw[Nat.add_sub_cancel,ybX]
 have eN:∀ρ:Env,ρ[2]?=some (some (false,.ref S.length))->ρ[1]?=some (some (false,.lst (.str a::NN)))->zjP "Album" "named" 2 (eFn za1 [(zmi "Album" "tiles" (zae 2)),(eSl (zai 1) (some (zad (.int 1))) none)]) ρ (S++[alb (.tup tl) [] [] []])=.nx ρ (S++[alb (.tup tl) (unS (zdI es)) [] []]):=fun ρ h2 h1=>by
  have e0:eFn za1 [(zmi "Album" "tiles" (zae 2)),(eSl (zai 1) (some (zad (.int 1))) none)] ρ (S++[alb (.tup tl) [] [] []])=.ok (.dic (unS (zdI es))) (S++[alb (.tup tl) [] [] []]):=by
   simp[h2,h1,ef,c1,eent]
  unfold zjP;rw[e0];show zk0 _ _ _ _ _ _=_;unfold zk0;rw[h2];dsimp only;rw[zef];dsimp only;rw[if_pos (by rfl),zdW];rfl
 have n1:("\n":Str)=T [10]:=zfF
 have hs1:s.length<=100000:=by omega
 generalize S++[alb (.tup tl) (unS (zdI es)) [] []]=S2 at*;generalize S++[alb (.tup tl) [] [] []]=S1 at*;have it:zel "str" (.str s)=some (.bl true):=rfl;have d0:ixD (.lst (.str a::NN)) (.int 0)=some (.str a):=zag _ 0
 have ea:zbD (.str a) (.str "\n")=some (.str b):=by
  rw[n1];show(if zaD (a.length+(T [10]).length)then some (D.str (a++T [10]))else none)=_;rw[if_pos (show zaD _=true from yaz (by rw[zej];exact hjn)),e1]
 generalize D.lst (.str a::NN)=P at*;simp[zco,zan,zdd,it,hend,zcl,hs1,hsl,en,esd,d0,ea,eset,einit,eN]
end
def zkL{l:List Nat}(h:∀c∈l,c<128):D.fit 9 (.str (T l))=true:=by
 show PyData.strOk (T l)=true;unfold PyData.strOk;rw[Array.all_eq_true_iff_forall_mem];intro c hc;have:=h c (by simpa using hc);exact yaz (by omega)
def zpR{ks:List (List Nat)}(h:Ks ks):∀c∈zey ks,c<128:=fun c hc=>by
 obtain⟨l,hl,hc⟩:=List.mem_flatten.mp hc;obtain⟨k,hk,rfl⟩:=yag.mp hl
 rcases yaH.mp hc with hc|hc
 ·obtain⟨i,hi,rfl⟩:=yag.mp hc;have:=h.lt k hk i hi;omega
 ·have:=yaK.mp hc;omega
def ztK:∀i,i<12->∀c∈L (dg i),c<128:=by decide +kernel
theorem zlS{c:Nat}(h:c<128):∀{ps:List (List Nat)},(∀p∈ps,∀x∈p,x<128)->∀x∈jn c ps,x<128
 |[],_,x,hx=>nomatch hx|[a],hp,x,hx=>hp a yam x hx|a::b::r,hp,x,hx=>by
  rcases yaH.mp (show x∈a++c::jn c (b::r)from hx)with z|z
  ·exact hp a yam x z
  ·rcases yat.mp z with rfl|z
   ·exact h
   ·exact zlS h (fun p hp'=>hp p (yak _ hp')) x z
def ztB{rs:List (List D)}(h:∀r∈rs,∀d∈r,OkN d):∀c∈flL rs,c<128:=by
 refine zlS (by decide) fun p hp=>?_
 obtain⟨r,hr,rfl⟩:=yag.mp hp;refine zlS (by decide) fun p hp=>?_
 obtain⟨d,hd,rfl⟩:=yag.mp hp
 rcases h r hr d hd with rfl|⟨i,hi,rfl⟩
 ·exact(by decide +kernel:∀c∈L ("-":Str),c<128)
 ·exact ztK i hi
section
variable{S:Sto}{n m:Nat}{ks:List (List Nat)}{ds es:List (D×D)}{dn un tl:List D}{k:Str}{d:D}
def zsV{k:Str}(h:zcm k):∀c∈L k,c<128:=by rcases h with rfl|rfl|rfl|rfl<;>decide +kernel
def ztH(V:AV n es)(hn:n<=12)(ho:zac es=true){k:Str}(hk:k∈zaC (zau es)):∀c∈enD es k,c<128:=by
 obtain⟨d,hd⟩:=zfa ho hk;obtain⟨rs,c,rfl,hf,_⟩:=(V.val k d hd).fls hn;unfold enD;rw[hd];show ∀c∈enL k (zgk (FlD rs)),c<128;rw[zcn];intro c hc;unfold enL at hc
 rcases yaH.mp hc with hc|hc
 ·rcases yaH.mp hc with hc|hc
  ·rcases yaH.mp hc with hc|hc
   ·rcases yaH.mp hc with hc|hc
    ·exact(by decide:∀c∈[45,45,10],c<128) c hc
    ·exact zsV (V.key k _ hd) c hc
   ·have:=yaK.mp hc;omega
  ·exact ztB hf.ok c hc
 ·have:=yaK.mp hc;omega
def zmC(hks:Ks ks)(V:AV n es)(hn:n<=12)(ho:zac es=true):∀c∈zeL ks es,c<128:=fun c hc=>by
 unfold zeL at hc
 rcases yaH.mp hc with hc|hc
 ·exact zpR hks c hc
 ·obtain⟨l,hl,hc⟩:=List.mem_flatten.mp hc;obtain⟨k,hk,rfl⟩:=yag.mp hl;exact ztH V hn ho hk c hc
def zvy{most:Int}{ts:Z2}(ht:Tiles most ts)(hm:most<=12):∃ks,Ks ks/\FlD (ks.map fD)=.tup (ts.map zah):=by
 refine⟨ts.map (·.map Int.toNat),?_,?_⟩
 ·have a:=ht.ne;have b:=ht.le;refine⟨by rw[yab];exact a,by rw[yab];omega,fun k h=>?_,fun k h i hi=>?_⟩
  ·obtain⟨t,ht',rfl⟩:=yag.mp h;rw[yab];exact ht.four t ht'
  ·obtain⟨t,ht',rfl⟩:=yag.mp h;obtain⟨c,hc,rfl⟩:=yag.mp hi;have:=ht.col t ht' c hc;omega
 ·unfold FlD;rw[yav,yav];congr 1;refine ya1 fun t h=>?_
  show D.tup ((t.map Int.toNat).map fun i:Nat=>D.int i)=D.tup (t.map D.int);rw[yav];congr 1;refine ya1 fun c hc=>?_
  have:=ht.col t h c hc;show D.int ((c.toNat:Nat):Int)=D.int c;rw[Int.toNat_of_nonneg this.1]
def zmr{und:Str->Str->Bool}{isx:Str->Str->Option Bool}(C:ClsT und isx){deed:D}(h:S[m]?=some (alb (.tup tl) ds dn un))(M:Mp ds es)(V:AV tl.length ds)(hl:ds.length<=60)(hd:dn.length<=1000)(Dd:DeedOk tl.length deed):
  ∃es' due ds' dn' un',(∀S0,zaa [.dic es,deed] S0=.ok (.tup [.dic es',due]) S0)/\zbc 2 false (zkq und isx) [.ref m,deed] S=.ok due (S.set m (alb (.tup tl) ds' dn' un')) ∧
   Mp ds' es'/\AV tl.length ds'/\ds'.length<=ds.length+1/\dn'.length<=dn.length+1/\neD due due=some (.bl false):=by
 obtain⟨es',due,S',e1,e2,hx⟩:=zmq C h M V hl hd Dd
 rcases hx with⟨rfl,rfl,hdu⟩|⟨w,k,new,_,_,_,_,du,M',V',hl',rfl⟩
 ·refine⟨es',due,ds,dn,un,e1,?_,M,V,ya6 _,ya6 _,?_⟩
  ·rw[zi2 h];exact e2
  ·rcases hdu with rfl|rfl<;>kernel_rfl
 ·exact⟨es',due,_,_,_,e1,e2,M',V',hl',by rw[yah];exact yal _,ztI du⟩
end
open PySem
section
variable{S:Sto}{m n:Nat}{T:D}{ds es es':List (D×D)}{dn un:List D}
def zh7(h:S[m]?=some (alb T ds [] un)):zbM [.ref m] S=.exc "Nothing" S:=by
 have e1:∀ρ:Env,ρ[0]?=some (some (false,.ref m))->zeK "Album" "done" 0 ρ S=.ok (.int (([]:List D).length:Nat)) S:=fun ρ h0=>by unfold zeK;rw[ziD h0 h]
 simp[zbM,zan,zdk,e1]
end
end S2
namespace S2.L93
open PySem TX
open L2 hiding D
def cls:ClsT (zkj zmJ) isL:=⟨by decide,by decide,fun S=>by kernel_rfl,fun S=>by kernel_rfl⟩
def zo5:zb8=zbc 2 false (zkq (zkj zmJ) isL):=rfl
def zyp:zkj zmJ "Nothing" "FloorError"=true:=by decide
def zyq(S:Sto):zmL isL "Nothing" S=.ok (.str "nothing") S:=by kernel_rfl
def zvp:neD (.str "nothing") (.str "nothing")=some (.bl false):=by kernel_rfl
def zuN{fb:Fe}{ρ:Env}{S:Sto}{a:D}(h:ρ[10]?=some (some (false,a))):zdR (zkj zmJ) isL [10] fb ρ S=zfc (zkj zmJ) isL (fb [some (false,a)] S):=ziS (ds:=[a]) (by unfold zhL;rw[h];rfl)
section
variable{l:List Int}{ts:Z2}{ks:List (List Nat)}{es ds es2 ds2:List (D×D)}{dn un dn2 un2:List D}{b:Bool}{x4 x5 x6:Option (Bool×D)}{k:Nat}
noncomputable def eA(l:List Int)(tl:List D)(b:Bool)(es:List (D×D))(x4 x5 x6 x7 x8 x9 x10:Option (Bool×D)):Env:=[some (false,.scr l),some (false,.tup tl),some (false,.ref 0),some (b,.dic es),x4,x5,x6,x7,x8,x9,x10]
noncomputable def Iv(l:List Int)(tl:List D)(k:Nat)(ρ:Env)(S:Sto):Prop:=
 ∃(b:Bool) (es ds:List (D×D)) (dn un:List D) (x4 x5 x6:Option (Bool×D)),ρ=eA l tl b es x4 x5 x6 none none none none/\S=[alb (.tup tl) ds dn un]/\Mp ds es/\AV tl.length ds/\ds.length<=k/\dn.length<=k
def zuK(ht:Tiles 5 ts)(hk:k<11){ρ:Env}{S:Sto}(h:Iv l (ts.map zah) k ρ S):
  ∃ρ1 ρ2 S2,(Tg.one 4).put ρ (.int k)=some ρ1/\zgM ρ1 S=.nx ρ2 S2/\Iv l (ts.map zah) (k+1) ρ2 S2:=by
 obtain⟨b,es,ds,dn,un,x4,x5,x6,rfl,rfl,M,V,h1,h2⟩:=h;have hln:(ts.map zah).length=ts.length:=yab _;obtain⟨deed,Dd,ed⟩:=zi6 (l:=l) (at':=1000+60*(k:Int)) (S:=[alb (.tup (ts.map zah)) ds dn un]) (by omega) ht (by decide);rw[<-hln]at Dd;obtain⟨es',due,ds',dn',un',eb,ei,M',V',l1,l2,_⟩:=zmr cls (S:=[alb (.tup (ts.map zah)) ds dn un]) (m:=0) rfl M V (by omega) (by omega) Dd;rw[<-zo5]at ei;have ebS:=eb [alb (.tup (ts.map zah)) ds dn un]
 have f60:zbY 60=true:=by decide
 refine⟨_,eA l (ts.map zah) false es' (some (false,.int k)) (some (false,deed)) (some (false,due)) none none none none,_,rfl,?_,false,es',ds',dn',un',_,_,_,rfl,rfl,M',V',by omega,by omega⟩;have ei':zb8 [.ref 0,deed] [alb (.tup (ts.map zah)) ds dn un]=.ok due [alb (.tup (ts.map zah)) ds' dn' un']:=ei;generalize [alb (.tup (ts.map zah)) ds dn un]=S at*;generalize [alb (.tup (ts.map zah)) ds' dn' un']=S' at*;generalize ts.map zah=T at*
 cases b<;>simp[zgM,eA,f60,ed,ebS,ei']
def zo3(M:Mp ds es)(h:ds.length<64):es.length<64:=by rw[<-M.len];exact h
noncomputable def Iv2(l:List Int)(tl:List D)(es:List (D×D))(A:Ob)(s z:D)(k:Nat)(ρ:Env)(S:Sto):Prop:=
 ∃(es2 ds2:List (D×D)) (dn un:List D) (x4 x5 x6:Option (Bool×D)),ρ=eA l tl false es x4 x5 x6 (some (false,s)) (some (false,z)) (some (false,.dic es2)) (some (false,.ref 1))/\S=[A,alb (.tup tl) ds2 dn un]/\Mp ds2 es2/\AV tl.length ds2/\ds2.length<=12+k/\dn.length<=k
def zuJ{A:Ob}{s z:D}(ht:Tiles 5 ts)(hks:Ks ks)(hX:FlD (ks.map fD)=.tup (ts.map zah))(hk:k<3){ρ:Env}{S:Sto}(h:Iv2 l (ts.map zah) es A s z k ρ S):
  ∃ρ1 ρ2 S2,(Tg.one 4).put ρ (.int k)=some ρ1/\zgL ρ1 S=.nx ρ2 S2/\Iv2 l (ts.map zah) es A s z (k+1) ρ2 S2:=by
 obtain⟨es2,ds2,dn,un,x4,x5,x6,rfl,rfl,M,V,h1,h2⟩:=h;have hln:(ts.map zah).length=ts.length:=yab _;have h5:=ht.le
 have hn:(ts.map zah).length<=12:=by omega
 obtain⟨deed,Dd,ed⟩:=zi6 (l:=l) (at':=3000+60*(k:Int)) (S:=[A,alb (.tup (ts.map zah)) ds2 dn un]) (by omega) ht (by decide);rw[<-hln]at Dd;obtain⟨es',due,ds',dn',un',eb,ei,M',V',l1,l2,nd⟩:=zmr cls (S:=[A,alb (.tup (ts.map zah)) ds2 dn un]) (m:=1) rfl M V (by omega) (by omega) Dd;rw[<-zo5]at ei;have ebS:=eb [A,alb (.tup (ts.map zah)) ds2 dn un]
 have f60:zbY 60=true:=by decide
 refine⟨_,eA l (ts.map zah) false es (some (false,.int k)) (some (false,deed)) (some (false,due)) (some (false,s)) (some (false,z)) (some (false,.dic es')) (some (false,.ref 1)),_,rfl,?_,es',ds',dn',un',_,_,_,rfl,rfl,M',V',by omega,by omega⟩;have ei':zb8 [.ref 1,deed] [A,alb (.tup (ts.map zah)) ds2 dn un]=.ok due [A,alb (.tup (ts.map zah)) ds' dn' un']:=ei;have ea:=zd1 (S:=[A,alb (.tup (ts.map zah)) ds' dn' un']) (m:=1) (ks:=ks) (ds:=ds') (by rw[hX];rfl) M'.l (by omega) hks V' hn;have Ve:=V'.of M'.eq;have el:=zeZ (S:=[A,alb (.tup (ts.map zah)) ds' dn' un']) hks Ve M'.r (zo3 M' (by omega)) hn;rw[hX]at el;rw[zmD M']at ea;have nt:neD (.str (TX.T (zeL ks es'))) (.str (TX.T (zeL ks es')))=some (.bl false):=zgp rfl (zkL (zmC hks Ve hn M'.r));generalize [A,alb (.tup (ts.map zah)) ds2 dn un]=S at*;generalize [A,alb (.tup (ts.map zah)) ds' dn' un']=S' at*;clear hX;generalize ts.map zah=T at*;generalize TX.T (zeL ks es')=t at*;simp[zgL,eA,f60,ed,ebS,ei',nd,ea,el,nt]
end
theorem znM(l:List Int)(hl:l.length<=63):∃S,zsd [.scr l] []=.ok (.bl true) S:=by
 obtain⟨ts,ht,et⟩:=zk3 (l:=l) (at':=200) (most:=5) (S:=[]) (by decide) (by decide) (by decide);have hset:∀S,zbZ [.tup (ts.map zah)] S=.ok (.bl true) S:=fun S=>zk5 ht (by decide)
 have ei:=zi5 (S:=[]) (T:=.tup (ts.map zah)) hset;have ei':zaM [.ref 0,.tup (ts.map zah)] [⟨"Album",[]⟩]=.ok .non [alb (.tup (ts.map zah)) [] [] []]:=ei;obtain⟨ks,hks,hX⟩:=zvy ht (by decide);have hln:(ts.map zah).length=ts.length:=yab _;have h5:=ht.le
 have hn:(ts.map zah).length<=12:=by omega
 obtain⟨p0,p11⟩:=zbq l 0 (many:=11) (by decide);have ep:=fun S=>za4 (l:=l) (k:=0) (many:=11) (S:=S) (by decide) (by decide)
 generalize za9 l 0 11=P at*
 obtain⟨ρ',S',e,hI⟩:=zhz (tg:=.one 4) (body:=zgM) (ds:=za8 0 P) (Iv l (ts.map zah)) (by
  intro k d ρ S hd h;obtain⟨rfl,hk⟩:=zce hd
  exact zuK ht (by omega) h) (ρ:=eA l (ts.map zah) true [] none none none none none none none) (S:=[alb (.tup (ts.map zah)) [] [] []])
  ⟨true,[],[],[],[],none,none,none,rfl,rfl,⟨rfl,rfl,fun _=>rfl⟩,⟨fun x d h=>(by cases h),fun x d h=>(by cases h)⟩,yal _,yal _⟩
 rw[zd2]at hI;obtain⟨b,es,ds,dn,un,x4,x5,x6,rfl,rfl,M,V,h1,h2⟩:=hI
 have hd12:ds.length<=12:=by omega
 have hdn:dn.length<=1000:=by omega
 clear h1 h2;have Ve:=V.of M.eq;generalize hA:alb (.tup (ts.map zah)) ds dn un=A at*;have el:=zeZ (S:=[A]) hks Ve M.r (zo3 M (by omega)) hn;rw[hX]at el;have ea:=fun S (h:S[0]?=some A)=>zd1 (S:=S) (m:=0) (ks:=ks) (ds:=ds) (dn:=dn) (un:=un) (by rw[hX,hA];exact h) M.l (by omega) hks V hn
 rw[zmD M]at ea;have er:=zgi (S:=[A]) hks hX hset hn Ve M.r;have fs:=zkL (zmC hks Ve hn M.r);have nt:=zgp (d:=.str (TX.T (zeL ks es))) rfl fs;have qt:=zmf (d:=.str (TX.T (zeL ks es))) rfl fs;have ez:=fun S (h:S[0]?=some A)=>zg6 (S:=S) (m:=0) (T:=.tup (ts.map zah)) (ds:=ds) (dn:=dn) (un:=un) (by rw[hA];exact h)
 have mz:∀S:Sto,S[0]?=some A->zaG "Album" "sizes" (.ref 0) S=true:=fun S h=>zaK (ts:=.tup (ts.map zah)) (ds:=ds) (dn:=dn) (un:=un) (by rw[hA];exact h) (by decide)
 have Ms:=Mp.srt M.r;have Vs:AV (ts.map zah).length (unS (zdI es)):=Ve.of fun x=>(Ms.eq x).symm
 have hB:([A]++[alb (.tup (ts.map zah)) (unS (zdI es)) [] []]:Sto)[1]?=some (alb (.tup (ts.map zah)) (unS (zdI es)) [] []):=rfl
 have hul:(unS (zdI es)).length<=12:=by rw[Ms.len,<-M.len];exact hd12
 have eall:=zpZ hB Ms.l (by omega) Vs.key;have nall:=zt7 Ms Vs;have eso:=zg7 hB;have esz:zaX [.ref 1] ([A]++[alb (.tup (ts.map zah)) (unS (zdI es)) [] []])=.ok (.tup [.int 0,.int 0]) _:=zg6 hB;have ebk:=zh7 hB;have m1:zaG "Album" "set_of" (.ref 1) ([A]++[alb (.tup (ts.map zah)) (unS (zdI es)) [] []]:Sto)=true:=zaK hB (by decide);have m2:zaG "Album" "sizes" (.ref 1) ([A]++[alb (.tup (ts.map zah)) (unS (zdI es)) [] []]:Sto)=true:=zaK hB (by decide);have m3:zaG "Album" "back" (.ref 1) ([A]++[alb (.tup (ts.map zah)) (unS (zdI es)) [] []]:Sto)=true:=zaK hB (by decide);have nts:=zgp (d:=.tup (ts.map zah)) zgU.1 zgU.2
 have nz:neD (.tup [.int 0,.int 0]) (.tup [.int 0,.int 0])=some (.bl false):=by kernel_rfl
 have htl:∀ρ:Env,ρ[10]?=some (some (false,.ref 1))->zdR (zkj zmJ) isL [10] (zaU "Album" "back" zbM (zae 0) []) ρ ([A]++[alb (.tup (ts.map zah)) (unS (zdI es)) [] []])=.ok (.str "nothing") ([A]++[alb (.tup (ts.map zah)) (unS (zdI es)) [] []]):=fun ρ h0=>by
  rw[zuN h0];simp only[zpk,ziL,List.getElem?_cons_zero,zvz,ztf,m3,ycT,zpj,zqM,ebk];show(if zkj zmJ "Nothing" "FloorError"then zmL isL "Nothing" _ else .bad)=_;rw[if_pos zyp,zyq]
 obtain⟨ρ2,S2,e2,hI2⟩:=zhz (tg:=.one 4) (body:=zgL) (ds:=za8 0 3) (Iv2 l (ts.map zah) es A (.str (TX.T (zeL ks es))) (.tup [.int dn.length,.int un.length])) (by
  intro k d ρ S hd h;obtain⟨rfl,hk⟩:=zce hd
  exact zuJ ht hks hX (by omega) h) (ρ:=eA l (ts.map zah) false es x4 x5 x6 (some (false,.str (TX.T (zeL ks es)))) (some (false,.tup [.int dn.length,.int un.length])) (some (false,.dic es)) (some (false,.ref 1))) (S:=[A]++[alb (.tup (ts.map zah)) (unS (zdI es)) [] []])
  ⟨es,_,[],[],x4,x5,x6,rfl,rfl,Ms,Vs,by omega,yal _⟩
 obtain⟨es2,ds2,dn2,un2,y4,y5,y6,rfl,rfl,_⟩:=hI2;refine⟨[A,alb (.tup (ts.map zah)) ds2 dn2 un2],?_⟩;have ea1:=ea [A] rfl;have ea2:=ea [A,alb (.tup (ts.map zah)) ds2 dn2 un2] rfl;have ez1:=ez [A] rfl;have ez2:=ez [A,alb (.tup (ts.map zah)) ds2 dn2 un2] rfl;have mz1:=mz [A] rfl;have mz2:=mz [A,alb (.tup (ts.map zah)) ds2 dn2 un2] rfl;have qz:eqD (.tup [.int dn.length,.int un.length]) (.tup [.int dn.length,.int un.length])=some (.bl true):=zmf rfl (by simp);clear ea ez mz hX hB Ms Vs Ve M V;generalize [A,alb (.tup (ts.map zah)) ds2 dn2 un2]=S2 at*;generalize ([A]++[alb (.tup (ts.map zah)) (unS (zdI es)) [] []]:Sto)=S1 at*;generalize TX.T (zeL ks es)=t at*;generalize D.tup [.int dn.length,.int un.length]=Z at*;generalize hA0:[A]=S0 at*;generalize [alb (.tup (ts.map zah)) [] [] []]=Sa at*
 have hlen:S0.length=1:=by rw[<-hA0];rfl
 rw[hlen]at er;generalize ts.map zah=T at*;unfold eA at e e2
 have hP:-1000000<=P/\P<=1000000:=by omega
 cases b<;>simp[zsd,zan,zq7,zkE,zkD,zkC,zkB,zkA,zkz,zky,zkx,zkw,ziT,et,ei',ep,hP,e,el,ez1,mz1,ea1,nt,er,eall,nall,eso,m1,nts,esz,m2,nz,htl,zvp,e2,ea2,qt,ez2,mz2,qz]
end S2.L93
namespace L2
open PySem PySem.Spec PyProof.Rows
def zty{CX:CXT}{P:Program}{w:World}{K:PySem.W.Frag}{mg:Z6}{base:Heap}{k:Nat}{f a:Addr}{name qual:Str}{params:Arguments}{body:List Stmt}{scope:Scope}{dV kV doc pm cdv ct oc:Value}{an od:Option Addr}
  {osl:Array (Option Value)}{N ps:List Str}{A:Around}{outer:List Env}{s:Shared}{H:Hp}{args:Args}{us:List Value}{vs:List V}{Q:VK}{E:XK}{t:TS} (lk:K.lookup f=some ⟨oc,od,.func (PySem.W.fnOf name qual params body scope dV kV doc pm an cdv ct),osl⟩) (hcd:PySem.W.codeIn K cdv qual=true) (S:FnScope N ps scope)
  (hr:Room (k+1) A) (e0:Env0 P w K mg base A outer s H) (hb:BindsTo s (PySem.W.fnOf name qual params body scope dV kV doc pm an cdv ct) args (ps.zip us)) (r:Vals vs us) (hl:vs.length=ps.length)
  (ht:PSs ((ziu CX P w K mg base N qual scope f cdv A outer s H E).inH a) body t) (hq:t {nx:=fun _ H'=>Q .non H',rt:=Q} (zdE N vs) H):
  codeAny (model P w) (A.mark (some (.ref a))) (.call (.ref f) args) (fun r s'=>∃u,r=.ok (.ret u)/\CE outer P w H s Q u s') s:=by
 have KX:K.In s.heap:=e0.mod.kin.keeps fun b o e=>(e0.bs b o e).1
 have lim:s.heap.NoLimit:=e0.mod.nolimit.keeps fun b o e=>(e0.bs b o e).1
 have hkind:∀y∈ps.zip us,scope.names.lookup y.1=some .local\/(scope.names.lookup y.1=some .cell/\((cellsFrom (s.heap.objs.size+1) scope.names []).lookup y.1).isSome=true):=fun⟨n,v⟩ hy=>by
  rcases S.par n (ya8 hy).1 with q|q
  ·exact .inl q
  ·exact .inr ⟨q,ybz _ _ _ (.inl q)⟩
 refine ycv (A:=A.mark (some (.ref a))) hr.depth (KX _ _ lk) rfl S.co S.gen rfl (ycR KX hcd) (hb _ _ _ _ ?_);refine ybQ S.kind hkind fun env he s1 x=>?_
 subst he;refine⟨lim.keeps x.toInCall.keep,codeAny_func ?_⟩;have I:Inv (ziu CX P w K mg base N qual scope f cdv A outer s H E) [] (zdE N vs) H s1:=zfh S hr.hd e0 hl r x;refine yaV (ht [] s1 (zdE N vs) H _ (I.inH a) hq) (fun fl s' hs=>?_) fun e s' hs=>hs.elim
 have fin:∀{σ':St}{H':Hp}{v:V}{u:Value},Inv ((ziu CX P w K mg base N qual scope f cdv A outer s H E).inH a) [] σ' H' s'->zaV v u->Q v H'->CE outer P w H s Q u s':=
  fun {σ' H' v u} J rv q=>⟨v,H',J.os,J.bare,J.base,J.hok,rv,q⟩
 cases fl with
 |ret u=>
  obtain⟨v,σ',H',J,rv,q⟩:=hs;exact⟨u,rfl,fin J rv q⟩
 |next=>
  obtain⟨σ',H',J,q⟩:=hs;exact⟨.none,rfl,fin (v:=V.non) (u:=Value.none) J rfl q⟩
 |brk=>
  obtain⟨_,_,_,q⟩:=hs;exact False.elim q
 |cont=>
  obtain⟨_,_,_,q⟩:=hs;exact False.elim q
end L2
namespace S2
open PySem PySem.Spec PyProof.Rows L2
def zmu:∀(l:List D) (d r:D),zf3 l d=some r->∃n,r=.int n:=by
 intro l d r h;unfold zf3 at h;split at h
 ·cases h;exact⟨_,rfl⟩
 ·cases h
def zl0:∀(l:List D) (d r:D),zfV l d=some r->∃n,r=.int n:=by
 intro l d r h;unfold zfV at h;split at h
 ·cases h;exact⟨_,rfl⟩
 ·cases h
noncomputable def zdQ:List Str:=["NoFill","NoName","NoPlace","NoText","NoTile","Nothing","Unlike"]
section
variable{Y:Cx}{cl:Cf}{G:Genv}{k:Nat}{E:St->XK}
noncomputable def zks(C:Str)(p q r t:Pos):Expr:=.Call (.Name "isinstance" p) [.Name "_law_kept" q,.Name C r] [] t
structure ClsCx(cl:Cf)(G:Genv)(k:Nat)(Y:Cx):Prop where
 gok:GOk cl G Y.prog Y.w Y.K Y.mg Y.base k
 kk:Y.K=cl.K
 un:Y.A.units+64<cLine
 nn:Y.N=(["_law_kept","_law_kinds"]:List Str)
 l0:Y.env.scope.names.lookup ("_law_kept":Str)=some .local
 l1:Y.env.scope.names.lookup ("_law_kinds":Str)=some .local
 gl:∀x∈(("isinstance":Str)::("ValueError":Str)::zdQ),Gl Y x
 b1:G.blt "isinstance"=true
 b2:G.blt "ValueError"=true
 ex:∀x∈zdQ,G.exc x=true
def ClsCx.bor0(c:ClsCx cl G k Y){p:Pos}:PE Y (.Name "_law_kept" p) (tH cl E (zai 0)):=zkY (by rw[c.nn];rfl) (.inl c.l0) (by decide) (by decide)
def ClsCx.bor1(c:ClsCx cl G k Y){p:Pos}:PE Y (.Name "_law_kinds" p) (tH cl E (zai 1)):=zkY (by rw[c.nn];rfl) (.inl c.l1) (by decide) (by decide)
def ClsCx.cls(c:ClsCx cl G k Y){C:Str}(h:C∈zdQ){p q r t:Pos}:PE Y (zks C p q r t) (tE cl E (eUn (zkp G.isx C) (zai 0))):=by
 have hv:C ≠ "ValueError":=by rintro rfl;revert h;decide
 have hd:(C==("__debug__":Str))=false:=by
  cases e:(C==("__debug__":Str))with
  |false=>rfl|true=>rw[eq_of_beq e]at h;revert h;decide
 exact zoy (vC:=.ref (cl C)) (c.gl _ (.head _)) (c.gok.blt _ c.b1) (zie (c.gl _ (.tail _ (.tail _ h))) (c.gok.exc C (c.ex C h)).1 rfl hd) (fun u r=>by rw[show u=Value.ref (cl C)from r];unfold clsV;rw[if_neg hv]) (fun d b hc=>c.gok.isx d _ b hc) rfl c.bor0
def ClsCx.clsV(c:ClsCx cl G k Y){p q r t:Pos}:PE Y (zks "ValueError" p q r t) (tE cl E (eUn (zkp G.isx "ValueError") (zai 0))):=
 zoy (vC:=.ty "ValueError") (c.gl _ (.head _)) (c.gok.blt _ c.b1) (zlp (c.gl _ (.tail _ (.head _))) (c.gok.blt _ c.b2) zkd rfl (by decide) (by decide)) (fun u r=>by rw[show u=Value.type "ValueError"from r];rfl) (fun d b hc=>c.gok.isx d _ b hc) rfl c.bor0
def ClsCx.cnt(c:ClsCx cl G k Y){p ap cp q:Pos}{kk:Nat}(hl:(ap.endLine==cp.line)=true):PE Y (.Call (.Attribute (.Name "_law_kinds" p) "count" ap) [.Constant (.bool true) kk q] [] cp) (tE cl E (eMt zf3 1 (zad (.bl true)))):=
 zr5 PySem.F.slot_list_count PySem.F.type_list_count (znJ c.kk c.un) zmu (by rw[c.nn];rfl) (.inl c.l1) (by decide) (by decide) (zc4 (zgg zqq fun _=>.bl _)) rfl hl
def ClsCx.idx(c:ClsCx cl G k Y){p ap cp q:Pos}{kk:Nat}(hl:(ap.endLine==cp.line)=true):PE Y (.Call (.Attribute (.Name "_law_kinds" p) "index" ap) [.Constant (.bool true) kk q] [] cp) (tE cl E (eMt zfV 1 (zad (.bl true)))):=
 zr5 PySem.F.slot_list_index PySem.F.type_list_index (znI c.kk c.un) zl0 (by rw[c.nn];rfl) (.inl c.l1) (by decide) (by decide) (zc4 (zgg zqq fun _=>.bl _)) rfl hl
def ClsCx.nd(c:ClsCx cl G k Y):Y.N.Nodup:=by rw[c.nn];decide
def zeA{x:Str}{kk:Nat}{p:Pos}:PE Y (.Constant (.str x) kk p) (tE cl E (zad (.str x))):=zgg zoJ fun _=>.str _
def ClsCx.ok(c:ClsCx cl G k Y){a1 a2 a3 b1 b2 b3 b4 b5 c1 c2 c3 c4 c5 c6 c7 c8 d1 d2 d3 e1 e2 e3 e4 e5 e6 e7 f1 f2 f3 f4 f5 f6 f7 g1 g2 g3 g4 h1 h2 h3 h4 i1 i2 i3 i4 j1 j2 j3 j4 k1 k2 k3 k4 l1 l2 l3 l4 m1 m2 m3 m4 n1 n2 n3 n4:Pos}{x1 x2 x3 x4 y1 y2 y3 y4 y5 y6 y7:Nat}
  (hl1:(c2.endLine==c4.line)=true) (hl2:(f3.endLine==f5.line)=true):
  PSs Y [.Assign [.Name "_law_kinds" a1] (.List [zks "NoFill" g1 g2 g3 g4,zks "NoName" h1 h2 h3 h4,zks "NoPlace" i1 i2 i3 i4,zks "NoText" j1 j2 j3 j4] a2) a3,
   .Assign [.Name "_law_kinds" b1] (.BinOp (.Name "_law_kinds" b2) .Add (.List [zks "NoTile" k1 k2 k3 k4,zks "Nothing" l1 l2 l3 l4,zks "Unlike" m1 m2 m3 m4] b3) b4) b5,
   .If (.BoolOp .Or [.Compare (.Call (.Attribute (.Name "_law_kinds" c1) "count" c2) [.Constant (.bool true) x1 c3] [] c4) [.NotEq] [.Constant (.int 1) x2 c5] c6,.UnaryOp .Not (zks "ValueError" n1 n2 n3 n4) c7] c8) [.Return (some (.Constant (.str "wrong") x3 d1)) d2] [] d3,
   .Return (some (.Subscript (.List [.Constant (.str "no fill") y1 e1,.Constant (.str "no name") y2 e2,.Constant (.str "no place") y3 e3,.Constant (.str "no text") y4 e4,.Constant (.str "no tile") y5 e5,.Constant (.str "nothing") y6 e6,.Constant (.str "unlike") y7 e7] f1) (.Call (.Attribute (.Name "_law_kinds" f2) "index" f3) [.Constant (.bool true) x4 f4] [] f5) f6)) f7]
   (tS cl E false (zfp G.isx)):=by
 have cs:∀{C:Str}{p q r t:Pos}{es:List Expr},starEach (zks C p q r t::es) Y.env=(false,eval (zks C p q r t) Y.env)::starEach es Y.env:=fun {C p q r t es}=>rfl
 have ks:∀{x:Str}{n:Nat}{p:Pos}{es:List Expr},starEach (.Constant (.str x) n p::es) Y.env=(false,eval (.Constant (.str x) n p) Y.env)::starEach es Y.env:=fun {x n p es}=>rfl
 refine zec (zh2 c.nd (by rw[c.nn];rfl) (.inl c.l1) (zi4 (zaR (c.cls (by decide)) (zaR (c.cls (by decide)) (zaR (c.cls (by decide)) (zaR (c.cls (by decide)) zeB cs) cs) cs) cs)) (zdU rfl) (.inr c.l1)) ?_;refine zec (zov c.nd (by rw[c.nn];rfl) (.inl c.l1) (zoz zoP c.bor1 (zc4 (zez (zi4 (zaR (c.cls (by decide)) (zaR (c.cls (by decide)) (zaR (c.cls (by decide)) zeB cs) cs) cs))))) (zdU rfl) (.inr c.l1)) ?_;refine zec (zrQ ?_ (zec (zkM zeA) ziX) ziX) ?_
 ·exact PW.pt (zrL (zou (zsJ c.kk c.un) (zc4 (c.cnt hl1)) (zc4 (zgg zoM fun _=>.int _)) rfl) (zoD (zot (zg0 c.clsV (fun _=>rfl)))))
 ·exact zec (zkM (zr6 (ztv c.kk c.un) (zc4 (zez (zi4 (zaR zeA (zaR zeA (zaR zeA (zaR zeA (zaR zeA (zaR zeA (zaR zeA zeB ks) ks) ks) ks) ks) ks) ks)))) (zc4 (c.idx hl2)) (fun _ _=>rfl))) ziX
end
structure ClsFn(cl:Cf)(G:Genv)(K:PySem.W.Frag)(st:Stmt)(f:Addr)(fd:FuncData):Prop where
 fn:Fun K "_law_class" "_law_class" st f fd
 sc:FnScope ["_law_kept","_law_kinds"] ["_law_kept"] (zam st)
 l0:(zam st).names.lookup ("_law_kept":Str)=some .local
 l1:(zam st).names.lookup ("_law_kinds":Str)=some .local
 gl:∀x∈(("isinstance":Str)::("ValueError":Str)::zdQ),(zam st).names.lookup x=some .globalImplicit
 b1:G.blt "isinstance"=true
 b2:G.blt "ValueError"=true
 ex:∀x∈zdQ,G.exc x=true
 ok:∀(k:Nat) (Y:Cx) (E:St->XK),ClsCx cl G k Y->PSs Y (zaP st) (tS cl E false (zfp G.isx))
 bind:∀us:List Value,us.length=1->bindArgs fd ⟨us,[]⟩=pure ([("_law_kept":Str)].zip us)
def zoC(G:Genv):List D->Sto->Out D:=zbc 2 false (zfp G.isx)
noncomputable def zpw(cl:Cf)(G:Genv)(i:Nat):TE:=fun σ H Q=>∃v,σ[i]?=some (some v)/\zgP cl 1 false (zoC G) [v] H Q fun _ _ _=>False
theorem zkX{X:Cx}{cl:Cf}{G:Genv}{k i:Nat}{n:Str}{a f:Addr}{fd:FuncData}{st:Stmt}{p q pos:Pos}(hr:Room (k+1) X.A)(gok:GOk cl G X.prog X.w X.K X.mg X.base k)(C:ClsFn cl G X.K st f fd)(hkk:X.K=cl.K)(hm:X.mg "_law_class"=some (.ref f))(hk:PySem.W.keepIn X.K (.ref f)=true)(hg:Gl X "_law_class")
  (hN:X.N[i]?=some n) (hv:Vis X.env.scope n) (hd:(n==("__debug__":Str))=false) (hcd:(n==("__classdict__":Str))=false):PE (X.inH a) (.Call (.Name "_law_class" p) [.Name n q] [] pos) (zpw cl G i):=by
 intro pins s σ H Q I h;obtain⟨v,h1,h2⟩:=h;have ha:PA (X.inH a) [.Name n q] _:=zba (za0 (X:=X.inH a) (pos:=q) hN hv hd hcd) zcg rfl;refine ya2 (zda I hg hm ?_ (by decide));refine ybC (h₀:=X.base) I.ok.mod.kin hk (thn (ha pos pins s σ H (fun vs H1=>vs=[v]/\H1=H) I ⟨v,h1,rfl,rfl⟩) fun us s1 ⟨vs,H1,I1,r,e1,e2⟩=>⟨I1.kIn,?_⟩) rfl rfl;subst e1 e2;have okX:X.Ok:=⟨I1.ok.mod,I1.ok.kind,I1.ok.glob,I1.ok.blt,I1.ok.above,I1.ok.inj,I1.ok.has,I1.ok.cab,fun _=>hr.hd,I1.ok.frames,I1.ok.stk,I1.ok.exf,I1.ok.bs,I1.ok.bsz,I1.ok.noex,I1.ok.exfs,I1.ok.funs,I1.ok.frf⟩;have J:=I1.outH okX;obtain⟨oc,od,kV,doc,pm,an,cdv,ct,osl,rfl,lk,hc⟩:=C.fn.ex;have hl:us.length=1:=r.length.symm
 have cx:ClsCx cl G k ((ziu (CXE X.prog X.w) X.prog X.w X.K X.mg X.base ["_law_kept","_law_kinds"] "_law_class" (zam st) f cdv X.A X.stack s1 H1 (fun _ _ _=>False)).inH a):=
  ⟨gok,hkk,(by have:=hr.un;show X.A.units+3+64<cLine;omega),rfl,C.l0,C.l1,fun x hx=>C.gl x hx,C.b1,C.b2,C.ex⟩
 refine ycY (ybu (zty (CX:=CXE X.prog X.w) (E:=fun _ _ _=>False) (a:=a) lk hc C.sc hr J.env0 (.of_eq (C.bind us hl)) r rfl (C.ok k _ (fun _ _ _ _=>False) cx) (ziA (N:=["_law_kept","_law_kinds"]) h2)) fun r s' hq=>?_);obtain⟨u,rfl,ce⟩:=hq;obtain⟨w,H',J',rw',q'⟩:=J.after ce;exact⟨w,H',J'.inH a,rw',q'⟩
end S2
namespace L2
open PySem PySem.Spec PyProof.Rows
def zvP{CX:CXT}{P:Program}{w:World}{K:PySem.W.Frag}{mg:Z6}{base:Heap}{k:Nat}{f:Addr}{name qual:Str}{params:Arguments}{body:List Stmt}{scope:Scope}{dV kV doc pm cdv ct oc:Value}{an od:Option Addr}
  {osl:Array (Option Value)}{N ps:List Str}{A:Around}{outer:List Env}{s:Shared}{H:Hp}{args:Args}{us:List Value}{vs:List V}{Q:VK}{E:XK}{t:TS} (lk:K.lookup f=some ⟨oc,od,.func (PySem.W.fnOf name qual params body scope dV kV doc pm an cdv ct),osl⟩) (hcd:PySem.W.codeIn K cdv qual=true) (S:FnScope N ps scope)
  (hr:Room (k+1) A) (e0:Env0 P w K mg base A outer s H) (hb:BindsTo s (PySem.W.fnOf name qual params body scope dV kV doc pm an cdv ct) args (ps.zip us)) (r:Vals vs us) (hl:vs.length=ps.length)
  (ht:PSs (ziu CX P w K mg base N qual scope f cdv A outer s H E) body t) (hq:t {nx:=fun _ H'=>Q .non H',rt:=Q} (zdE N vs) H):
  codeAny (model P w) A (.call (.ref f) args) (CR CX outer P w H s Q E) s:=by
 have KX:K.In s.heap:=e0.mod.kin.keeps fun b o e=>(e0.bs b o e).1
 have lim:s.heap.NoLimit:=e0.mod.nolimit.keeps fun b o e=>(e0.bs b o e).1
 have hkind:∀y∈ps.zip us,scope.names.lookup y.1=some .local\/(scope.names.lookup y.1=some .cell/\((cellsFrom (s.heap.objs.size+1) scope.names []).lookup y.1).isSome=true):=fun⟨n,v⟩ hy=>by
  rcases S.par n (ya8 hy).1 with q|q
  ·exact .inl q
  ·exact .inr ⟨q,ybz _ _ _ (.inl q)⟩
 refine ycv hr.depth (KX _ _ lk) rfl S.co S.gen rfl (ycR KX hcd) (hb _ _ _ _ ?_);refine ybQ S.kind hkind fun env he s1 x=>?_
 subst he;refine⟨lim.keeps x.toInCall.keep,codeAny_func ?_⟩;have I:Inv (ziu CX P w K mg base N qual scope f cdv A outer s H E) [] (zdE N vs) H s1:=zfh S hr.hd e0 hl r x;refine yaV (ht [] s1 (zdE N vs) H _ I hq) (fun fl s' hs=>?_) fun e s' hs=>hs
 cases fl with
 |ret u=>
  obtain⟨v,σ',H',J,rv,q⟩:=hs;exact⟨v,H',J.os,J.bare,J.base,J.hok,rv,q⟩
 |next=>
  obtain⟨σ',H',J,q⟩:=hs;exact⟨.non,H',J.os,J.bare,J.base,J.hok,rfl,q⟩
 |brk=>
  obtain⟨_,_,_,q⟩:=hs;exact False.elim q
 |cont=>
  obtain⟨_,_,_,q⟩:=hs;exact False.elim q
section
variable{X:Cx}{CX:CXT}{k:Nat}{N:List Str}{qual x:Str}{params:Arguments}{body:Expr}{sc:Scope}{f c:Addr}{clos:List (Str×Addr)}{E:St->XK}{vs:List V}{pm ctv:Value}{of oc:Obj}{uf uc:HO}{te:St->TE}{p pos:Pos}{i:Nat}
noncomputable def zkI(i:Nat)(f:Addr)(vs:List V)(te:St->TE):TE:=fun σ H Q=>σ[i]?=some (some (.ref f))/\te σ (vs.map some) H Q
def znu(S:LamSc N sc)(hr:Room (k+1) X.A)(hN:X.N[i]?=some x)(hv:Vis X.env.scope x)(L:LamAt X.s₀.heap X.H₀ f params qual body sc N vs clos c pm ctv)(hf:X.H₀ f=some (.frz of uf))(hc:X.H₀ c=some (.frz oc uc))(h0:HOk X.prog X.w X.H₀ X.s₀.heap)
  (hx:∀x a,clos.lookup x=some a->a ∉ X.fs/\a ∉ X.ex) (hb:bindArgs (PySem.W.kla_fn "<lambda>" qual params body sc clos pm (.ref c) ctv) ⟨[],[]⟩=pure [])
  (hp:∀(pins:Z3) (σ:St) (H:Hp) (s:Shared) (e:Value) (s':Shared),Inv X pins σ H s->CX X.stack H s (E σ) e s'->X.xe e s')
  (he:∀σ s H,Room k (X.A.deeper (PySem.W.envX qual sc s.heap.objs.size f (.ref c) clos))->PE (zhJ CX X.prog X.w X.K X.mg X.base N qual sc f (.ref c) clos X.A X.stack s H (E σ)) body (te σ))
  (hd:(x==("__debug__":Str))=false) (hcd:(x==("__classdict__":Str))=false):PE X (.Call (.Name x p) [] [] pos) (zkI i f vs te):=by
 intro pins s σ H Q I h;obtain⟨h1,h2⟩:=h;refine ya2 (thn (za0 (pos:=p) hN hv hd hcd pins s σ H (fun v H'=>v=.ref f/\H'=H) I ⟨_,h1,rfl,rfl⟩) fun u s1 ⟨v,H1,I1,r,e1,e2⟩=>?_);subst e1 e2;cases r;have L1:=I1.lamAt L hf hc h0 hx;refine PySem.W.callWith_F0 ⟨_,_,_,_,L1.fn⟩ ?_;refine ycY (ybu (zqE (CX:=CX) (E:=E σ) S hr I1.env0 L1 hb (he σ s1 H1) h2) fun r s' hq=>?_)
 cases r with
 |error e=>exact hp pins σ H1 s1 e s' I1 hq|ok fl=>
  cases fl with
  |ret u=>exact I1.after hq|next=>exact False.elim hq|brk=>exact False.elim hq|cont=>exact False.elim hq
end
def zvi{P:Program}{w:World}{K:PySem.W.Frag}{mg:Z6}{base:Heap}{N:List Str}{qual:Str}{scope:Scope}{f:Addr}{cd:Value}{clos:List (Str×Addr)}{A:Around}{outer:List Env}{s:Shared}{H:Hp}{E:XK}:
  zpd (CXE P w) (zhJ (CXE P w) P w K mg base N qual scope f cd clos A outer s H E) E:=fun pins σ H1 s1 e s' I q=>
 zjk (X:=zhJ (CXE P w) P w K mg base N qual scope f cd clos A outer s H E) I rfl rfl rfl q
def zix{scope:Scope}{env:Env}{cl:List (Str×Addr)}(h:∀y∈scope.names,y.2=.free->∃c,env.cells.lookup y.1=some c)(hc:closureFor scope env=pure cl):∀y c,cl.lookup y=some c->(y,NameKind.free)∈scope.names:=by
 have key:∀(l:List (Str×NameKind)) (cs:List (Str×Addr)),(∀y∈l,y.2=.free->∃c,env.cells.lookup y.1=some c) →
   ∃cl,(forIn l cs fun(x:Str×NameKind) (r:List (Str×Addr))=>(if(x.2==NameKind.free)=true then(do let c ← cellOf env x.1;pure (ForInStep.yield ((x.1,c)::r)))else pure (ForInStep.yield r):Sem (ForInStep (List (Str×Addr)))))=pure cl ∧
    ∀y c,cl.lookup y=some c->(y,NameKind.free)∈l\/∃c',cs.lookup y=some c':=by
  intro l
  induction l with
  |nil=>intro cs _;exact⟨cs,rfl,fun y c e=>.inr ⟨c,e⟩⟩|cons p l ih=>
   intro cs hl;obtain⟨n,k⟩:=p
   by_cases hk:(k==NameKind.free)=true
   ·have ek:k=.free:=eq_of_beq hk;obtain⟨c,ec⟩:=hl (n,k) yam ek;obtain⟨cl,e1,e2⟩:=ih ((n,c)::cs) (fun y hy=>hl y (yak _ hy));refine⟨cl,?_,fun y c' e=>?_⟩
    ·rw[ybG];show((if(k==NameKind.free)=true then _ else _) >>= _)=_;rw[if_pos hk]
     have ecell:cellOf env n=pure c:=by unfold cellOf;rw[ec]
     show(cellOf env n >>= _) >>= _=_;rw[ecell];simpa using e1
    ·rcases e2 y c' e with z|⟨c2,z⟩
     ·exact .inl (yak _ z)
     ·rw[yaB]at z
      cases hq:y==n with
      |true=>rw[eq_of_beq hq,<-ek];exact .inl yam|false=>rw[hq]at z;exact .inr ⟨c2,z⟩
   ·obtain⟨cl,e1,e2⟩:=ih cs (fun y hy=>hl y (yak _ hy));refine⟨cl,?_,fun y c' e=>(e2 y c' e).elim (fun z=>.inl (yak _ z)) .inr⟩;rw[ybG];show((if(k==NameKind.free)=true then _ else _) >>= _)=_;rw[if_neg hk];simpa using e1
 obtain⟨cl',e1,e2⟩:=key scope.names [] h
 have e3:closureFor scope env=pure cl':=by
  unfold closureFor;show((forIn scope.names [] _:Sem (List (Str×Addr))) >>= _)=_;simpa using e1
 have e4:cl=cl':=by
  have:=hc.symm.trans e3;injection this
 subst e4
 exact fun y c e=>(e2 y c e).elim (fun z=>z) fun⟨_,z⟩=>by cases z
end L2
namespace S2
open PySem PySem.Spec PyProof.Rows L2
structure ToldFn(K:PySem.W.Frag)(st:Stmt)(f:Addr)(fd:FuncData):Prop where
 fn:Fun K "_law_told" "_law_told" st f fd
 sc:FnScope ["_law_deed_here","e"] ["_law_deed_here"] (zam st)
 l0:(zam st).names.lookup ("_law_deed_here":Str)=some .local
 l1:(zam st).names.lookup ("e":Str)=some .local
 g1:(zam st).names.lookup ("FloorError":Str)=some .globalImplicit
 g2:(zam st).names.lookup ("_law_class":Str)=some .globalImplicit
 body:∃p1 p2 p3 p4 p5 p6 p7 p8 p9 p10:Pos,zaP st=[.Try [.Return (some (.Call (.Name "_law_deed_here" p1) [] [] p2)) p3] [.ExceptHandler (some (.Name "FloorError" p4)) (some "e") [.Return (some (.Call (.Name "_law_class" p5) [.Name "e" p6] [] p7)) p8] p9] [] [] p10]
 bind:∀us:List Value,us.length=1->bindArgs fd ⟨us,[]⟩=pure ([("_law_deed_here":Str)].zip us)
def zla{G:Genv}{c:Str}{S S':Sto}{d:D}(h:zmL G.isx c S=.ok d S'):zoC G [.exc c] S=.ok d S':=by
 unfold zmL at h;show zbc 2 false (zfp G.isx) [.exc c] S=_;unfold zbc;show(match zfp G.isx [some (false,.exc c),none] S with|.rt d S'=>Out.ok d S'|.nx _ S'=>_|.ex c _ S'=>_|_=>_)=_
 revert h
 cases zfp G.isx [some (false,.exc c),none] S with
 |rt d0 S0=>exact fun h=>h|_=>intro h;cases h
def ziP{H:Hp}{a b:Addr}{x y:HO}(n:a≠b):upd (upd H a x) b y=upd (upd H b y) a x:=by
 funext c
 by_cases h1:c=a
 ·subst h1;rw[zaf n,zaq,zaq]
 ·by_cases h2:c=b
  ·subst h2;rw[zaq,zaf h1,zaq]
  ·rw[zaf h2,zaf h1,zaf h1,zaf h2]
def zke{pos pos':Pos}{c v:Value}(l:List Value)(h:TriplesOk l)(hn:codeAmong pos' (l++[rawInt pos.line,rawInt pos.col,c])=some v):codeAmong pos' l=some v\/v=c:=by
 fun_induction TriplesOk l with
 |case1=>
  simp only[List.nil_append,codeAmong,rawInt]at hn;split at hn
  ·exact .inr (Option.some.inj hn).symm
  ·cases hn
 |case2 a t b u x zbR ih=>
  simp only[List.cons_append,codeAmong]at hn ⊢;split at hn
  ·rename_i hc;rw[if_pos hc];exact .inl hn
  ·rename_i hc;rw[if_neg hc];exact ih h hn
 |case3 l h1 h2=>exact h.elim
section
variable{P:Program}{wo:PySem.World}{K:PySem.W.Frag}{mg:Z6}{base:Heap}{cl:Cf}{G:Genv}{j:Nat}
def zry{st st2:Stmt}{ft fc cd Pt:Addr}{fd fd2:FuncData}{q:Str}{params:Arguments}{body:Expr}{sc:Scope}{lp:Pos}{N:List Str}{fb:Fe}
  (T:ToldFn K st ft fd) (C:ClsFn cl G K st2 fc fd2) (gok:GOk cl G P wo K mg base j) (hkk:K=cl.K)
  (m1:mg "_law_told"=some (.ref ft)) (k1:PySem.W.keepIn K (.ref ft)=true) (m2:mg "_law_class"=some (.ref fc)) (k2:PySem.W.keepIn K (.ref fc)=true) (hfe:G.exc "FloorError"=true)
  (hB:zoo mg base) (hC:PySem.W.CodeHd base cd Pt) (htb:cl.tabs Pt=some (q ++ "<lambda>")) (LS:LamSc N sc) (nd:N.Nodup) (hfr:∀y∈sc.names,y.2=.free->y.1∈N) (hdf:∀env,defaultsOf params env=([],[])) (hbn:∀clos pm c ctv,bindArgs (PySem.W.kla_fn "<lambda>" (q ++ "<lambda>") params body sc clos pm (.ref c) ctv) ⟨[],[]⟩=pure [])
  (hE:∀(f c:Addr) (clos:List (Str×Addr)) (A:Around) (outer:List PySem.Env) (s:Shared) (H:Hp) (E':XK),Room j (A.deeper (PySem.W.envX (q ++ "<lambda>") sc s.heap.objs.size f (.ref c) clos))->PE (zhJ (CXE P wo) P wo K mg base N (q ++ "<lambda>") sc f (.ref c) clos A outer s H E') body (tE cl (fun _=>E') fb)):
  zua cl G.und G.isx P wo K mg base (j+2) (some (cd,q)) (.Lambda params body sc lp) N fb:=by
 intro X E caps p pos eP eW eK eM eB hr hcalm hg hcod hcaps;subst eP eW eK eM eB;obtain⟨hcd,hq⟩:=hcod _ rfl;dsimp only at hcd hq;intro pins s σ H Q I h;obtain⟨B,w,ρ,S,rfl,R,h⟩:=h;unfold zdR at h
 cases hds:zhL ρ caps with
 |none=>rw[hds]at h;exact h.elim|some ds=>
 rw[hds]at h;dsimp only at h;obtain⟨vs,hvl,hvs,sh⟩:=zjB R hds
 obtain⟨clos,hclos,hcl1,hcl2⟩:=zf4 (scope:=sc) (env:=X.env) fun y hy hf=>by
  obtain⟨i,hi⟩:=ycD.mp (hfr y hy hf)
  have hlt:i<caps.length:=by rw[hcaps.len];exact(yan.mp hi).1
  exact I.ok.has y.1 (.inl (hcaps.at' i y.1 _ hi (yad hlt)).2.1)
 have hlam:=zsv (X:=X) (params:=params) (body:=body) (sc:=sc) (pos:=lp) hcd hC hB hclos (hdf _);rw[hq]at hlam;have ha:PA X [.Lambda params body sc lp] _:=zba hlam zcg rfl;refine ya2 (zda I hg m1 ?_ (by decide))
 refine ybC (h₀:=X.base) I.ok.mod.kin k1 (thn (ha pos pins s σ w.H (fun xs H1=>∃f c oc ctv w1,xs=[.ref f]/\w1.H=H1/\Rel cl B σ w1 ρ S/\Fut w w1 ∧
   w1.H f=some (.frz (PySem.W.kla_obj "<lambda>" (q ++ "<lambda>") params body sc clos ((X.mg "__name__").getD .none) c ctv) (.own f))/\w1.H c=some (.frz oc (.own c))/\zjF (q ++ "<lambda>") oc) I ?rd) fun us s1 ⟨xs,H1,I1,r1,q1⟩=>⟨I1.kIn,?go⟩) rfl rfl
 case rd=>
  obtain⟨ps,t1,t2,t3⟩:=R.wd.tab Pt _ htb;refine⟨ps,t1,t3.1,fun hca f c oc ctv hf hc hfc hco=>?_,fun cv hca=>?_⟩
  ·have g1:=zaB (w:=w) hc (.frz oc (.own c))
   have hf':(w.add c (.frz oc (.own c))).H f=none:=by show upd w.H c _ f=none;rw[zaf hfc];exact hf
   have g2:=zaB (w:=w.add c (.frz oc (.own c))) hf' (.frz (PySem.W.kla_obj "<lambda>" (q ++ "<lambda>") params body sc clos ((X.mg "__name__").getD .none) c ctv) (.own f));have R2:=(R.grow g1).grow g2
   have pc:c≠Pt:=fun z=>by rw[z,t1]at hc;cases hc
   have pf:f≠Pt:=fun z=>by rw[z,t1]at hf;cases hf
   have a1:=g1.keep Pt _ t1;have a2:=g2.keep Pt _ a1.1;have c1:(w.add c (.frz oc (.own c))).H c=some (.frz oc (.own c)):=zkf;have c2:=g2.keep c _ c1
   obtain⟨R3,F3⟩:=R2.tabUp (ps':=ps++#[rawInt lp.line,rawInt lp.col,.ref c]) a2.1 (a2.2.trans (a1.2.trans t2)) fun q' hq'=>by
    have eq':q'=q ++ "<lambda>":=by rw[htb]at hq';exact(Option.some.inj hq').symm
    subst eq';have t4:=(t3.up g1.fut).up g2.fut;refine⟨by rw[Array.toList_append];exact TriplesOk_snoc _ _ _ _ t3.1,fun pos' cv e=>?_⟩;rw[Array.toList_append]at e
    rcases zke _ t3.1 e with z|z
    ·exact t4.2 pos' cv z
    ·exact⟨c,oc,z,⟨c2.1,c2.2.trans zhW⟩,hco⟩
   refine⟨f,c,oc,ctv,_,rfl,?_,R3,g1.fut.trans (g2.fut.trans F3),?_,?_,hco⟩
   ·show upd (upd (upd w.H c _) f _) Pt _=_;rw[ziP pf,ziP pc]
   ·show upd (upd (upd w.H c _) f _) Pt _ f=_;rw[zaf pf,zaq]
   ·show upd (upd (upd w.H c _) f _) Pt _ c=_;rw[zaf pc,zaf (fun z=>hfc z.symm),zaq]
  ·obtain⟨c,oc,rfl,hcw,hco⟩:=t3.2 lp cv hca;refine⟨c,oc,rfl,hcw.1,hco,fun f ctv hf=>?_⟩;have g1:=zaB (w:=w) hf (.frz (PySem.W.kla_obj "<lambda>" (q ++ "<lambda>") params body sc clos ((X.mg "__name__").getD .none) c ctv) (.own f));exact⟨f,c,oc,ctv,w.add f _,rfl,rfl,R.grow g1,g1.fut,zkf,(g1.keep c _ hcw.1).1,hco⟩
 case go=>
  obtain⟨f,c,oc,ctv,w1,rfl,rfl,R1,F1,hf1,hc1,⟨us1,tt,hd1,hv1⟩⟩:=q1
  have hmem:=zix (scope:=sc) (env:=X.env) (cl:=clos) (fun y hy hf=>by
   obtain⟨i,hi⟩:=ycD.mp (hfr y hy hf)
   have hlt:i<caps.length:=by rw[hcaps.len];exact(yan.mp hi).1
   exact I.ok.has y.1 (.inl (hcaps.at' i y.1 _ hi (yad hlt)).2.1)) hclos
  have L:LamAt s1.heap w1.H f params (q ++ "<lambda>") body sc N vs clos c ((X.mg "__name__").getD .none) ctv:={
   fn:=(I1.hok f _ hf1).1
   code:=⟨c,oc,us1,tt,rfl,(I1.hok c _ hc1).1,hd1,hv1⟩
   inj:=fun x y a h1 h2=>I1.ok.inj x y a (hcl1 x a h1) (hcl1 y a h2)
   has:=fun x hx=>hcl2 x (yaA hx)
   cell:=fun x a e=>⟨I1.freeC x a (hcl1 x a e),I1.cell x a (hcl1 x a e)⟩
   val:=fun i x v h1 h2=>by
    have hlt:i<caps.length:=by rw[hcaps.len];exact(yan.mp h1).1
    obtain⟨b1,b2,_⟩:=hcaps.at' i x _ h1 (yad hlt);obtain⟨m,hn,hl⟩:=I1.loc;obtain⟨u,rv,lk⟩:=hl _ x v b1 (hvs i _ v (yad hlt) h2) (.inr (.inl b2));obtain⟨a,ea⟩:=hcl2 x (yaA (LS.free x (yaY h1)))
    rcases lk with⟨kl,_⟩|⟨_,a',ec,ic⟩
    ·have kl':X.env.scope.names.lookup x=some .local:=kl;rw[b2]at kl';cases kl'
    ·have:=(hcl1 x a ea).symm.trans ec;cases this;exact⟨u,a,rv,ea,ic⟩
   len:=hvl.trans hcaps.len}
  have hx:∀x a,clos.lookup x=some a->a ∉ frs X.stack/\a ∉ ([]:List Addr):=fun x a e=>⟨fun hb=>by
   rcases yat.mp (I1.stkSub a hb)with z|z
   ·exact I1.cne x a (hcl1 x a e) z
   ·obtain⟨i,hi⟩:=ycD.mp (hfr (x,.free) (hmem x a e) rfl)
    have hlt:i<caps.length:=by rw[hcaps.len];exact(yan.mp hi).1
    have hge:=I1.ok.cab x a (hcaps.at' i x _ hi (yad hlt)).2.2 (hcl1 x a e);obtain⟨_,o,ho,_⟩:=I1.ok.funs.mem z
    exact absurd (yai (yao ho) hge) (yaR _),by simp⟩
  obtain⟨oc',od,kV,doc,pm',an,cdv,ct,osl,rfl,lk,hc'⟩:=T.fn.ex;obtain⟨p1,p2,p3,p4,p5,p6,p7,p8,p9,p10,hbody⟩:=T.body
  cases r1 with
  |cons r1 r2=>
  cases r2;cases r1;have hr1:Room (j+1) (X.A.deeper (envOfC "_law_told" (zam st) s1.heap.objs.size ft cdv)):=hr.deeper _;refine ycY (ybu (zvP (CX:=CXE X.prog X.w) (E:=fun _ _ _=>False) (k:=j+1) (Q:=Q) (vs:=[.ref f]) (t:=fun De σ H=>zrA (zkI 0 f vs fun σ'=>tE cl (fun _=>zuL X.K (cl "FloorError") 1 (zrA (zpw cl G 1)) De σ') fb) De σ H) lk hc' T.sc hr I1.env0 (.of_eq (T.bind _ rfl)) (.cons rfl .nil) rfl ?bd ?rd2) fun r s' hq=>?_)
  case bd=>
   rw[hbody];refine zic (zqb (tb:=fun E'=>zrA (zkI 0 f vs fun σ'=>tE cl (fun _=>E' σ') fb)) (th:=zrA (zpw cl G 1)) rfl rfl T.sc.nd rfl T.l1 T.g1 (gok.exc _ hfe).1 (gok.exc _ hfe).2 (by decide) (fun pins' E'=>?_) (fun a=>?_) (by decide))
   ·exact zic (zhh (znu (CX:=CXE X.prog X.w) (E:=E') (k:=j) (te:=fun σ'=>tE cl (fun _=>E' σ') fb) LS hr1 rfl (.inl T.l0) L hf1 hc1 I1.hok hx (hbn _ _ _ _) (fun pins'' σ' H' s'' e s3 J qq=>⟨σ',H',s'',zdb J,qq⟩) (fun σ' s'' H' hr'=>hE f c clos _ _ s'' H' (E' σ') hr') (by decide) (by decide)))
   ·exact zic (zhh (zkX (k:=j) hr1 gok C hkk m2 k2 T.g2 rfl (.inl T.l1) (by decide) (by decide)))
  case rd2=>
   refine⟨rfl,w1.base,w1.inn,ds.map (fun d=>some (false,d)),S,rfl,⟨R1.wd.enter,?_,fun i o d hi=>?_⟩,?_⟩
   ·rw[yab,yab];exact sh.length
   ·rw[yau]at hi
    cases hdi:ds[i]? with
    |none=>rw[hdi]at hi;cases hi|some d'=>
     rw[hdi]at hi;cases hi;obtain⟨v,e1,e2⟩:=((sh.up F1).up (zbT w1)).at hdi;exact⟨v,by rw[yau,e1];rfl,e2⟩
   ·cases hfb:fb (ds.map fun d=>some (false,d)) S with
    |bad=>rw[hfb]at h;exact h.elim|ok d S'=>
     rw[hfb]at h;intro v w' R' F' s';obtain⟨Rb,Fb⟩:=R1.leave R'.wd F';exact h v (w1.back w') Rb (F1.trans Fb) (s'.up (zct R'.wd))
    |exc c0 S'=>
     rw[hfb]at h;dsimp only at h
     cases hu:G.und c0 "FloorError"with
     |false=>rw[hu]at h;exact h.elim|true=>
      rw[hu,if_pos rfl]at h;intro w' R' F';refine⟨cl c0,rfl,gok.und _ _ hu,fun a ob ha hob=>?_⟩;have g:=zaB (w:=w') ha (.frz ob (.own a));refine⟨.ref a,rfl,rfl,w1.base,w'.add a (.frz ob (.own a)),[.exc c0],S',rfl,R'.wd.grow g,.cons (.exc zkf zhW hob) .nil,?_⟩
      cases hcr:zmL G.isx c0 S' with
      |bad=>rw[hcr]at h;exact h.elim|exc c2 S2=>
       unfold zmL at hcr
       split at hcr<;>cases hcr
      |ok d S2=>
       rw[hcr]at h;rw[zla hcr];intro v w'' W'' F'' rv;obtain⟨Rb,Fb⟩:=R1.leave W'' ((F'.trans g.fut).trans F'');exact h v (w1.back w'') Rb (F1.trans Fb) (Shd.up (zct W'') rv)
  ·cases r with
   |error e=>obtain⟨_,_,_,_,_,_,_,_,_,_,_,_,_,_,z⟩:=hq;exact z.elim|ok fl=>
    cases fl with
    |ret u=>exact I1.after hq|next=>exact False.elim hq|brk=>exact False.elim hq|cont=>exact False.elim hq
end
def zhy(sc:Scope):List Str:=(sc.names.filter fun y=>y.2==.free).map (·.1)
noncomputable def zsR:Arguments:={posonlyargs:=[],args:=[],vararg:=none,kwonlyargs:=[],kw_defaults:=[],kwarg:=none,defaults:=[]}
noncomputable def zqV(p:Arguments):Bool:=p.1.isEmpty&&p.2.isEmpty&&p.3.isNone&&p.4.isEmpty&&p.5.isEmpty&&p.6.isNone&&p.7.isEmpty
def znU{p:Arguments}(h:zqV p=true):p=zsR:=by
 obtain⟨a,b,c,d,e,f,g⟩:=p;simp only[zqV,yaa,List.isEmpty_iff,Option.isNone_iff_eq_none]at h;obtain⟨⟨⟨⟨⟨⟨rfl,rfl⟩,rfl⟩,rfl⟩,rfl⟩,rfl⟩,rfl⟩:=h;rfl
def zs6(sc:Scope):Bool:=decide (sc.kind=.function)&&!sc.isCoroutine&&!sc.isGenerator&&sc.names.all (fun y=>!(y.2==.cell))&&(zhy sc).all (fun x=>decide (sc.names.lookup x=some .free))&&decide (zhy sc).Nodup
def zqF(G:Genv):Expr->Option (List Str×Fe)
 |.Lambda params body sc _=>if zqV params&&zs6 sc then(zvX G 40 sc.names (zhy sc) body).map fun p=>(zhy sc,p.f)else none
 |_=>none
noncomputable def Genv.withLam(G:Genv)(cd:Addr)(q:Str):Genv:={G with lam:=zqF G,cod:=some (cd,q)}
theorem GOk.lamUp{P:Program}{wo:PySem.World}{K:PySem.W.Frag}{mg:Z6}{base:Heap}{cl:Cf}{G:Genv}{j:Nat}{st st2:Stmt}{ft fc cd Pt:Addr}{fd fd2:FuncData}{q:Str}
  (gok:GOk cl G P wo K mg base j) (hc0:G.cod=none) (T:ToldFn K st ft fd) (C:ClsFn cl G K st2 fc fd2) (hkk:K=cl.K) (hP:P=cl.P) (hW:wo=cl.wo)
  (m1:mg "_law_told"=some (.ref ft)) (k1:PySem.W.keepIn K (.ref ft)=true) (m2:mg "_law_class"=some (.ref fc)) (k2:PySem.W.keepIn K (.ref fc)=true) (hfe:G.exc "FloorError"=true)
  (hB:zoo mg base) (hC:PySem.W.CodeHd base cd Pt) (htb:cl.tabs Pt=some (q ++ "<lambda>")):GOk cl (G.withLam cd q) P wo K mg base (j+2)where
 con:=gok.con
 fn:=fun y fj h=>by
  obtain⟨f',fd',ps',h1,h2,h3,h4⟩:=gok.fn y fj h;exact⟨f',fd',ps',h1,h2,h3,h4.mono (by omega)⟩
 blt:=gok.blt
 exc:=gok.exc
 und:=gok.und
 isx:=gok.isx
 fk:=gok.fk
 mt:=fun m c fi h=>by
  obtain⟨f',fd',ps',h1,h2,h3,h4⟩:=gok.mt m c fi h;exact⟨f',fd',ps',h1,h2,h3,h4.mono (by omega)⟩
 mks:=fun c dds fi h=>by
  obtain⟨f',fd',ps',dvs,ds,i,hi,z⟩:=gok.mks c dds fi h;exact⟨f',fd',ps',dvs,ds,i,by omega,z⟩
 tl:=fun e N fb h=>by
  have h':zqF G e=some (N,fb):=h;unfold zqF at h';split at h'
  ·rename_i params body sc lp;split at h'
   ·rename_i hok;rw[yaa]at hok;obtain⟨a,_,h2⟩:=yaD.mp h';cases h2;have ep:=znU hok.1;subst ep;have hs:=hok.2;unfold zs6 at hs;simp only[yaa,yaT,yaG,ybx]at hs;obtain⟨⟨⟨⟨⟨s1,s2⟩,s3⟩,s4⟩,s5⟩,s6⟩:=hs
    have nc:∀y∈sc.names,y.2≠.cell:=fun y hy z=>by have:=s4 y hy;rw[z]at this;cases this
    have LS:LamSc (zhy sc) sc:=⟨s1,s2,s3,nc,s5⟩;refine zry (G:=G) T C gok hkk m1 k1 m2 k2 hfe hB hC htb LS s6 (fun y hy hf=>?_) (fun _=>rfl) (fun _ _ _ _=>rfl) (fun f' c' clos A outer s H E' hr=>?_)
    ·unfold zhy;exact yag.mpr ⟨y,ycI.mpr ⟨hy,by rw[hf];rfl⟩,rfl⟩
    ·have g:Gx cl G j (zhJ (CXE P wo) P wo K mg base (zhy sc) (q ++ "<lambda>") sc f' (.ref c') clos A outer s H E') sc.names (zhy sc) (fun _=>E'):=
      ⟨gok,hr,rfl,fun pins σ H1 s1 e s' I qq=>zvi pins σ H1 s1 e s' I qq,rfl,hkk,hP,hW,s6,fun x kd h=>⟨kd,h,.inl rfl⟩,fun x h=>h,(fun c h=>by rw[hc0]at h;cases h),fun x h=>absurd rfl (nc _ (yaA h))⟩
     exact(a.ok g).2.1
   ·cases h'
  ·cases h'
def zo0{P:Program}{wo:PySem.World}{K:PySem.W.Frag}{mg:Z6}{base:Heap}{cl:Cf}{G:Genv}{k:Nat}{x qual:Str}{st:Stmt}{f cd:Addr}{N ps:List Str}{own:Bool}{fs:Fs}{oc kV doc pm ct:Value}{od an:Option Addr}{osl:Array (Option Value)}
  (lk:K.lookup f=some ⟨oc,od,.func (PySem.W.fnOf x qual (zbb st) (zaP st) (zam st) .none kV doc pm an (.ref cd) ct),osl⟩) (hcd:PySem.W.codeIn K (.ref cd) qual=true) (S:FnScope N ps (zam st)) (hG:GOk cl (G.withLam cd (qual ++ ".<locals>.")) P wo K mg base k)
  (hk:K=cl.K) (hP:P=cl.P) (hW:wo=cl.wo) (hd:zf2 (G.withLam cd (qual ++ ".<locals>.")) own N st=some fs):FnOk P wo K mg base (CXE P wo) (k+1) f (PySem.W.fnOf x qual (zbb st) (zaP st) (zam st) .none kV doc pm an (.ref cd) ct) ps (zgP cl ps.length own (zbc N.length own fs)):=by
 refine ztx lk hcd S (fun vs H Q E h=>h.1) fun A outer s H vs Q E hr hsp=>⟨tS cl (fun _=>E) own fs,zo7 hd (k:=k) ⟨⟨hG,hr,rfl,fun pins σ H1 s1 e s' I q=>zsy pins σ H1 s1 e s' I q,rfl,hk,hP,hW,S.nd,fun x kd h=>⟨kd,h,.inl rfl⟩,(fun x h=>h),(fun c h=>by cases h;exact⟨rfl,rfl⟩),(fun x h=>rfl)⟩,S.kind,rfl,PassesOwn.leaving,fun C pins σ H1 s1 e h' vs I mk q=>zlf C pins σ H1 s1 e h' vs I mk q⟩,ziA hsp⟩
structure XA(K:PySem.W.Frag)(x:Str)(e:Addr):Prop where
 n:PySem.W.nsIn K mainGlobals x=some (some (.ref e))
 x:PySem.W.excIn K e bmV "ValueError.__new__"=true
def scB(n:Nat)(N:List Str)(sc:Scope):Bool:=(match sc.kind with|.function=>true|_=>false)&&!sc.isCoroutine&&!sc.isGenerator&&decide N.Nodup&&decide ((N.take n).length=n)&&decide (∀x∈N.take n,sc.names.lookup x=some .local\/sc.names.lookup x=some .cell)&&decide (∀y∈sc.names,y.2≠.free)
def zeW{n:Nat}{N:List Str}{sc:Scope}(h:scB n N sc=true):FnScope N (N.take n) sc/\(N.take n).length=n:=by
 unfold scB at h;simp only[yaa,yaT,yaG]at h;obtain⟨⟨⟨⟨⟨⟨h1,h2⟩,h3⟩,h4⟩,h5⟩,h6⟩,h7⟩:=h;exact⟨⟨by split at h1;(· assumption);(· cases h1),h2,h3,h4,by rw[h5],h6,h7⟩,h5⟩
section
variable{cl:Cf}{T:Tab}{mg:Z6}{base h:Heap}{k:Nat}{F:Fn3}{f:Fs}{x:Str}{st:Stmt}
def ag(g:GOk cl (Gn T F) cl.P cl.wo cl.K mg base k)(X:cl.K.In h)(G:h.Ns mainGlobals mg)(p:GFn cl.K x st)(n:Nat)(N:List Str)(own:Bool)(r:Rn)(f:Fs)(b:BB x x st (N.take n))(s:scB n N (zam st)=true)(e:r=zbc N.length own f)(d:zf2 (Gn T F) own N st=some f):GOk cl (Gn T (F.fn x ⟨n,own,r⟩)) cl.P cl.wo cl.K mg base (k+1):=by
 obtain⟨S,l⟩:=zeW s;obtain⟨f',a,p⟩:=p.ex;obtain⟨fd,U,B,kp,_⟩:=p.un b;have z:=zq2 U S g rfl rfl rfl d;rw[l,<-e]at z;exact GOk.add g (yaI X G a) kp B z
def am{c q:Str}(g:GOk cl (Gn T F) cl.P cl.wo cl.K mg base k)(cc:Cls cl.K (cl c))(p:MFn cl.K (cl c) x q st)(n:Nat)(N:List Str)(own:Bool)(r:Rn)(f:Fs)(b:BB x q st (N.take n))(s:scB n N (zam st)=true)(e:r=zbc N.length own f)(d:zf2 (Gn T (F.at c)) own N st=some f):GOk cl (Gn T (F.mt x c ⟨n,own,r⟩)) cl.P cl.wo cl.K mg base (k+1):=by
 obtain⟨S,l⟩:=zeW s;obtain⟨f',a,p⟩:=p.ex;obtain⟨fd,U,B,kp,i⟩:=p.un b;have z:=zq2 U S (g.at c) rfl rfl rfl d;rw[l,<-e]at z;exact GOk.addM (g.up (ya6 _)) cc ⟨a,i,kp⟩ B z
def ak{c q:Str}(g:GOk cl (Gn T F) cl.P cl.wo cl.K mg base k)(X:cl.K.In h)(G:h.Ns mainGlobals mg)(ny:PySem.W.nsIn cl.K mainGlobals c=some (some (.ref (cl c))))(mk:PySem.W.makesIn cl.K (cl c)=true)(kpc:PySem.W.keepIn cl.K (.ref (cl c))=true)(p:MFn cl.K (cl c) "__init__" q st)(n:Nat)(N:List Str)(r:Rn)(f:Fs)(b:BB "__init__" q st (N.take n))(s:scB n N (zam st)=true)(e:r=zbc N.length false f)(d:zf2 (Gn T (F.at c)) false N st=some f):GOk cl (Gn T (F.cls c [] ⟨n,false,r⟩)) cl.P cl.wo cl.K mg base (k+2):=by
 obtain⟨S,l⟩:=zeW s;obtain⟨f',a,p⟩:=p.ex;obtain⟨fd,U,B,kp,i⟩:=p.un b;have z:=zq2 U S (g.at c) rfl rfl rfl d;rw[l,<-e]at z;exact GOk.addK (k':=k+1) (dvs:=[]) (g.up (Nat.le_add_right k 2)) (yal _) (yaI X G ny) ⟨mk,a,i,kpc⟩ B B .nil (fun _=>.nil) z
end
end S2
namespace M93
open PySem L2 S2 S2.L93
noncomputable def top(i:Nat):Stmt:=PySem.Challenge.pw_floorfits_k93_whole_album_texts.main.body.getD i (.Pass ⟨0,0,0,0⟩)
noncomputable def T:Tab:=⟨[("MOST_COLOUR",.int 8),("MOST_TILES",.int 16),("MOST_SIDE",.int 6),("FIGURES",.str "012345678"),("BARE",.str "-"),("UNREAD",.str "?"),("MOST_LETTERS",.int 6)],["isinstance","int","bool","tuple","str","len","range","all","zip","sorted","set","dict","ValueError"],["FloorError","NoPlace","NoTile","NoFill","Unlike","Nothing","NoText","NoName"],[("NoText","FloorError"),("Unlike","FloorError"),("NoName","FloorError"),("Nothing","FloorError")],["NoText","Unlike","NoName","Nothing"],[("Album","tiles"),("Album","named"),("Album","done"),("Album","undone")],["named"],["known","named"]⟩
noncomputable def F0:Fn3:=⟨"Album",[],[],[]⟩
theorem sT:FnScope ["_law_deed_here","e"] ["_law_deed_here"] (zam (top 57)):=(zeW (n:=1) (by kernel_rfl)).1
theorem sC:FnScope ["_law_kept","_law_kinds"] ["_law_kept"] (zam (top 56)):=(zeW (n:=1) (by kernel_rfl)).1
theorem gC:∀x∈((("isinstance":Str)::("ValueError":Str)::zdQ)),(zam (top 56)).names.lookup x=some .globalImplicit:=by decide +kernel
theorem xC:∀x∈zdQ,(Gn T F0).exc x=true:=by decide +kernel
def tF{K:PySem.W.Frag}{f:Addr}{oc kV dc pm cd ct:Value}{od an:Option Addr}{sl:Array (Option Value)}(l:K.lookup f=some ⟨oc,od,.func (PySem.W.fnOf "_law_told" "_law_told" (zbb (top 57)) (zaP (top 57)) (zam (top 57)) .none kV dc pm an cd ct),sl⟩)(c:PySem.W.codeIn K cd "_law_told"=true)(k:PySem.W.keepIn K (.ref f)=true):ToldFn K (top 57) f (PySem.W.fnOf "_law_told" "_law_told" (zbb (top 57)) (zaP (top 57)) (zam (top 57)) .none kV dc pm an cd ct):=
 ⟨zju (st:=top 57) l c k,sT,by rfl,by rfl,by rfl,by rfl,⟨_,_,_,_,_,_,_,_,_,_,rfl⟩,fun us hl=>match us,hl with|[_],_=>rfl⟩
def cF{F:Fn3}{cl:Cf}{K:PySem.W.Frag}{f:Addr}{oc kV dc pm cd ct:Value}{od an:Option Addr}{sl:Array (Option Value)}(l:K.lookup f=some ⟨oc,od,.func (PySem.W.fnOf "_law_class" "_law_class" (zbb (top 56)) (zaP (top 56)) (zam (top 56)) .none kV dc pm an cd ct),sl⟩)(c:PySem.W.codeIn K cd "_law_class"=true)(k:PySem.W.keepIn K (.ref f)=true):ClsFn cl (Gn T F) K (top 56) f (PySem.W.fnOf "_law_class" "_law_class" (zbb (top 56)) (zaP (top 56)) (zam (top 56)) .none kV dc pm an cd ct):=
 ⟨zju (st:=top 56) l c k,sC,by rfl,by rfl,gC,by rfl,by rfl,xC,fun k Y E c=>c.ok (by rfl) (by rfl),fun us hl=>match us,hl with|[_],_=>rfl⟩
def zpc{L M:List (Str×Addr)}:∀{C:Str},C∈L.map (·.1)->(L++M).lookup C=L.lookup C:=by
 induction L with
 |nil=>intro C h;simp at h|cons p L ih=>
  intro C h;rw[List.cons_append,yaB,yaB]
  cases e:C==p.1 with
  |true=>rfl|false=>
   have:C∈L.map (·.1):=by
    rw[yaw,yat]at h
    rcases h with h|h
    ·rw[h]at e;simp at e
    ·exact h
   exact ih this
def zrj{L M:List (Str×Addr)}(nd:(L.map (·.2)).Nodup){C c:Str}(hC:C∈L.map (·.1))(hc:c∈L.map (·.1)):((L++M).lookup C).getD 0=((L++M).lookup c).getD 0↔C=c:=by
 rw[zpc hC,zpc hc];exact zt9 nd hC hc
def gm{K:PySem.W.Frag}{x:Str}{st:Stmt}{f:Addr}{oc kV dc pm cd ct:Value}{od an:Option Addr}{sl:Array (Option Value)}(a:PySem.W.nsIn K mainGlobals x=some (some (.ref f)))(l:K.lookup f=some ⟨oc,od,.func (PySem.W.fnOf x x (zbb st) (zaP st) (zam st) .none kV dc pm an cd ct),sl⟩)(c:PySem.W.codeIn K cd x=true)(k:PySem.W.keepIn K (.ref f)=true)(i:PySem.W.isFn K (.ref f)=true):GFn K x st:=⟨f,a,oc,od,kV,dc,pm,an,cd,ct,sl,l,c,k,i⟩
def mm{K:PySem.W.Frag}{x q:Str}{st:Stmt}{f:Addr}{oc kV dc pm cd ct:Value}{od an:Option Addr}{sl:Array (Option Value)}{C:Addr}(a:PySem.W.findIn K (.ref C) x=some (some (.ref f)))(l:K.lookup f=some ⟨oc,od,.func (PySem.W.fnOf x q (zbb st) (zaP st) (zam st) .none kV dc pm an cd ct),sl⟩)(c:PySem.W.codeIn K cd q=true)(k:PySem.W.keepIn K (.ref f)=true)(i:PySem.W.isFn K (.ref f)=true):MFn K C x q st:=⟨f,a,oc,od,kV,dc,pm,an,cd,ct,sl,l,c,k,i⟩
def all_mk{l:PySem.W.OpenLaw}{w:PySem.World}{K:PySem.W.Frag}{h:Heap}{mg:Z6}{fa f47 f50 cdA0 Pt0 cdA1 Pt1:Addr}(X:K.In h)(G:h.Ns mainGlobals mg)(hfa:mg "law"=some (.ref fa))
  {od47 an47:Option Addr}{sl47:Array (Option Value)}{oc47 kV47 dc47 pm47 ct47:Value}
  {od50 an50:Option Addr}{sl50:Array (Option Value)}{oc50 kV50 dc50 pm50 ct50:Value}
  {yAlbum:Addr}
  (nyAlbum:PySem.W.nsIn K mainGlobals "Album"=some (some (.ref yAlbum))) (pgAlbum:PySem.W.plainGet K yAlbum Str.empty=true) (hdAlbum:PySem.W.hasDictIn K yAlbum=true) (poAlbum:PySem.W.plainOver K yAlbum=true) (saAlbum:PySem.W.findIn K (.ref yAlbum) "__setattr__"=some (some (.builtin "object.__setattr__"))) (mkAlbum:PySem.W.makesIn K yAlbum=true) (kpAlbum:PySem.W.keepIn K (.ref yAlbum)=true)
  (naAlbumtiles:PySem.W.findIn K (.ref yAlbum) "tiles"=some none)
  (naAlbumnamed:PySem.W.findIn K (.ref yAlbum) "named"=some none)
  (naAlbumdone:PySem.W.findIn K (.ref yAlbum) "done"=some none)
  (naAlbumundone:PySem.W.findIn K (.ref yAlbum) "undone"=some none)
  (a47:PySem.W.nsIn K mainGlobals "_law_did"=some (some (.ref f47)))
  (l47:K.lookup f47=some ⟨oc47,od47,.func (PySem.W.fnOf "_law_did" "_law_did" (zbb (top 60)) (zaP (top 60)) (zam (top 60)) .none kV47 dc47 pm47 an47 (.ref cdA0) ct47),sl47⟩) (c47:PySem.W.codeIn K (.ref cdA0) "_law_did"=true) (k47:PySem.W.keepIn K (.ref f47)=true)
  (a50:PySem.W.nsIn K mainGlobals "law"=some (some (.ref f50)))
  (l50:K.lookup f50=some ⟨oc50,od50,.func (PySem.W.fnOf "law" "law" (zbb (top 63)) (zaP (top 63)) (zam (top 63)) .none kV50 dc50 pm50 an50 (.ref cdA1) ct50),sl50⟩) (c50:PySem.W.codeIn K (.ref cdA1) "law"=true) (k50:PySem.W.keepIn K (.ref f50)=true)
  (zz:∀x∈T.blt,PySem.W.nsIn K mainGlobals x=some none)
  {gt1:Tok} (gl1:PySem.W.nsIn K mainGlobals "MOST_COLOUR"=some (some (.int 8 gt1)))
  {gt2:Tok} (gl2:PySem.W.nsIn K mainGlobals "MOST_TILES"=some (some (.int 16 gt2)))
  {gt3:Tok} (gl3:PySem.W.nsIn K mainGlobals "MOST_SIDE"=some (some (.int 6 gt3)))
  {gt4:Tok} (gl4:PySem.W.nsIn K mainGlobals "FIGURES"=some (some (.str "012345678" gt4)))
  {gt5:Tok} (gl5:PySem.W.nsIn K mainGlobals "BARE"=some (some (.str "-" gt5)))
  {gt6:Tok} (gl6:PySem.W.nsIn K mainGlobals "UNREAD"=some (some (.str "?" gt6)))
  {gt7:Tok} (gl7:PySem.W.nsIn K mainGlobals "MOST_LETTERS"=some (some (.int 6 gt7)))
  {e0 e1 e2 e3 e4 e5 e6 e7:Addr}
  (n0:XA K "FloorError" e0)
  (n1:XA K "NoPlace" e1)
  (n2:XA K "NoTile" e2)
  (n3:XA K "NoFill" e3)
  (n4:XA K "Unlike" e4)
  (n5:XA K "Nothing" e5)
  (n6:XA K "NoText" e6)
  (n7:XA K "NoName" e7)
  {el4:Value}{ed4:Option Addr}{ec4:ClassData}{es4:Array (Option Value)} (lk4:K.lookup e4=some ⟨el4,ed4,.cls ec4,es4⟩) (mr4:ec4.mro=.ref e4::.ref e0::bmV)
  (ga4:PySem.W.findIn K (.ref e4) "__getattribute__"=some (some (.builtin "BaseException.__getattribute__"))) (gt4:PySem.W.findIn K (.ref e4) "__getattr__"=some none) (cc4:PySem.W.findIn K (.ref e4) "__class__"=some (some (.builtin "object.__class__")))
  {el5:Value}{ed5:Option Addr}{ec5:ClassData}{es5:Array (Option Value)} (lk5:K.lookup e5=some ⟨el5,ed5,.cls ec5,es5⟩) (mr5:ec5.mro=.ref e5::.ref e0::bmV)
  (ga5:PySem.W.findIn K (.ref e5) "__getattribute__"=some (some (.builtin "BaseException.__getattribute__"))) (gt5:PySem.W.findIn K (.ref e5) "__getattr__"=some none) (cc5:PySem.W.findIn K (.ref e5) "__class__"=some (some (.builtin "object.__class__")))
  {el6:Value}{ed6:Option Addr}{ec6:ClassData}{es6:Array (Option Value)} (lk6:K.lookup e6=some ⟨el6,ed6,.cls ec6,es6⟩) (mr6:ec6.mro=.ref e6::.ref e0::bmV)
  (ga6:PySem.W.findIn K (.ref e6) "__getattribute__"=some (some (.builtin "BaseException.__getattribute__"))) (gt6:PySem.W.findIn K (.ref e6) "__getattr__"=some none) (cc6:PySem.W.findIn K (.ref e6) "__class__"=some (some (.builtin "object.__class__")))
  {el7:Value}{ed7:Option Addr}{ec7:ClassData}{es7:Array (Option Value)} (lk7:K.lookup e7=some ⟨el7,ed7,.cls ec7,es7⟩) (mr7:ec7.mro=.ref e7::.ref e0::bmV)
  (ga7:PySem.W.findIn K (.ref e7) "__getattribute__"=some (some (.builtin "BaseException.__getattribute__"))) (gt7:PySem.W.findIn K (.ref e7) "__getattr__"=some none) (cc7:PySem.W.findIn K (.ref e7) "__class__"=some (some (.builtin "object.__class__")))
  (nd:[e0,e1,e2,e3,e4,e5,e6,e7].Nodup)
  (hPP:Pt1≠Pt0)
  (p1:GFn K "is_whole" (top 14)) (p2:GFn K "is_tuple_of" (top 15)) (p3:GFn K "is_colour" (top 16)) (p4:GFn K "is_tile" (top 17)) (p5:GFn K "is_set" (top 18)) (p6:GFn K "has_number" (top 19)) (p7:GFn K "may_lie" (top 20)) (p8:GFn K "is_row" (top 21)) (p9:GFn K "is_floor" (top 22)) (p10:GFn K "size_of" (top 23)) (p11:GFn K "tile_text" (top 28)) (p12:GFn K "set_text" (top 29)) (p13:GFn K "number_text" (top 30)) (p14:GFn K "row_text" (top 31)) (p15:GFn K "floor_text" (top 32)) (p16:GFn K "colour_by" (top 33)) (p17:GFn K "read_tile" (top 34)) (p18:GFn K "read_set" (top 35)) (p19:GFn K "numbers_by_text" (top 36)) (p20:GFn K "read_row" (top 37)) (p21:GFn K "read_floor" (top 38)) (p22:GFn K "beside" (top 40)) (p23:GFn K "below" (top 41)) (p24:GFn K "is_name" (top 44)) (p25:GFn K "refuse_no_name" (top 45)) (p26:MFn K yAlbum "__init__" "Album.__init__" (inC 0 (top 46))) (p27:MFn K yAlbum "name_floor" "Album.name_floor" (inC 1 (top 46))) (p28:MFn K yAlbum "do" "Album.do" (inC 2 (top 46))) (p29:MFn K yAlbum "put" "Album.put" (inC 3 (top 46))) (p30:MFn K yAlbum "floor_of" "Album.floor_of" (inC 4 (top 46))) (p31:MFn K yAlbum "take" "Album.take" (inC 5 (top 46))) (p32:MFn K yAlbum "join" "Album.join" (inC 6 (top 46))) (p33:MFn K yAlbum "names" "Album.names" (inC 7 (top 46))) (p34:MFn K yAlbum "set_of" "Album.set_of" (inC 8 (top 46))) (p35:MFn K yAlbum "back" "Album.back" (inC 9 (top 46))) (p36:MFn K yAlbum "sizes" "Album.sizes" (inC 11 (top 46))) (p37:GFn K "entry_text" (top 47)) (p38:GFn K "album_text" (top 48)) (p39:GFn K "read_entries" (top 49)) (p40:GFn K "read_album" (top 50)) (p41:GFn K "_law_cell" (top 52)) (p42:GFn K "_law_pick" (top 53)) (p43:GFn K "_law_tiles" (top 54)) (p44:GFn K "_law_floor" (top 55)) (p45:GFn K "_law_deed" (top 58)) (p46:GFn K "_law_behind" (top 59)) (p48:GFn K "_law_all_of" (top 61)) (p49:GFn K "_law_album_text" (top 62)) (pT:GFn K "_law_told" (top 57)) (pC:GFn K "_law_class" (top 56))
  : ∃fd:FuncData,(∀(s:Shared) (v:Value),BindsTo s fd ⟨[v],[]⟩ [("_law_script",v)])/\∀base:Heap,K.In base->base.Ns mainGlobals mg->zoo mg base->(∀q∈[(cdA0,Pt0),(cdA1,Pt1)],PySem.W.CodeHd base q.1 q.2)->FnOk l.prog w K mg base (CXE l.prog w) 55 fa fd ["_law_script"] (S2.ziY K [(cdA0,Pt0),(cdA1,Pt1)]):=by
 have e:=hfa.symm.trans (yaI X G a50);cases e;have CLAlbum:Cls K yAlbum:=⟨pgAlbum,hdAlbum,poAlbum,saAlbum⟩;refine⟨PySem.W.fnOf "law" "law" (zbb (top 63)) (zaP (top 63)) (zam (top 63)) .none kV50 dc50 pm50 an50 (.ref cdA1) ct50,fun s v=>.of_eq rfl,fun base _ _ hB hCd=>?_⟩
 let cl:Cf:=⟨fun x=>(([("FloorError",e0),("NoPlace",e1),("NoTile",e2),("NoFill",e3),("Unlike",e4),("Nothing",e5),("NoText",e6),("NoName",e7),("Album",yAlbum)]:List (Str×Addr)).lookup x).getD 0,K,l.prog,w,fun a=>if a=Pt0 then some ((("_law_did":Str) ++ ".<locals>.") ++ "<lambda>")else if a=Pt1 then some ((("law":Str) ++ ".<locals>.") ++ "<lambda>")else none⟩
 obtain⟨fT,aT,_,_,_,_,_,_,_,_,_,lT,cT,kT,_⟩:=pT;obtain⟨fC,aC,_,_,_,_,_,_,_,_,_,lC,cC,kC,_⟩:=pC;have HX:∀c∈T.exc,PySem.W.excIn K (cl c) bmV "ValueError.__new__"=true:=(zap n0.x (zap n1.x (zap n2.x (zap n3.x (zap n4.x (zap n5.x (zap n6.x (zap n7.x zfm))))))));have AI:∀C∈T.exc,∀c∈T.exc,(cl C=cl c↔C=c):=fun C hC c hc=>zrj (L:=[("FloorError",e0),("NoPlace",e1),("NoTile",e2),("NoFill",e3),("Unlike",e4),("Nothing",e5),("NoText",e6),("NoName",e7)]) (M:=[("Album",yAlbum)]) nd hC hc
 have g0:GOk cl (Gn T F0) cl.P cl.wo cl.K mg base 0:=GOk.at (zy6 (cl:=cl) (zap ⟨.int 8,_,yaI X G gl1,⟨_,rfl⟩,fun _=>.int _⟩ (zap ⟨.int 16,_,yaI X G gl2,⟨_,rfl⟩,fun _=>.int _⟩ (zap ⟨.int 6,_,yaI X G gl3,⟨_,rfl⟩,fun _=>.int _⟩ (zap ⟨.str "012345678",_,yaI X G gl4,⟨_,rfl⟩,fun _=>.str _⟩ (zap ⟨.str "-",_,yaI X G gl5,⟨_,rfl⟩,fun _=>.str _⟩ (zap ⟨.str "?",_,yaI X G gl6,⟨_,rfl⟩,fun _=>.str _⟩ (zap ⟨.int 6,_,yaI X G gl7,⟨_,rfl⟩,fun _=>.int _⟩ zfm))))))) (fun x h=>PySem.W.mg_none_of X G (zz x h)) (zap ⟨yaI X G n0.n,n0.x⟩ (zap ⟨yaI X G n1.n,n1.x⟩ (zap ⟨yaI X G n2.n,n2.x⟩ (zap ⟨yaI X G n3.n,n3.x⟩ (zap ⟨yaI X G n4.n,n4.x⟩ (zap ⟨yaI X G n5.n,n5.x⟩ (zap ⟨yaI X G n6.n,n6.x⟩ (zap ⟨yaI X G n7.n,n7.x⟩ zfm)))))))) (zap ⟨⟨_,_,n6.x⟩,_,_,_,_,lk6,zgq mr6⟩ (zap ⟨⟨_,_,n4.x⟩,_,_,_,_,lk4,zgq mr4⟩ (zap ⟨⟨_,_,n7.x⟩,_,_,_,_,lk7,zgq mr7⟩ (zap ⟨⟨_,_,n5.x⟩,_,_,_,_,lk5,zgq mr5⟩ zfm)))) (zap (zjq (K:=K) (c:="NoText") (cl:=cl) lk6 mr6 rfl ga6 gt6 cc6 HX (fun C hC=>⟨AI C hC "NoText" (by decide),AI C hC "FloorError" (by decide)⟩)) (zap (zjq (K:=K) (c:="Unlike") (cl:=cl) lk4 mr4 rfl ga4 gt4 cc4 HX (fun C hC=>⟨AI C hC "Unlike" (by decide),AI C hC "FloorError" (by decide)⟩)) (zap (zjq (K:=K) (c:="NoName") (cl:=cl) lk7 mr7 rfl ga7 gt7 cc7 HX (fun C hC=>⟨AI C hC "NoName" (by decide),AI C hC "FloorError" (by decide)⟩)) (zap (zjq (K:=K) (c:="Nothing") (cl:=cl) lk5 mr5 rfl ga5 gt5 cc5 HX (fun C hC=>⟨AI C hC "Nothing" (by decide),AI C hC "FloorError" (by decide)⟩)) zfm)))) (zap ⟨CLAlbum,naAlbumtiles⟩ (zap ⟨CLAlbum,naAlbumnamed⟩ (zap ⟨CLAlbum,naAlbumdone⟩ (zap ⟨CLAlbum,naAlbumundone⟩ zfm))))) "Album";have g1:=ag g0 X G p1 1 ["thing"] false zcF zes (fun _ _ _ _ _ _=>bb1 fun _=>rfl) (by kernel_rfl) rfl (by kernel_rfl);have g2:=ag g1 X G p2 3 ["thing","least","most"] false zaN zb4 (fun _ _ _ _ _ _=>bb3 fun _ _ _=>rfl) (by kernel_rfl) rfl (by kernel_rfl);have g3:=ag g2 X G p3 1 ["thing"] false zcM zdN (fun _ _ _ _ _ _=>bb1 fun _=>rfl) (by kernel_rfl) rfl (by kernel_rfl);have g4:=ag g3 X G p4 1 ["thing"] false zc5 zfo (fun _ _ _ _ _ _=>bb1 fun _=>rfl) (by kernel_rfl) rfl (by kernel_rfl);have g5:=ag g4 X G p5 1 ["thing"] false zbZ zgC (fun _ _ _ _ _ _=>bb1 fun _=>rfl) (by kernel_rfl) rfl (by kernel_rfl);have g6:=ag g5 X G p6 2 ["tiles","thing"] false zc7 zde (fun _ _ _ _ _ _=>bb2 fun _ _=>rfl) (by kernel_rfl) rfl (by kernel_rfl);have g7:=ag g6 X G p7 2 ["tiles","thing"] false zcE zd7 (fun _ _ _ _ _ _=>bb2 fun _ _=>rfl) (by kernel_rfl) rfl (by kernel_rfl);have g8:=ag g7 X G p8 2 ["tiles","thing"] false zdu zeR (fun _ _ _ _ _ _=>bb2 fun _ _=>rfl) (by kernel_rfl) rfl (by kernel_rfl);have g9:=ag g8 X G p9 2 ["tiles","thing"] false zaL zcI (fun _ _ _ _ _ _=>bb2 fun _ _=>rfl) (by kernel_rfl) rfl (by kernel_rfl);have g10:=ag g9 X G p10 1 ["floor","columns"] false zcf zfn (fun _ _ _ _ _ _=>bb1 fun _=>rfl) (by kernel_rfl) rfl (by kernel_rfl);have g11:=ag g10 X G p11 1 ["tile"] false zbF zdL (fun _ _ _ _ _ _=>bb1 fun _=>rfl) (by kernel_rfl) rfl (by kernel_rfl);have g12:=ag g11 X G p12 1 ["tiles"] false zcD zeo (fun _ _ _ _ _ _=>bb1 fun _=>rfl) (by kernel_rfl) rfl (by kernel_rfl);have g13:=ag g12 X G p13 1 ["number"] false zaW zb3 (fun _ _ _ _ _ _=>bb1 fun _=>rfl) (by kernel_rfl) rfl (by kernel_rfl);have g14:=ag g13 X G p14 1 ["row"] false zb6 zep (fun _ _ _ _ _ _=>bb1 fun _=>rfl) (by kernel_rfl) rfl (by kernel_rfl);have g15:=ag g14 X G p15 1 ["floor"] false zbu zdf (fun _ _ _ _ _ _=>bb1 fun _=>rfl) (by kernel_rfl) rfl (by kernel_rfl);have g16:=ag g15 X G p16 1 ["sign"] false zbo zcR (fun _ _ _ _ _ _=>bb1 fun _=>rfl) (by kernel_rfl) rfl (by kernel_rfl);have g17:=ag g16 X G p17 1 ["line"] false zbG zdM (fun _ _ _ _ _ _=>bb1 fun _=>rfl) (by kernel_rfl) rfl (by kernel_rfl);have g18:=ag g17 X G p18 1 ["text","tiles"] false zdt zeq (fun _ _ _ _ _ _=>bb1 fun _=>rfl) (by kernel_rfl) rfl (by kernel_rfl);have g19:=ag g18 X G p19 1 ["tiles","known","number"] true zbf zbK (fun _ _ _ _ _ _=>bb1 fun _=>rfl) (by kernel_rfl) rfl (by kernel_rfl);have g20:=ag g19 X G p20 2 ["known","line"] false zb7 zer (fun _ _ _ _ _ _=>bb2 fun _ _=>rfl) (by kernel_rfl) rfl (by kernel_rfl);have g21:=ag g20 X G p21 2 ["tiles","text","known","floor"] false zbt zdc (fun _ _ _ _ _ _=>bb2 fun _ _=>rfl) (by kernel_rfl) rfl (by kernel_rfl);have g22:=ag g21 X G p22 2 ["one","other"] false zb0 zeS (fun _ _ _ _ _ _=>bb2 fun _ _=>rfl) (by kernel_rfl) rfl (by kernel_rfl);have g23:=ag g22 X G p23 2 ["one","other"] false zcN zgD (fun _ _ _ _ _ _=>bb2 fun _ _=>rfl) (by kernel_rfl) rfl (by kernel_rfl);have g24:=ag g23 X G p24 1 ["thing"] false zc6 zhB (fun _ _ _ _ _ _=>bb1 fun _=>rfl) (by kernel_rfl) rfl (by kernel_rfl);have g25:=ag g24 X G p25 1 ["thing"] false zaZ zbU (fun _ _ _ _ _ _=>bb1 fun _=>rfl) (by kernel_rfl) rfl (by kernel_rfl);have g26:=ak (c:="Album") g25 X G nyAlbum mkAlbum kpAlbum p26 2 ["self","tiles"] zaM zbV (fun _ _ _ _ _ _=>bb2 fun _ _=>rfl) (by kernel_rfl) rfl (by kernel_rfl);have g27:=am (c:="Album") g26 CLAlbum p27 3 ["self","name","floor"] false zaF za5 (fun _ _ _ _ _ _=>bb3 fun _ _ _=>rfl) (by kernel_rfl) rfl (by kernel_rfl);have g28:=am (c:="Album") g27 CLAlbum p28 4 ["self","word","name","floor"] false zb9 zet (fun _ _ _ _ _ _=>bb4 fun _ _ _ _=>rfl) (by kernel_rfl) rfl (by kernel_rfl);have g29:=am (c:="Album") g28 CLAlbum p29 3 ["self","name","floor","had"] false zaO zdP (fun _ _ _ _ _ _=>bb3 fun _ _ _=>rfl) (by kernel_rfl) rfl (by kernel_rfl);have g30:=am (c:="Album") g29 CLAlbum p30 2 ["self","name"] false zao zbm (fun _ _ _ _ _ _=>bb2 fun _ _=>rfl) (by kernel_rfl) rfl (by kernel_rfl);have g31:=am (c:="Album") g30 CLAlbum p31 2 ["self","name","floor"] false zaw zcv (fun _ _ _ _ _ _=>bb2 fun _ _=>rfl) (by kernel_rfl) rfl (by kernel_rfl);have g32:=am (c:="Album") g31 CLAlbum p32 5 ["self","name","one","other","is_east","first","second","whole"] false zal zaH (fun _ _ _ _ _ _=>bb5 fun _ _ _ _ _=>rfl) (by kernel_rfl) rfl (by kernel_rfl);have g33:=am (c:="Album") g32 CLAlbum p33 1 ["self"] true zbz zcU (fun _ _ _ _ _ _=>bb1 fun _=>rfl) (by kernel_rfl) rfl (by kernel_rfl);have g34:=am (c:="Album") g33 CLAlbum p34 1 ["self"] false zbj zcB (fun _ _ _ _ _ _=>bb1 fun _=>rfl) (by kernel_rfl) rfl (by kernel_rfl);have g35:=am (c:="Album") g34 CLAlbum p35 1 ["self","deed"] false zbM zdk (fun _ _ _ _ _ _=>bb1 fun _=>rfl) (by kernel_rfl) rfl (by kernel_rfl);have g36:=am (c:="Album") g35 CLAlbum p36 1 ["self"] false zaX zcT (fun _ _ _ _ _ _=>bb1 fun _=>rfl) (by kernel_rfl) rfl (by kernel_rfl);have g37:=ag g36 X G p37 2 ["album","name"] false zbv zdg (fun _ _ _ _ _ _=>bb2 fun _ _=>rfl) (by kernel_rfl) rfl (by kernel_rfl);have g38:=ag g37 X G p38 1 ["album"] false zbw zdh (fun _ _ _ _ _ _=>bb1 fun _=>rfl) (by kernel_rfl) rfl (by kernel_rfl);have g39:=ag g38 X G p39 2 ["tiles","entries","named","last","entry","halves","name"] true za1 zcA (fun _ _ _ _ _ _=>bb2 fun _ _=>rfl) (by kernel_rfl) rfl (by kernel_rfl);have g40:=ag g39 X G p40 1 ["text","parts","album"] false zco zdd (fun _ _ _ _ _ _=>bb1 fun _=>rfl) (by kernel_rfl) rfl (by kernel_rfl);have g41:=ag g40 X G p41 2 ["_law_script","_law_k"] false zbH zck (fun _ _ _ _ _ _=>bb2 fun _ _=>rfl) (by kernel_rfl) rfl (by kernel_rfl);have g42:=ag g41 X G p42 3 ["_law_script","_law_k","_law_many","_law_drawn"] false zar zdO (fun _ _ _ _ _ _=>bb3 fun _ _ _=>rfl) (by kernel_rfl) rfl (by kernel_rfl);have g43:=ag g42 X G p43 3 ["_law_script","_law_at","_law_most","_law_colours","_law_made","_law_k","_law_tile"] false zcp zdi (fun _ _ _ _ _ _=>bb3 fun _ _ _=>rfl) (by kernel_rfl) rfl (by kernel_rfl);have g44:=ag g43 X G p44 6 ["_law_script","_law_at","_law_tiles_here","_law_rows","_law_columns","_law_many","_law_made","_law_row","_law_line","_law_column","_law_here"] false zcq zdj (fun _ _ _ _ _ _=>bb6 fun _ _ _ _ _ _=>rfl) (by kernel_rfl) rfl (by kernel_rfl);have g45:=ag g44 X G p45 3 ["_law_script","_law_at","_law_tiles_here","_law_names","_law_name","_law_way","_law_rows","_law_columns","_law_one","_law_other"] false zbp zcj (fun _ _ _ _ _ _=>bb3 fun _ _ _=>rfl) (by kernel_rfl) rfl (by kernel_rfl);have g46:=ag g45 X G p46 2 ["_law_known","_law_deed_here","_law_rest","_law_one","_law_other","_law_is_east","_law_made"] false zaa zat (fun _ _ _ _ _ _=>bb2 fun _ _=>rfl) (by kernel_rfl) rfl (by kernel_rfl);have gL47:=g46.lamUp (cd:=cdA0) (Pt:=Pt0) (q:=(("_law_did":Str) ++ ".<locals>.")) rfl (tF lT cT kT) (cF (cl:=cl) lC cC kC) rfl rfl rfl (yaI X G aT) kT (yaI X G aC) kC rfl hB (hCd (cdA0,Pt0) (.head _)) (if_pos rfl);have G47:=zo0 (cl:=cl) (wo:=w) (P:=l.prog) (N:=["_law_album","_law_deed_here"]) (own:=false) (fs:=zfY) l47 c47 (zeW (n:=2) (by kernel_rfl)).1 gL47 rfl rfl rfl (by kernel_rfl);have g47:=GOk.add (fi:=⟨2,false,zb8⟩) (g46.up (k':=49) (by decide)) (yaI X G a47) k47 ((zju (st:=(top 60)) l47 c47 k47).binds (ps:=["_law_album","_law_deed_here"]) (fun _ _ _ _ _ _=>bb2 fun _ _=>rfl)) G47;have g48:=ag g47 X G p48 1 ["_law_album"] true zb1 zcS (fun _ _ _ _ _ _=>bb1 fun _=>rfl) (by kernel_rfl) rfl (by kernel_rfl);have g49:=ag g48 X G p49 2 ["_law_tiles_here","_law_known","_law_made","_law_name"] false zaS zbL (fun _ _ _ _ _ _=>bb2 fun _ _=>rfl) (by kernel_rfl) rfl (by kernel_rfl);have gL50:=g49.lamUp (cd:=cdA1) (Pt:=Pt1) (q:=(("law":Str) ++ ".<locals>.")) rfl (tF lT cT kT) (cF (cl:=cl) lC cC kC) rfl rfl rfl (yaI X G aT) kT (yaI X G aC) kC rfl hB (hCd (cdA1,Pt1) (.tail _ (.head _))) ((if_neg hPP).trans (if_pos rfl));have G50:=zo0 (cl:=cl) (wo:=w) (P:=l.prog) (N:=["_law_script","_law_tiles_here","_law_album","_law_known","_law_k","_law_deed_here","_law_due","_law_text","_law_many","_law_here","_law_other"]) (own:=false) (fs:=zq7) l50 c50 (zeW (n:=1) (by kernel_rfl)).1 gL50 rfl rfl rfl (by kernel_rfl);exact G50.imp (zqD (cl:=cl) (tabs:=[(cdA0,Pt0),(cdA1,Pt1)]) (fun P q h=>by have hh:(if P=Pt0 then some ((("_law_did":Str) ++ ".<locals>.") ++ "<lambda>")else if P=Pt1 then some ((("law":Str) ++ ".<locals>.") ++ "<lambda>")else none)=some q:=h;split at hh;(· rename_i e;rw[e];exact .head _);(· split at hh;(· rename_i e;rw[e];exact .tail _ (.head _));(· cases hh))) znM)
def walk{l:PySem.W.OpenLaw}{q:Program}{loose:List Str}{XP:(Str->Option Value)->Heap->Prop}{YP:PySem.World->Heap->Prop}{d:DefRec}{K:Params->PySem.W.Frag}{cdA0 Pt0 cdA1 Pt1:Addr}(hn:l.most=some 63)(hdf:d.params.defaults=[])
  (hY:∀(w:PySem.World) (h:Heap),YP w h->(K w.params).In h) (hnt:∀w:PySem.World,PySem.W.noTabs (K w.params)=true)
  (hT:∀(w:PySem.World) (mg mb:Z6) (mean:ExcName->Option Value) (h:Heap),(K w.params).In h->PyProof.Rows.Top q (PySem.W.looseW q loose) mean mg mb h->PySem.W.TabsAt [(cdA0,Pt0),(cdA1,Pt1)] h)
  (F:∀(w:PySem.World) (mg:Z6) (fa:Addr) (h:Heap),(K w.params).In h->h.Ns mainGlobals mg->mg d.name=some (.ref fa) →
   ∃fd:FuncData,(∀(s:Shared) (u:Value),BindsTo s fd ⟨[u],[]⟩ [("_law_script",u)])/\∀base:Heap,(K w.params).In base->base.Ns mainGlobals mg->zoo mg base->(∀q∈[(cdA0,Pt0),(cdA1,Pt1)],PySem.W.CodeHd base q.1 q.2)->FnOk l.prog w (K w.params) mg base (CXE l.prog w) 55 fa fd ["_law_script"] (S2.ziY (K w.params) [(cdA0,Pt0),(cdA1,Pt1)])):
  PySem.W.WalkO q loose XP YP l.row.toRowW d [] (fun f vs=>PySem.call f vs):=
 L2.zmO (n:=63) (k:=55) (x:="_law_script") (tabs:=[(cdA0,Pt0),(cdA1,Pt1)]) (CX:=fun w=>CXE l.prog w) (sp:=fun w=>S2.ziY (K w.params) [(cdA0,Pt0),(cdA1,Pt1)]) hn (by decide) hdf ⟨rfl,by decide,by decide⟩ hY hnt hT F (fun _ _ a ns hl hO hTb hne hS=>⟨a,ns,rfl,hl,hO,hTb,hne,hS,fun _=>rfl⟩) (by rintro _ _ _ _ _ ⟨_,_,_,_,_,_,_,_,_,_,_,_,_,_,z⟩;exact z)
end M93
namespace PySem.W.Fast
noncomputable def tw7641348530623408989:=0
noncomputable def tw16449699727190419280:=0
noncomputable def tw428256037979755500:=0
noncomputable def tw16105215629263063319:=0
noncomputable def tw4181287415129448757:=0
noncomputable def tw17491838530352568044:=0
noncomputable def tw7432772839175883090:=0
noncomputable def tw5058864621580911011:=0
noncomputable def tw5982090051287961964:=0
noncomputable def tw6530185774838187009:=0
noncomputable def tw8313220136083283860:=0
noncomputable def tw5551270171287750015:=0
noncomputable def tw1381331139249688123:=0
noncomputable def tw10220037347685580978:=0
noncomputable def tw1487263603790671980:=0
noncomputable def tw4157783128689029054:=0
noncomputable def tw948235282412949811:=0
noncomputable def tw4415435007902260229:=0
noncomputable def tw7751049643285030377:=0
noncomputable def tw2441689040693175154:=0
noncomputable def tw3265198855140127380:=0
noncomputable def tw13905314619400406053:=0
noncomputable def tw8599753388603210792:=0
noncomputable def tw16729768064999528618:=0
noncomputable def tw10664296841213784814:=0
noncomputable def tw12090587807502548544:=0
noncomputable def tw5789587866548931621:=0
noncomputable def tw1359735633530211962:=0
noncomputable def tw16019936224006352197:=0
noncomputable def tw11646344389443848410:=0
noncomputable def tw496540748092678225:=0
noncomputable def tw3375814069415316970:=0
noncomputable def tw10773566296913731958:=0
noncomputable def tw8380300918030116271:=0
noncomputable def tw12619198094611139143:=0
noncomputable def tw10528131683113475513:=0
noncomputable def tw704260056240090652:=0
noncomputable def tw4876025597720562502:=0
noncomputable def tw12464807500543415052:=0
noncomputable def tw16570609741696344887:=0
noncomputable def tw14061322330876597896:=0
noncomputable def tw10037733966432757866:=0
noncomputable def tw3686766207601708795:=0
noncomputable def tw17869820982788911804:=0
noncomputable def tw11855196885829389421:=0
noncomputable def tw11433386724382910691:=0
noncomputable def tw15452202076659999072:=0
noncomputable def tw2071934633965195143:=0
noncomputable def tw2037066910092798995:=0
noncomputable def tw10491972116461012106:=0
noncomputable def tw9103651357602431683:=0
noncomputable def tw3157714177875534976:=0
noncomputable def tw4019572138528895444:=0
noncomputable def tw13024219959348136988:=0
noncomputable def tw17609569247718343456:=0
noncomputable def tw14642922398311122180:=0
noncomputable def tw13803839934892793216:=0
noncomputable def tw11172114712877468537:=0
noncomputable def tw8152498059973283864:=0
noncomputable def tw3800566966275306558:=0
noncomputable def tw13171636496048082076:=0
noncomputable def tw12754777718270974616:=0
noncomputable def tw11773073742499419190:=0
noncomputable def tw9644771189454399934:=0
noncomputable def tw16420622572533950627:=0
noncomputable def tw17515337943816073771:=0
noncomputable def tw16328209186997603433:=0
noncomputable def tw14732956139135542137:=0
noncomputable def tw6333162633032428855:=0
noncomputable def tw3181844649603934423:=0
noncomputable def tw13031980560867158935:=0
noncomputable def tw7489874784345798440:=0
noncomputable def tw16689658917552767797:=0
noncomputable def tw8811433421360600848:=0
noncomputable def tw13011965368154499255:=0
noncomputable def tw571524107005865479:=0
noncomputable def tw15363829912610050052:=0
noncomputable def tw7894391701633162623:=0
noncomputable def tw14791040747882617031:=0
noncomputable def tw15487632982065196594:=0
noncomputable def tw1021032616798668360:=0
noncomputable def tw15746383937239937281:=0
noncomputable def tw13283272875455789495:=0
noncomputable def tw1231790261272904145:=0
noncomputable def tw5160851825209770374:=0
noncomputable def tw5111688408329148598:=0
noncomputable def tw6128776240594455450:=0
noncomputable def tw5159427992063785871:=0
noncomputable def tw16861811227347888499:=0
noncomputable def tw7580016446534239234:=0
noncomputable def tw17264551565354678983:=0
noncomputable def tw9978215879155394404:=0
noncomputable def tw16823676788475074619:=0
noncomputable def tw7573688547424927892:=0
noncomputable def tw870802700080310727:=0
noncomputable def tw11861101936132427241:=0
noncomputable def tw771881293752947173:=0
noncomputable def tw5003721057757800155:=0
noncomputable def tw13306136902826822927:=0
noncomputable def tw7687941208704863412:=0
noncomputable def tw12945684419248471701:=0
noncomputable def tw10879781805307103293:=0
noncomputable def tw8243364766594626442:=0
noncomputable def tw15460092975305715668:=0
noncomputable def tw17766015463280240325:=0
noncomputable def tw17497870194655570819:=0
noncomputable def tw15986200171669283742:=0
noncomputable def tw8011307226624715480:=0
noncomputable def tw5367081887012539748:=0
noncomputable def tw12016220161106335237:=0
noncomputable def tw6280423194310107513:=0
noncomputable def tw16672160663821851668:=0
noncomputable def tw968422229982912558:=0
noncomputable def tw11578659088141161525:=0
noncomputable def tw17143461986244819314:=0
noncomputable def tw12724449151354697126:=0
noncomputable def tw16005677442608353988:=0
noncomputable def tw11712149592147316662:=0
noncomputable def tw16014065503064578372:=0
noncomputable def tw327277207641761842:=0
noncomputable def tw7867503438696184404:=0
noncomputable def tw18384354252716634351:=0
noncomputable def tw15109811442022231712:=0
noncomputable def tw1227403673929754311:=0
noncomputable def tw754792496684787963:=0
noncomputable def tw6819278859390843522:=0
noncomputable def tw3193043050488147833:=0
noncomputable def tw8188025053754549031:=0
noncomputable def tw2745992922713139306:=0
noncomputable def tw9617558488317829625:=0
noncomputable def tw894503652195699786:=0
noncomputable def tw11898446548085682801:=0
noncomputable def tw14462622202542360423:=0
noncomputable def tw15682475519598758295:=0
noncomputable def tw5439868342605155154:=0
noncomputable def tw6259839389318128938:=0
noncomputable def tw16774877491773602091:=0
noncomputable def tw154426223113674949:=0
noncomputable def tw2756718387377640722:=0
noncomputable def tw8154409819200330348:=0
noncomputable def tw8976957191770423334:=0
noncomputable def tw6430127816353401186:=0
noncomputable def tw2618847429055650988:=0
noncomputable def tw5547416169188440884:=0
noncomputable def tw6955498303718648329:=0
noncomputable def tw7935184670468323075:=0
noncomputable def tw11553802281315286128:=0
noncomputable def tw12599537955285297901:=0
noncomputable def tw8931393342191768151:=0
noncomputable def tw11043555436948394429:=0
noncomputable def tw10675717410048097651:=0
noncomputable def tw8334496264357767730:=0
noncomputable def tw14697197194102058007:=0
noncomputable def tw5703538098516948168:=0
noncomputable def tw13348392957256300428:=0
noncomputable def tw13142096095193706473:=0
noncomputable def tw5263039162819128432:=0
noncomputable def tw8564153433817395603:=0
noncomputable def tw13950536570668461296:=0
noncomputable def tw16804517191448853927:=0
noncomputable def tw10500493493368359775:=0
noncomputable def tw14112684185087882374:=0
noncomputable def tw17406045904910098489:=0
noncomputable def tw16472017333697243029:=0
noncomputable def tw5795969777074947747:=0
noncomputable def tw1618675815162227653:=0
noncomputable def tw2604247379530949941:=0
noncomputable def tw16394407544805926625:=0
noncomputable def tw14889631279535977550:=0
noncomputable def tw12857419841812390814:=0
noncomputable def tw10791083434090949362:=0
noncomputable def tw16381559304642118889:=0
noncomputable def tw3849158214128970603:=0
noncomputable def tw15479623719699840177:=0
noncomputable def tw7772854562877995392:=0
noncomputable def tw7485221735986908312:=0
noncomputable def tw721264644566555013:=0
noncomputable def tw4557935314114676748:=0
noncomputable def tw276292620382376437:=0
noncomputable def tw8825454368487382776:=0
noncomputable def tw5858844140874485629:=0
noncomputable def tw3427467492916728103:=0
noncomputable def tw16185269899415353803:=0
noncomputable def tw14656305296824318925:=0
noncomputable def tw12489275067353407491:=0
noncomputable def tw7100173254878359777:=0
noncomputable def tw13380265915224782454:=0
noncomputable def tw6731143701264271934:=0
noncomputable def tw8357364184218138364:=0
noncomputable def tw1186141731816529014:=0
noncomputable def tw12381964529284928568:=0
noncomputable def tw7303489556712539067:=0
noncomputable def tw3098533846392377637:=0
noncomputable def tw2617868169931437343:=0
noncomputable def tw13534191274795500766:=0
noncomputable def tw6879943379445998762:=0
noncomputable def tw5429657772768870402:=0
noncomputable def tw3709166096065477886:=0
noncomputable def tw16338529328523174883:=0
noncomputable def tw16323120630590802274:=0
noncomputable def tw10111572724335062148:=0
noncomputable def tw18047618976054104507:=0
noncomputable def tw16418714630844200868:=0
noncomputable def tw12355076999059596117:=0
noncomputable def tw15370982117438690564:=0
noncomputable def tw8702802668577164076:=0
noncomputable def tw6686959979254927147:=0
noncomputable def tw5219908855199124477:=0
noncomputable def tw5091635506781330087:=0
noncomputable def tw13785861321561845550:=0
noncomputable def tw1945845585801399279:=0
noncomputable def tw14354236525251122589:=0
noncomputable def tw10304063262629902867:=0
noncomputable def tw10065554671066731164:=0
noncomputable def tw3130029731089592601:=0
noncomputable def tw2102911759481970510:=0
noncomputable def tw17874653833621555868:=0
noncomputable def tw11537694999388287572:=0
noncomputable def tw1897591098944511174:=0
noncomputable def tw18363823157808622803:=0
noncomputable def tw1311699439491753776:=0
noncomputable def tw2401294415673270285:=0
noncomputable def tw1565130338973779128:=0
noncomputable def tw14962804636373357554:=0
noncomputable def tw14668088634832230617:=0
noncomputable def tw12281247304396416810:=0
noncomputable def tw8916950957113260685:=0
noncomputable def tw3941616807852810854:=0
noncomputable def tw2232951625998016189:=0
noncomputable def tw1590218722664955566:=0
noncomputable def tw1497539344544952443:=0
noncomputable def tw1119536623087669372:=0
noncomputable def tw18228427752596693455:=0
noncomputable def tw14946756402739419899:=0
noncomputable def tw12232158094702360145:=0
noncomputable def tw10760920408753569839:=0
noncomputable def tw5682997835550714320:=0
noncomputable def tw17820097425381364930:=0
noncomputable def tw17300348844214260803:=0
noncomputable def tw18359772125362387333:=0
noncomputable def tw5354875548090929547:=0
noncomputable def tw3864372300684177897:=0
noncomputable def tw16983762452986162146:=0
noncomputable def tw8443935391346851766:=0
noncomputable def tw15418779657017809307:=0
noncomputable def tw13006201712028467045:=0
noncomputable def tw8719728907973433068:=0
noncomputable def tw6269929854462311647:=0
noncomputable def tw12064363069698781077:=0
noncomputable def tw5212892356935953594:=0
noncomputable def tw1870588817195966499:=0
noncomputable def tw16364139510522794853:=0
noncomputable def tw15805621010128852639:=0
noncomputable def tw6310350797832161104:=0
noncomputable def tw9098076749969729377:=0
noncomputable def tw13852849315362549723:=0
noncomputable def tw12748658316175928334:=0
noncomputable def tw2751333628554811170:=0
noncomputable def tw2336649765134349267:=0
noncomputable def tw15361092529709262395:=0
noncomputable def tw9942948641387163054:=0
noncomputable def tw16284942608774178297:=0
noncomputable def tw9285118739770667178:=0
noncomputable def tw13703330416970372741:=0
noncomputable def tw11615542207315031370:=0
noncomputable def tw6036954634339400569:=0
noncomputable def tw16066133925495671269:=0
noncomputable def tw6562836583063329389:=0
noncomputable def tw2359765011177369655:=0
noncomputable def tw17174536232100318830:=0
noncomputable def tw12050518105993770753:=0
noncomputable def tw786355379514307880:=0
noncomputable def tw10674422801326007961:=0
noncomputable def tw4500099744419700654:=0
noncomputable def tw10585027054572344455:=0
noncomputable def tw15788151205631790192:=0
noncomputable def tw8570371833803646037:=0
noncomputable def tw13148442809408215702:=0
noncomputable def tw5863497062357886373:=0
noncomputable def tw12569026928206795878:=0
noncomputable def tw10066425369343173827:=0
noncomputable def tw9487567380582154986:=0
noncomputable def tw10026091113133238407:=0
noncomputable def tw9363431873713479426:=0
noncomputable def tw18239107864756556642:=0
noncomputable def tw8268376681054721107:=0
noncomputable def tw6128709501665571645:=0
noncomputable def tw16659367275521397005:=0
noncomputable def tw18121309302609628775:=0
noncomputable def tw4037586420116456423:=0
noncomputable def tw2489117240931044558:=0
noncomputable def tw11899676890941309633:=0
noncomputable def tw249227782681031671:=0
noncomputable def tw8736740710341061028:=0
noncomputable def tw5437397533239473720:=0
noncomputable def tw15988623267234388582:=0
noncomputable def tw1249208618970632604:=0
noncomputable def tw9412652757728829037:=0
noncomputable def tw17659927860331717378:=0
noncomputable def tw14585866915711849886:=0
noncomputable def tw11624250069812323660:=0
noncomputable def tw11649530112362528000:=0
noncomputable def tw17849598212751419880:=0
noncomputable def tw12557946174683598364:=0
noncomputable def tw15423058147864439441:=0
noncomputable def tw16705395613379314430:=0
noncomputable def tw1333142757093278750:=0
noncomputable def tw6976916441104764251:=0
noncomputable def tw4733036631181931444:=0
noncomputable def tw6009520527843441743:=0
noncomputable def tw11106664753814470621:=0
noncomputable def tw13387347866900700868:=0
noncomputable def tw14534092659078556880:=0
noncomputable def tw8786402987701960967:=0
noncomputable def tw2183654131152285080:=0
noncomputable def tw12107061359281373561:=0
noncomputable def tw1176940279776294943:=0
noncomputable def tw8781795828268152304:=0
noncomputable def tw13074675180369040117:=0
noncomputable def tw9644952188219592147:=0
noncomputable def tw5471633142778902606:=0
noncomputable def tw3399632288386657480:=0
noncomputable def tw2506043876389626131:=0
noncomputable def tw2272852151248598284:=0
noncomputable def tw17311709885083970162:=0
noncomputable def tw10805280836891036988:=0
noncomputable def tw1064310757788122605:=0
noncomputable def tw12393379724389975060:=0
noncomputable def tw3462955108698487798:=0
noncomputable def tw2190286438734116456:=0
noncomputable def tw8536062056698029667:=0
noncomputable def tw12822612197668374632:=0
noncomputable def tw477723673949954630:=0
noncomputable def tw11877588138811400080:=0
noncomputable def tw9940456376519039717:=0
noncomputable def tw15808210484328339207:=0
noncomputable def tw1389680478558838461:=0
noncomputable def tw13706060715508830866:=0
noncomputable def tw12642886987840074064:=0
noncomputable def tw4737102001580595418:=0
noncomputable def tw13339060091809690642:=0
noncomputable def tw16036376159480974374:=0
noncomputable def tw8497254185026497166:=0
noncomputable def tw7422883754760594515:=0
noncomputable def tw3196487333421712603:=0
noncomputable def tw855850613427865092:=0
noncomputable def tw743903482648659388:=0
noncomputable def tw5817855879059999725:=0
noncomputable def tw3767117058233328189:=0
noncomputable def tw14964694459165112189:=0
end PySem.W.Fast
open PySem PySem.W PyProof.Rows
set_option maxRecDepth 100000 in
set_option maxHeartbeats 0 in
theorem PySem.Challenge.cw_floorfits_k93_whole_album_texts_holds : PySem.Challenge.rw_floorfits_k93_whole_album_texts.Holds := by
 w_on;o_law;k_head;(case hw=>w_witness2)
 k_fill
 refine M93.walk (l:=PySem.Challenge.rw_floorfits_k93_whole_album_texts) (cdA0:=454) (Pt0:=450) (cdA1:=473) (Pt1:=469) rfl rfl (fun w h Y=>PySem.W.km_in_of Y) (fun w=>by kernel_rfl) (fun w mg mb mean h X T=>List.forall_mem_cons.mpr ⟨PySem.W.tab_of (x:=PySem.Str.ofString "_law_did") (c:=454) (P:=450) T X rfl (by kernel_rfl),List.forall_mem_cons.mpr ⟨PySem.W.tab_of (x:=PySem.Str.ofString "law") (c:=473) (P:=469) T X rfl (by kernel_rfl),fun _ h=>nomatch h⟩⟩) ?F
 case F=>
  intro w mg fa h KX G hmg;refine' M93.all_mk KX G hmg ?nyAlbum ?pgAlbum ?hdAlbum ?poAlbum ?saAlbum ?mkAlbum ?kpAlbum ?naAlbumtiles ?naAlbumnamed ?naAlbumdone ?naAlbumundone ?a47 ?l47 ?c47 ?k47 ?a50 ?l50 ?c50 ?k50 ?zz ?gl1 ?gl2 ?gl3 ?gl4 ?gl5 ?gl6 ?gl7 ?n0 ?n1 ?n2 ?n3 ?n4 ?n5 ?n6 ?n7 ?lk4 ?mr4 ?ga4 ?gt4 ?cc4 ?lk5 ?mr5 ?ga5 ?gt5 ?cc5 ?lk6 ?mr6 ?ga6 ?gt6 ?cc6 ?lk7 ?mr7 ?ga7 ?gt7 ?cc7 ?nd ?hPP ?_ ?_ ?_ ?_ ?_ ?_ ?_ ?_ ?_ ?_ ?_ ?_ ?_ ?_ ?_ ?_ ?_ ?_ ?_ ?_ ?_ ?_ ?_ ?_ ?_ ?_ ?_ ?_ ?_ ?_ ?_ ?_ ?_ ?_ ?_ ?_ ?_ ?_ ?_ ?_ ?_ ?_ ?_ ?_ ?_ ?_ ?_ ?_ ?_ ?_
  case nyAlbum|pgAlbum|hdAlbum|poAlbum|saAlbum|mkAlbum|kpAlbum|naAlbumtiles|naAlbumnamed|naAlbumdone|naAlbumundone|a47|l47|c47|k47|a50|l50|c50|k50=>
   k_is
  case zz=>
   repeat refine S2.zap (by k_is) ?_
   exact S2.zfm
  case gl1|gl2|gl3|gl4|gl5|gl6|gl7=>
   k_is
  case n0|n1|n2|n3|n4|n5|n6|n7=>
   constructor;(k_is);(k_exc)
  case lk4=>
   k_is
  case mr4=>
   with_unfolding_all rfl
  case ga4|gt4|cc4|lk5=>
   k_is
  case mr5=>
   with_unfolding_all rfl
  case ga5|gt5|cc5|lk6=>
   k_is
  case mr6=>
   with_unfolding_all rfl
  case ga6|gt6|cc6|lk7=>
   k_is
  case mr7=>
   with_unfolding_all rfl
  case ga7|gt7|cc7=>
   k_is
  case nd|hPP=>
   decide
  all_goals ((first|refine' M93.gm ?a ?l ?c ?k ?i|refine' M93.mm ?a ?l ?c ?k ?i);(case a=>k_is);(case l=>k_is);(case c=>k_is);(case k=>k_is);(case i=>k_is))
#print axioms PySem.Challenge.cw_floorfits_k93_whole_album_texts_holds
end
