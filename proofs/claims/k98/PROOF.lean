import PyProof.Rows.All
import Wide.All
import OpenK.AllK
import Wide.FinOn
import Lean
import PyProof.EqAt
import PyProof.EqKinds
import PyProof.TupleCall
import PyProof.StrWalks
import PyProof.FString5
import PyProof.Draws
import PyProof.EnumMake
import PyProof.TupleKey
import PySem.SetTable
import OpenK.KRaise
import OpenK.KOwn
import PyProof.Rows.TopTwo
import PyProof.RulesAs
import PyProof.RulesDel
import PyProof.ExcArgsOwn
import PyProof.ExcAttrAll.ValueError
import PyProof.Rows.CountFlat
import PyProof.SumWalk
import PyProof.Rows.SeqCalls
import KE.KEqDict
import PyProof.DictWalks
import PyProof.ZipIter
import KE.KRevIter
import PyProof.CollectIter
import PyProof.TupleOfGen
import PyProof.ListRange
import PyProof.WalkInts
import PyProof.AttrMissHeap
import KE.KDictOf
import KE.KDictSum
import PyProof.Rows.SortStr
import KE.KSortTup
import KE.KItemsList
import PyProof.Rows.StrNews
import PyProof.MeetsStr
import PyProof.StrBlockL
import PyProof.Rows.StrNews2
import PyProof.StrLawsTight
import PyProof.StrLawsChain
import PyProof.StrLawsNeg
import PyProof.TableCode
import PySem.Challenge.RW_floorfits_k98_whole_joined_tallies
set_option compiler.extract_closed false
set_option bootstrap.genMatcherCode false
set_option genSizeOf false
set_option genInjectivity false
theorem yAQ(h:True:=by rfl):True:=h
namespace yAQ
end yAQ
open yAQ renaming _auto_1→yAW
theorem yAE(h:True:=by decide):True:=h
namespace yAE
end yAE
open yAE renaming _auto_1→yAR
theorem yAT(h:True:=by intro _;rfl):True:=h
namespace yAT
end yAT
open yAT renaming _auto_1→yAU
theorem yAI(h:True:=by with_unfolding_all rfl):True:=h
namespace yAI
end yAI
open yAI renaming _auto_1→yAO
def yag:=@of_decide_eq_true
def yaz:=@decide_eq_true
def yaB:=@decide_eq_false
def yaT:=@decide_eq_true_eq
def ybz:=@beq_eq_false_iff_ne
def ybJ:=@beq_self_eq_true
def ybL:=@if_false
def yb2:=@if_true
def ycB:=@beq_iff_eq
def ycR:=@or_false
def ycW:=@decide_eq_false_iff_not
def yde:=@decide_eq_decide
def ydq:=@ne_true_of_eq_false
open PySem renaming wpAny_bind→yaa,wpAny_pure→yaf,wpAny_call_entry→yaL,mem_of_lookup→yaP,wpAny_callSpecial?_slot→yaU,wpAny_newObj_type→yaX,wpAny_holding→yaZ,wpAny_truthy_bool→ybd,wpAny_field→ybk,builtinLookup_eq_fast→ybm,wpAny_mono→ybr,wpAny_setField_rec→ybG,sizeLine_eq→ybH,wpAny_of_eq→ybQ,codeAny_builtin→ybR,tupleKind_room_in1→ybY,wpAny_seqItems→yb4,isSubtype_type→yb5,wpAny_setState_of→yb7,typeLookup_type→yb8,call_meets→yce,wpAny_pyIter_tuple→ych,wpAny_Call_Name_kw→ycj,wpAny_typeOf→ycm,wpAny_specialOf→ycn,typeIs_str→ycq,wpAny_attempt→ycs,wpAny_isInstance→ycy,call_meetsIn→ycF,wpAny_passesOwn→ycL,wpAny_rule→ycY,wpAny_pyIter_list→ycZ,wpAny_Call_method→yc1,wpAny_setField→yc6,codeAny_mono→yc8,plainId_quiet→ydg,wpAny_newList→ydh,wpAny_ite_split→ydp,wpAny_pyIter_slot→ydC,wpAny_standAt→ydD,signature?_of→ydF,typeIs_int→ydH
open Bool renaming and_eq_true→yab,false_eq_true→yaG,not_eq_true'→yaJ,false_ne_true→ybg,or_eq_true→ycS,eq_iff_iff→ydl
open List renaming getElem?_eq_getElem→yac,length_map→yae,mem_map→yah,size_toArray→yai,length_append→yak,mem_cons_of_mem→yal,mem_cons_self→yan,length_cons→yap,getElem?_eq_some_iff→yaq,getD_eq_getElem?_getD→yar,mem_cons→yau,map_cons→yaw,getElem?_map→yax,map_map→yay,getElem?_append_right→yaA,map_congr_left→yaC,mem_singleton→yaD,getElem?_eq_none→yaE,getElem?_append_left→yaF,mem_append_right→yaK,lookup_cons→yaM,getElem?_set_self→yaN,append_nil→yaO,length_set→yaS,mem_range→yaV,length_filter_le→yaW,mem_filter→yaY,eq_nil_of_length_eq_zero→ya1,length_replicate→ya2,find?_cons→ya3,getElem?_set_ne→ya4,not_mem_nil→ya8,flatten_cons→ya9,mem_append→ybb,all_eq_true→ybj,nodup_cons→ybp,mem_of_getElem?→ybt,take_of_length_le→yby,replicate_succ→ybA,append_assoc→ybB,ext_getElem?→ybC,range_succ→ybE,getElem?_drop→ybF,filter_cons→ybI,getElem_mem→ybK,length_nil→ybP,map_eq_nil_iff→ybT,mem_flatMap→ybW,all_cons→ybZ,filterMap_cons→yca,getElem?_replicate→ycb,mem_filterMap→yci,pairwise_cons→yck,map_append→ycp,length_range→ycr,getElem?_of_mem→ycu,take_length→ycx,countP_cons→ycz,getElem?_range→ycA,map_nil→ycE,foldl_cons→ycN,getElem?_cons_succ→ycT,pairwise_singleton→ycU,take_add_one→yc2,nodup_append→yc3,flatMap_cons→yc5,length_singleton→yc7,getElem?_toArray→ydb,mem_append_left→ydf,forIn_cons→ydj,length_reverse→ydo,countP_flatMap→ydr,drop_zero→ydw,foldl_append→ydB,any_cons→ydE
open PySem.Heap renaming get?_push_of_some→yad,get?_push_size→yam,lt_size→yao,size_push→ybc,get?_update_self→yb0
open Nat renaming le_refl→yaj,le_trans→yas,lt_of_lt_of_le→yat,ne_of_lt→yav,zero_le→yaR,ne_of_gt→ya6,lt_succ_of_lt→ybe,add_sub_cancel_left→ybf,lt_irrefl→ybi,mul_le_mul→ybn,zero_add→yb1,le_succ→yb3,lt_succ_self→ycd,le_of_lt→ycl,succ_mul→ycD,sub_self→ycI,lt_trichotomy→yc4,le_of_eq→ydt,le_of_succ_le→ydy
open Array renaming length_toList→yaH,getElem?_eq_getElem→yba,getElem?_toList→ybl,mem_toList_iff→ybs,getElem?_eq_some_iff→ybv,size_map→ybN,getElem?_eq_none→ybU,getElem?_map→ycP,toList_inj→ydd
open Option renaming some_ne_none→yaI,map_eq_some_iff→ybx,isSome_some→ydu,isSome_map→ydz
open Int renaming toNat_natCast→yaQ,eq_ofNat_of_zero_le→ya7,toNat_of_nonneg→ybS,emod_lt_of_pos→ycO,emod_nonneg→ydk
open PySem.W renaming mg_of→ya0,kia_one→ybh,plainGet_of→ydi,callWith_K→ydv
open PyProof.Rows renaming slot_tuple_getitem→ya5,callWith_type1→ybo,assignInOrder_cons→yds,listUpdate_at→ydG
open PySem.Obj renaming data_mapFields→ybq,isFreed_of_fields→yda,cls_mapFields→ydA
open PySem.Around renaming under_plainId→ybu
open PySem.Calls renaming callWith_builtin→ybw,spliced_cons→ybX,evalArgs_plain→yb6,call_function_entry→ycv,spliced_nil→yc0
open PySem.F renaming slot_dict_get→ybD,plainAttrs_list→ybM,slot_tuple_iterator_next→ybV,plainAttrs_dict→ycc,entry_dict_get→ycf,slot_str_split→ycg,called_set→yco,excBase_ValueError→yct,args_tuple_add_2→ycC,slot_list_append→ycG,type_list_append→ycH,slot_list_getattribute→ycJ,args_str_split_2→ycK,entry_tuple_add→ycM,entry_str_split→ycV,slot_tuple_add→ycX,slot_dict_pop→yc9,slot_tuple_mul→ydc,slot_int_rmul→ydm,slot_zip_next→ydn
open PyProof.Rows.F renaming plain_set_update_loop→ybO,entry_set_update_loop→ycw,plain_set_update_loop→ycQ
open List.Nodup renaming length_le_of_subset→yb9
open PySem.Value renaming isInt_shape→ydx
noncomputable section
set_option Elab.async false
set_option linter.all false
set_option maxRecDepth 100000
set_option maxHeartbeats 4000000
abbrev Z1:=Nat->Nat->Option Int
abbrev Z2:=List (List Int)
abbrev Z3:=List (PySem.Addr×PySem.Obj)
abbrev Z4:=List (Option Int)
abbrev Z5:=PySem.Value->PySem.Shared->Prop
abbrev Z6:=PySem.Str->Option PySem.Value
def S2.bdI{c k:Nat}(h:c<=k)(hk:k<=1000000):-1000000<=(c:Int)/\(c:Int)<=1000000:=⟨Int.le_trans (by decide) (Int.natCast_nonneg c),Int.ofNat_le.mpr (yas h hk)⟩
def S2.bdN{c k:Nat}(h:c<=k)(hk:k<=1000000):0<=(c:Int)/\(c:Int)<=1000000:=⟨Int.natCast_nonneg c,Int.ofNat_le.mpr (yas h hk)⟩
local macro_rules | `(tactic|omega)=> `(tactic|first|assumption|exact yas (by assumption) (by decide)|exact yat (by assumption) (by assumption)|exact yat (by assumption) (by decide)|exact ycl (by assumption)|exact S2.bdI (by assumption) (by decide)|exact yas (by assumption) (by assumption)|omega +splitDisjunctions)
namespace L2
open PySem PySem.Spec PyProof.Rows
noncomputable abbrev Key:=Sum Int Str
noncomputable def zjI:Key->Value->Bool
 |.inl k,v=>Value.isInt k v|.inr x,v=>Value.isStrOf x v
noncomputable def zBr(w:World):Key->Int
 |.inl k=>hashInt k|.inr x=>hashStr w x
theorem zaI:∀{k:Key}{v:Value},zjI k v=true->(∃i t,k=Sum.inl i/\v=Value.int i t)\/(∃x t,k=Sum.inr x/\v=Value.str x t)
 |.inl i,v,h=>by
  obtain⟨t,e⟩:=ydx (k:=i) (v:=v) h;exact .inl ⟨i,t,rfl,e⟩
 |.inr x,v,h=>by
  obtain⟨t,e⟩:=Value.isStrOf_shape (x:=x) (v:=v) h;exact .inr ⟨x,t,rfl,e⟩
def znJ(i:Int)(t:Tok):zjI (.inl i) (.int i t)=true:=by simp[zjI,Value.isInt]
def znI(x:Str)(t:Tok):zjI (.inr x) (.str x t)=true:=by simp[zjI,Value.isStrOf]
def zvx(a b:Int):decide ((Sum.inl a:Key)=Sum.inl b)=(a==b):=by
 by_cases e:a=b
 ·subst e;simp
 ·have h:¬ (Sum.inl a:Key)=Sum.inl b:=fun q=>e (Sum.inl.inj q)
  rw[yaB h];exact(ybz.mpr e).symm
def zvu(a b:Str):decide ((Sum.inr a:Key)=Sum.inr b)=decide (a=b):=by
 by_cases e:a=b
 ·subst e;simp
 ·have h:¬ (Sum.inr a:Key)=Sum.inr b:=fun q=>e (Sum.inr.inj q)
  rw[yaB h,yaB e]
def zvw(a:Int)(b:Str):decide ((Sum.inl a:Key)=Sum.inr b)=false:=yaB (fun q=>nomatch q)
def zvv(a:Str)(b:Int):decide ((Sum.inr a:Key)=Sum.inl b)=false:=yaB (fun q=>nomatch q)
def zaz(prog:Program)(w:World):PySem.KeyKind prog w Key where
 is:=zjI
 hash:=zBr w
 inj:=fun v a b f hb=>by
  rcases zaI f with⟨i,t,rfl,rfl⟩|⟨x,t,rfl,rfl⟩
  ·rcases zaI hb with⟨j,u,rfl,e⟩|⟨y,u,rfl,e⟩
   ·injection e with c _;rw[c]
   ·exact nomatch e
  ·rcases zaI hb with⟨j,u,rfl,e⟩|⟨y,u,rfl,e⟩
   ·exact nomatch e
   ·injection e with c _;rw[c]
 byValue:=fun k v h=>by
  rcases zaI h with⟨i,t,rfl,rfl⟩|⟨x,t,rfl,rfl⟩<;>rfl
 pyHash:=fun hv h=>by
  rcases zaI hv with⟨i,t,rfl,rfl⟩|⟨x,t,rfl,rfl⟩
  ·exact wpAny_pyHash_int h
  ·exact wpAny_pyHash_str h
 eqBool:=fun d hv h=>by
  rcases zaI d with⟨i,t,rfl,rfl⟩|⟨x,t,rfl,rfl⟩
  ·rcases zaI hv with⟨j,u,rfl,rfl⟩|⟨y,u,rfl,rfl⟩
   ·rw[zvx]at h;exact wpAny_eqBool_int h
   ·rw[zvw]at h;exact SeqAt.EqAt.int_str i t y u _ _ _ _ h
  ·rcases zaI hv with⟨j,u,rfl,rfl⟩|⟨y,u,rfl,rfl⟩
   ·rw[zvv]at h;exact SeqAt.EqAt.str_int x t j u _ _ _ _ h
   ·rw[zvu]at h;exact wpAny_eqBool_str h
 «strs»:=fun k x t v h=>by
  rcases zaI h with⟨i,u,rfl,e⟩|⟨y,u,rfl,e⟩
  ·exact nomatch e
  ·injection e with c _
   subst c
   cases v<;>rfl
def zjH(prog:Program)(w:World)(i:Int)(t:Tok):(zaz prog w).is (.inl i) (.int i t)=true:=znJ i t
def zjG(prog:Program)(w:World)(x:Str)(t:Tok):(zaz prog w).is (.inr x) (.str x t)=true:=znI x t
set_option genInjectivity true in
inductive V where
 |non|bl (b:Bool)|int (i:Int)|str (x:Str)|byt (b:Array UInt8)|flt (b:UInt64)|ref (a:Addr)|ty (n:String)
 deriving DecidableEq
noncomputable def zaV:V->Value->Prop
 |.non,u=>u=Value.none|.bl b,u=>u=Value.bool b|.int i,u=>∃t,u=Value.int i t|.str x,u=>∃t,u=Value.str x t|.byt b,u=>∃t,u=Value.bytes b t|.flt b,u=>∃t,u=Value.float b t|.ref a,u=>u=Value.ref a|.ty n,u=>u=Value.type n
noncomputable abbrev Vals:List V->List Value->Prop:=Paired zaV
theorem Vals.length(r:Vals xs us):xs.length=us.length:=Paired.length r
theorem Vals.get:∀{xs:List V}{us:List Value}{i:Nat}{x:V},Vals xs us->xs[i]?=some x->∃u,us[i]?=some u/\zaV x u
 |_,_,_,_,.nil,e=>by simp at e
 |_,_,0,_,.cons r _,e=>by simp at e;subst e;exact⟨_,rfl,r⟩
 |_,_,i+1,x,.cons _ t,e=>by
  obtain⟨u,h1,h2⟩:=Vals.get (i:=i) (x:=x) t (by simpa using e);exact⟨u,by simpa using h1,h2⟩
theorem Vals.append:∀{xs ys:List V}{us J:List Value},Vals xs us->Vals ys J->Vals (xs++ys) (us++J)
 |_,_,_,_,.nil,s=>s|_,_,_,_,.cons r t,s=>.cons r (Vals.append t s)
theorem Vals.take:∀{xs:List V}{us:List Value} (n:Nat),Vals xs us->Vals (xs.take n) (us.take n)
 |_,_,0,_=>.nil|_,_,_+1,.nil=>.nil|_,_,n+1,.cons r t=>.cons r (Vals.take n t)
theorem Vals.drop:∀{xs:List V}{us:List Value} (n:Nat),Vals xs us->Vals (xs.drop n) (us.drop n)
 |_,_,0,r=>r|_,_,_+1,.nil=>.nil|_,_,n+1,.cons _ t=>Vals.drop n t
noncomputable def zg1:Option V->Option Value->Prop
 |some v,some u=>zaV v u|none,none=>True|_,_=>False
noncomputable def KV{κ:Type}:List (κ×V)->List (κ×Value)->Prop:=Paired fun(p:κ×V) (q:κ×Value)=>p.1=q.1/\zaV p.2 q.2
noncomputable def kV:Key->V
 |.inl i=>.int i|.inr x=>.str x
set_option genInjectivity true in
inductive HO where
 |lst (xs:List V)
 |tup (xs:List V)
 |dK (kvs:List (Key×V))|dT (kvs:List (List Key×V))
 |set (S:Int->Bool) (n:Nat)
 |ins (C dx:Addr) (fs:List (Str×V))
 |own (x:Addr)
 |xd (fs:List (Str×V))
 |met (f x:Addr)
 |rng (lo hi:Int)
 |frz (o:Obj) (u:HO)
 |tbl (ps:Array Value)
 |ext (φ:Heap->Prop)
noncomputable abbrev Hp:=Addr->Option HO
noncomputable def upd(H:Hp)(a:Addr)(o:HO):Hp:=fun b=>if b=a then some o else H b
def zat:upd H a o a=some o:=by unfold upd;rw[if_pos rfl]
def zai(h:b≠a):upd H a o b=H b:=by unfold upd;rw[if_neg h]
def zrk:upd (upd H a o) a u=upd H a u:=by
 funext b;unfold upd;split<;>rfl
def zxX{H:Hp}{a b:Addr}{o u:HO}(h:H a=some o)(h':H b=some u)(d:o≠u):a≠b:=by
 intro e;subst e;rw[h]at h';exact d (Option.some.inj h')
def zam{H:Hp}{a b:Addr}{o:HO}(h:H a=some o)(h':H b=none):a≠b:=by
 intro e;subst e;rw[h]at h';cases h'
noncomputable def zoK(h:Heap)(a:Addr)(items:Array Value):Prop:=∃o,h.get? a=some o/\o.cls=.type "tuple" /\ ∃n,o.data=.seq items n/\o.dict=none
theorem zoK.t{h:Heap}{a:Addr}{items:Array Value}:zoK h a items->IsTup h a items|⟨o,e,c,n,d,_⟩=>⟨o,e,c,n,d⟩
def zoK.new(h:Heap)(items:Array Value):zoK (h.push {cls:=.type "tuple",data:=.seq items}) h.objs.size items:=⟨_,yam _ rfl,rfl,_,rfl,rfl⟩
section
variable(P:Program)(w:World)
def zba(H:Hp)(h:Heap)(a:Addr):HO->Prop
 |.lst xs=>xs.length<=sizeLine/\∃(aa:List Value) (n:Nat),Vals xs aa/\h.get? a=some {cls:=.type "list",data:=.seq aa.toArray n}|.tup xs=>xs.length<=sizeLine/\∃aa:List Value,Vals xs aa/\zoK h a aa.toArray|.dK kvs=>kvs.length<=sizeLine/\(a==sysModules)=false/\∃vs,KV kvs vs/\h.DictOf (zaz P w) a vs|.dT kvs=>kvs.length<=sizeLine/\(a==sysModules)=false/\∃xs:List (List Key×Addr×Value),
   Paired (fun(p:List Key×V) (q:List Key×Addr×Value)=>p.1=q.1/\H q.2.1=some (.tup (p.1.map kV))/\zaV p.2 q.2.2) kvs xs ∧
   ∃o es ep,h.get? a=some o/\o.ExactDict/\o.data=.dict es ep/\es.toList=xs.map (entryOfKey (tupleKind (zaz P w)))/\(xs.map (·.1)).Nodup
 |.set S n=>h.SetOf (intKind P w) a S n|.ins C dx fs=>H dx=some (.own a)/\fs.length<=1000/\dx≠a/\h.get? a=some (PySem.W.instObj C dx) ∧
   ∃mA,h.Ns1 dx mA/\(∀f,zg1 (fs.lookup f) (mA f))/\PySem.Within mA (fs.map (·.1))
 |.own _=>∃o,h.get? a=some o|.xd fs=>∃mA,h.Ns1 a mA/\∀f,zg1 (fs.lookup f) (mA f)|.rng lo hi=>∃t u v,h.get? a=some {cls:=.type "range",data:=.fields #[.int lo t,.int hi u,.int 1 v]}|.frz o u=>h.get? a=some o/\zba H h a u|.tbl ps=>h.get? a=some {cls:=.none,data:=.fields ps}|.met f x=>h.get? a=some (PySem.W.methodObj (.ref f) (.ref x))|.ext φ=>φ h/\(∃o,h.get? a=some o)/\∀h1 h2:Heap,φ h1->(∀o,h1.get? a=some o->h2.get? a=some o)->φ h2
noncomputable def HOk(H:Hp)(h:Heap):Prop:=∀a o,H a=some o->zba P w H h a o
end
section
variable{P:Program}{w:World}{H H':Hp}{h h':Heap}{a:Addr}{o:HO}
theorem zba.lt(x:zba P w H h a o):a<h.objs.size:=by
 cases o with
 |lst xs=>obtain⟨_,_,_,_,e⟩:=x;exact yao e|tup xs=>obtain⟨_,_,_,p⟩:=x;exact p.t.lt|dK kvs=>obtain⟨_,_,_,_,o,_,_,e,_⟩:=x;exact yao e|dT kvs=>obtain⟨_,_,_,_,o,_,_,e,_⟩:=x;exact yao e|set S n=>obtain⟨o,_,_,_,e,_⟩:=x;exact yao e|ins C dx fs=>obtain⟨_,_,_,e,_⟩:=x;exact yao e|own y=>obtain⟨_,e⟩:=x;exact yao e|xd fs=>obtain⟨_,⟨_,_,_,e,_⟩,_⟩:=x;exact yao e|rng lo hi=>obtain⟨_,_,_,e⟩:=x;exact yao e|frz ob u=>obtain⟨e,_⟩:=x;exact yao e|tbl ps=>exact yao (show h.get? a=some _ from x)|met f y=>exact yao (show h.get? a=some _ from x)|ext φ=>obtain⟨_,⟨_,e⟩,_⟩:=x;exact yao e
theorem Paired.mapP{α β:Type}{F G:α->β->Prop}:∀{U:List α}{J:List β},Paired F U J->(∀a b,F a b->G a b)->Paired G U J
 |_,_,.nil,_=>.nil|_,_,.cons r t,f=>.cons (f _ _ r) (Paired.mapP t f)
def zba.stay(x:zba P w H h a o)(k:∀b u,(b=a\/H b=some (.own a))->h.get? b=some u->h'.get? b=some u)
  (ho:∀b,H b=some (.own a)->H' b=some (.own a)) (ht:∀b xs,H b=some (.tup xs)->H' b=some (.tup xs)):zba P w H' h' a o:=by
 induction o with
 |lst xs=>obtain⟨z,aa,n,r,e⟩:=x;exact⟨z,aa,n,r,k _ _ (.inl rfl) e⟩|tup xs=>obtain⟨z,aa,r,ob,e,c⟩:=x;exact⟨z,aa,r,ob,k _ _ (.inl rfl) e,c⟩|dK kvs=>obtain⟨z,y,vs,r,ob,es,ep,e,c⟩:=x;exact⟨z,y,vs,r,ob,es,ep,k _ _ (.inl rfl) e,c⟩|dT kvs=>
  obtain⟨z,y,xs,r,ob,es,ep,e,c⟩:=x;exact⟨z,y,xs,Paired.mapP r fun p q z=>⟨z.1,ht _ _ z.2.1,z.2.2⟩,ob,es,ep,k _ _ (.inl rfl) e,c⟩
 |set S n=>obtain⟨ob,es,ep,t,e,c⟩:=x;exact⟨ob,es,ep,t,k _ _ (.inl rfl) e,c⟩|ins C dx fs=>
  obtain⟨d,z,ne,e,mA,⟨g,es,ep,e2,c⟩,r⟩:=x;exact⟨ho _ d,z,ne,k _ _ (.inl rfl) e,mA,⟨g,es,ep,k _ _ (.inr d) e2,c⟩,r⟩
 |own y=>obtain⟨ob,e⟩:=x;exact⟨ob,k _ _ (.inl rfl) e⟩|xd fs=>obtain⟨mA,⟨g,es,ep,e,c⟩,r⟩:=x;exact⟨mA,⟨g,es,ep,k _ _ (.inl rfl) e,c⟩,r⟩|rng lo hi=>obtain⟨t,u,v,e⟩:=x;exact⟨t,u,v,k _ _ (.inl rfl) e⟩|frz ob u i=>obtain⟨e,q⟩:=x;exact⟨k _ _ (.inl rfl) e,i q⟩|tbl ps=>
  have e:h.get? a=some {cls:=.none,data:=.fields ps}:=x;show h'.get? a=some {cls:=.none,data:=.fields ps};exact k a _ (.inl rfl) e
 |met f y=>
  have e:h.get? a=some (PySem.W.methodObj (.ref f) (.ref y)):=x;show h'.get? a=some (PySem.W.methodObj (.ref f) (.ref y));exact k a _ (.inl rfl) e
 |ext φ=>obtain⟨p,⟨o,e⟩,st⟩:=x;exact⟨st _ _ p fun o q=>k _ _ (.inl rfl) q,⟨o,k _ _ (.inl rfl) e⟩,st⟩
theorem HOk.lt(x:HOk P w H h)(e:H a=some o):a<h.objs.size:=(x a o e).lt
def HOk.fresh(x:HOk P w H h)(e:h.objs.size<=a):H a=none:=by
 cases q:H a with
 |none=>rfl|some u=>exact absurd (yat (x.lt q) e) (ybi _)
def HOk.kept(x:HOk P w H h)(k:∀b u,h.get? b=some u->h'.get? b=some u):HOk P w H h':=fun a o e=>
 (x a o e).stay (fun b u _ q=>k b u q) (fun _ q=>q) fun _ _ q=>q
def HOk.laid(x:HOk P w H h)(k:∀b u,h.get? b=some u->h'.get? b=some u)(J:h.objs.size<=a)(new:zba P w (upd H a o) h' a o):HOk P w (upd H a o) h':=fun b u e=>by
 have d:=x.fresh J
 by_cases hb:b=a
 ·subst hb;rw[zat]at e;cases e;exact new
 ·rw[zai hb]at e
  exact(x b u e).stay (fun c v _ q=>k c v q) (fun c q=>by rw[zai (zam q d)];exact q) fun c xs q=>by rw[zai (zam q d)];exact q
end
noncomputable def Rd(H:Hp)(a:Addr)(u:HO):Prop:=H a=some u\/∃o,H a=some (.frz o u)
def Rd.ok(r:Rd H a u)(x:HOk P w H h):zba P w H h a u:=by
 rcases r with r|⟨o,r⟩
 ·exact x a u r
 ·obtain⟨_,q⟩:=x a _ r;exact q
noncomputable def Mut:Option HO->Prop
 |some (.lst _)=>True|some (.dK _)=>True|some (.dT _)=>True|some (.set _ _)=>True|some (.ins _ _ _)=>True|some (.ext _)=>True|_=>False
section
variable{P:Program}{w:World}{H:Hp}{h h':Heap}{x e:Addr}{o':HO}
def HOk.write(ok:HOk P w H h)(mu:Mut (H x))(he:e=x\/H e=some (.own x))(k:∀b u,b≠e->h.get? b=some u->h'.get? b=some u)(J:∃u,h'.get? e=some u)
  (new:zba P w (upd H x o') h' x o'):HOk P w (upd H x o') h':=fun b u q=>by
 have d:∀c y,H c=some (.own y)->c≠x:=fun c y r z=>by subst z;rwa[r]at mu
 have f:∀c xs,H c=some (.tup xs)->c≠x:=fun c xs r z=>by subst z;rwa[r]at mu
 by_cases hb:b=x
 ·subst hb;rw[zat]at q;cases q;exact new
 ·rw[zai hb]at q
  by_cases a:b=e
  ·have i:H b=some (.own x):=by
    rcases he with z|z
    ·exact absurd (a.trans z) hb
    ·rw[a];exact z
   rw[q]at i;cases i;obtain⟨v,hv⟩:=J;exact⟨v,by rw[a];exact hv⟩
  ·refine(ok b u q).stay (fun c v g r=>k c v ?_ r) (fun c r=>by rw[zai (d c b r)];exact r) fun c xs r=>by rw[zai (f c xs r)];exact r
   rcases g with rfl|g
   ·exact a
   ·rintro rfl
    rcases he with z|z
    ·exact d c b g z
    ·rw[g]at z;cases z;exact hb rfl
end
structure Un(fs ex:List Addr)(H H':Hp)(h h':Heap):Prop where
 keep:∀b o,h.get? b=some o->H b=none->b ∉ fs->b ∉ ex->h'.get? b=some o
 slot:∀b o,h.get? b=some o->H b=none->b∈fs->b ∉ ex->∃sl,h'.get? b=some {o with slots:=sl}
 free:∀b o,h.get? b=some o->H b=none->b ∉ ex->H' b=none
 there:∀b o,h.get? b=some o->b ∉ ex->∃o',h'.get? b=some o'
 tups:∀b xs,H b=some (.tup xs)->H' b=some (.tup xs)
 frzs:∀b o u,H b=some (.frz o u)->H' b=some (.frz o u)
 tbls:∀b ps,H b=some (.tbl ps)->∃more,H' b=some (.tbl (ps++more))
section
variable{fs fs' ex ex':List Addr}{H H1 H2:Hp}{h h1 h2 h':Heap}{a x e:Addr}{o:HO}
def Un.any(u:Un fs ex H H1 h h1)(q:h.get? b=some ob)(n:H b=none)(J:b ∉ ex):∃sl,h1.get? b=some {ob with slots:=sl}:=by
 by_cases hb:b∈fs
 ·exact u.slot b ob q n hb J
 ·exact⟨ob.slots,u.keep b ob q n hb J⟩
def Un.kept(k:∀b u,h.get? b=some u->h'.get? b=some u):Un fs ex H H h h':=
 ⟨fun b ob q _ _ _=>k b ob q,fun b ob q _ _ _=>⟨ob.slots,k b ob q⟩,fun _ _ _ n _=>n,fun b ob q _=>⟨ob,k b ob q⟩,fun _ _ q=>q,fun _ _ _ q=>q,fun _ ps q=>⟨#[],by rw[q];simp⟩⟩
def Un.refl:Un fs ex H H h h:=Un.kept fun _ _ q=>q
def Un.laid(k:∀b u,h.get? b=some u->h'.get? b=some u)(U:h.objs.size<=a)(J:H a=none):Un fs ex H (upd H a o) h h' where
 keep:=fun b u q _ _ _=>k b u q
 slot:=fun b u q _ _ _=>⟨u.slots,k b u q⟩
 free:=fun b u q n _=>by rw[zai (yav (yat (yao q) U))];exact n
 there:=fun b u q _=>⟨u,k b u q⟩
 tups:=fun b xs q=>by rw[zai (zam q J)];exact q
 frzs:=fun b u xs q=>by rw[zai (zam q J)];exact q
 tbls:=fun b ps q=>⟨#[],by rw[zai (zam q J),q];simp⟩
def Un.write(mu:Mut (H x))(he:e=x\/H e=some (.own x))(k:∀b u,b≠e->h.get? b=some u->h'.get? b=some u)(J:∃u,h'.get? e=some u):Un fs ex H (upd H x o) h h':=by
 have c:∀b,H b=none->b≠x:=fun b n z=>by subst z;rwa[n]at mu
 have hb:∀b,H b=none->b≠e:=fun b n z=>by
  subst z
  rcases he with r|r
  ·exact c b n r
  ·rw[n]at r;cases r
 have hm:∀b u,H b=some u->¬ Mut (some u)->b≠x:=fun b u q nm z=>by subst z;rw[q]at mu;exact nm mu
 refine⟨fun b u q n _ _=>k b u (hb b n) q,fun b u q n _ _=>⟨u.slots,k b u (hb b n) q⟩,fun b u q n _=>by rw[zai (c b n)];exact n,fun b u q _=>?_,
  fun b xs q=>by rw[zai (hm b _ q fun z=>z)];exact q,fun b u xs q=>by rw[zai (hm b _ q fun z=>z)];exact q,fun b ps q=>⟨#[],by rw[zai (hm b _ q fun z=>z),q];simp⟩⟩
 by_cases a:b=e
 ·subst a;exact J
 ·exact⟨u,k b u a q⟩
end
noncomputable def trk(h:Heap)(H:Hp):List Addr:=(List.range h.objs.size).filter fun a=>(H a).isSome
def zpU(h:Heap)(H:Hp):Heap:=PySem.W.hideAll h (trk h H)
def znY(h:Heap)(H:Hp):(zpU h H).objs.size=h.objs.size:=PySem.W.hideAll_size _ _
def zpT(e:h.get? b=some o)(n:H b=none):(zpU h H).get? b=some o:=
 PySem.W.hideAll_get _ e fun hm=>by
  have q:(H b).isSome=true:=(yaY.mp hm).2;rw[n]at q;simp at q
def zsy(e:(zpU h H).get? b=some o):h.get? b=some o/\H b=none:=by
 have a:h.get? b=some o:=PySem.W.of_hideAll (trk h H) e;refine⟨a,?_⟩
 cases q:H b with
 |none=>rfl|some x=>
  have hm:b∈trk h H:=yaY.mpr ⟨yaV.mpr (yao a),by simp[q]⟩;have z:(zpU h H).get? b=none:=PySem.W.hideAll_none (trk h H) hm;rw[z]at e;cases e
noncomputable def ztj(g h:Heap)(L:Addr):List (Addr×Obj):=(List.range h.objs.size).filterMap fun a=>if a=L\/(g.get? a).isSome=true then none else(h.get? a).map fun o=>(a,o)
def zcY(g h:Heap)(L d:Addr):List (Addr×Obj):=(ztj g h L).filter fun p=>decide (p.1≠d)
structure Mod(K:PySem.W.Frag)(mg:Z6)(base:Heap):Prop where
 kin:K.In base
 glob:base.Ns mainGlobals mg
 blt:∃mb,base.Ns builtinsNs mb/\∀x:Str,x ≠ "__name__" -> mb x=bootBuiltins x
 nolimit:base.NoLimit
structure Cx where
 prog:Program
 w:World
 K:PySem.W.Frag
 mg:Str->Option Value
 base:Heap
 A:Around
 N:List Str
 s₀:Shared
 H₀:Hp
 env:Env
 outer:List Env
 stack:List Env
 ex:List Addr
 fn:Str->Bool
 calm:Bool
 pn:List (Addr×Obj)
 xe:Value->Shared->Prop
noncomputable def frs(l:List Env):List Addr:=l.filterMap (·.frame)
noncomputable abbrev Cx.fs(X:Cx):List Addr:=frs X.outer
noncomputable def Vis(sc:Scope)(x:Str):Prop:=sc.names.lookup x=some .local\/sc.names.lookup x=some .cell\/sc.names.lookup x=some .free
noncomputable def Loc(sc:Scope)(x:Str):Prop:=sc.names.lookup x=some .local\/sc.names.lookup x=some .cell
noncomputable def zCr(env:Env)(h:Heap)(m:Z6)(x:Str)(u:Value):Prop:=
 (env.kindOf x=some .local/\m x=some u)\/((env.kindOf x=some .cell\/env.kindOf x=some .free)/\∃c,env.cells.lookup x=some c/\h.IsCell c (some u))
structure Cx.Ok(X:Cx):Prop where
 mod:Mod X.K X.mg X.base
 kind:X.env.scope.kind=.function
 glob:X.env.globals=mainGlobals
 blt:X.env.builtins=builtinsNs
 above:X.s₀.heap.objs.size<=X.env.locals
 inj:∀x y c,X.env.cells.lookup x=some c->X.env.cells.lookup y=some c->x=y
 has:∀x,(X.env.kindOf x=some .cell\/X.env.kindOf x=some .free)->∃c,X.env.cells.lookup x=some c
 cab:∀x c,X.fn x=true->X.env.cells.lookup x=some c->X.s₀.heap.objs.size<=c
 hd:X.calm=true->X.A.handled=none
 frames:X.A.frames=some X.stack
 stk:X.stack=X.outer\/(X.stack=X.env::X.outer/\X.env.frame=some X.env.locals)
 exf:∀b∈X.ex,b≠X.env.locals/\∀x c,X.env.cells.lookup x=some c->c≠b
 bs:∀b o,X.base.get? b=some o->X.s₀.heap.get? b=some o/\X.H₀ b=none
 bsz:X.base.objs.size<=X.s₀.heap.objs.size
 noex:∀b o,X.base.get? b=some o->b ∉ X.ex
 exfs:∀b∈X.ex,b ∉ X.fs
 funs:X.s₀.heap.FunFrames X.base X.outer
 frf:∀b∈X.fs,X.H₀ b=none
structure Inv(X:Cx)(pins:Z3)(σ:List (Option V))(H:Hp)(s:Shared):Prop where
 ok:X.Ok
 os:s.os=X.s₀.os
 bare:AllBare s.gens
 base:Un X.fs X.ex X.H₀ H X.s₀.heap s.heap
 loc:∃m,s.heap.Ns X.env.locals m/\∀(i:Nat) (x:Str) (v:V),X.N[i]?=some x->σ[i]?=some (some v)->Vis X.env.scope x->∃u,zaV v u/\zCr X.env s.heap m x u
 cell:∀x c,X.env.cells.lookup x=some c->∃v,s.heap.IsCell c v
 free:H X.env.locals=none
 freeC:∀x c,X.env.cells.lookup x=some c->H c=none
 pin:∀p∈X.pn++pins,s.heap.get? p.1=some p.2/\H p.1=none/\p.1≠X.env.locals/\p.1 ∉ X.fs/\∀v,p.2.data≠.cell v
 hok:HOk X.prog X.w H s.heap
 len:σ.length=X.N.length
section
variable{X:Cx}{pins:Z3}{σ:List (Option V)}{H H':Hp}{s:Shared}{h':Heap}
def Cx.Ok.nofr(ok:X.Ok)(e:X.base.get? b=some o):b ∉ X.fs:=fun hb=>by
 have:=(ok.funs.mem hb).1;rw[e]at this;cases this
theorem Inv.bs(I:Inv X pins σ H s):∀b o,X.base.get? b=some o->s.heap.get? b=some o/\H b=none:=fun b o e=>
 ⟨I.base.keep b o (I.ok.bs b o e).1 (I.ok.bs b o e).2 (I.ok.nofr e) (I.ok.noex b o e),I.base.free b o (I.ok.bs b o e).1 (I.ok.bs b o e).2 (I.ok.noex b o e)⟩
def Inv.bk(I:Inv X pins σ H s):∀b o,X.base.get? b=some o->s.heap.get? b=some o:=fun b o e=>(I.bs b o e).1
theorem Inv.mod(I:Inv X pins σ H s):Mod X.K X.mg X.base:=I.ok.mod
def Inv.kIn(I:Inv X pins σ H s):X.K.In s.heap:=I.ok.mod.kin.keeps I.bk
theorem Inv.lt(I:Inv X pins σ H s):X.env.locals<s.heap.objs.size:=let ⟨_,a,_⟩:=I.loc;a.lt
def Inv.sz(I:Inv X pins σ H s):X.s₀.heap.objs.size<=s.heap.objs.size:=yas I.ok.above (ycl I.lt)
def Inv.nofs(I:Inv X pins σ H s)(h:s.heap.objs.size<=a):a ∉ X.fs:=fun hb=>by
 obtain⟨_,o,b,_⟩:=I.ok.funs.mem hb;exact absurd (yat (yao b) (yas I.sz h)) (ybi _)
def Inv.cne(I:Inv X pins σ H s):∀x c,X.env.cells.lookup x=some c->c≠X.env.locals:=fun x c e z=>by
 obtain⟨v,o,d,hd⟩:=I.cell x c e;obtain⟨m,⟨o',es,ep,a,b,_⟩,_⟩:=I.loc;rw[z,a]at d;cases d;rw[b]at hd;cases hd
theorem Inv.funs(I:Inv X pins σ H s):s.heap.FunFrames X.base X.outer:=by
 have all:∀(l:List Env),(∀b∈frs l,b∈X.fs)->X.s₀.heap.FunFrames X.base l->s.heap.FunFrames X.base l:=by
  intro l
  induction l with
  |nil=>intro _ _;trivial|cons env r c=>
   intro hs h;obtain⟨hk,⟨L,o,hf,g,f,hd⟩,d⟩:=h;have a:L∈X.fs:=hs L (by unfold frs;rw[yca,hf];exact yan);obtain⟨i,e⟩:=I.base.slot L o f (I.ok.frf L a) a fun z=>I.ok.exfs L z a
   exact⟨hk,⟨L,_,hf,g,e,hd⟩,c (fun b hb=>hs b (by unfold frs;rw[yca,hf];exact yal _ hb)) d⟩
 exact all X.outer (fun _ hb=>hb) I.ok.funs
theorem Inv.stack(I:Inv X pins σ H s):s.heap.FunFrames X.base X.stack:=by
 rcases I.ok.stk with e|⟨e,hf⟩
 ·rw[e];exact I.funs
 ·rw[e];obtain⟨m,a,_⟩:=I.loc;refine .cons (by rw[I.ok.kind];decide) hf a ?_ I.funs;exact Heap.get?_none_of_le (yas I.ok.bsz I.ok.above)
def Inv.stkSub(I:Inv X pins σ H s):∀b∈frs X.stack,b∈X.env.locals::X.fs:=fun b hb=>by
 rcases I.ok.stk with e|⟨e,hf⟩
 ·rw[e]at hb;exact yal _ hb
 ·rw[e]at hb;unfold frs at hb;rwa[yca,hf]at hb
def Inv.stkFree(I:Inv X pins σ H s):∀b∈frs X.stack,H b=none:=fun b hb=>by
 rcases yau.mp (I.stkSub b hb)with e|hb
 ·rw[e];exact I.free
 ·obtain⟨_,o,a,_⟩:=I.ok.funs.mem hb;exact I.base.free b o a (I.ok.frf b hb) fun z=>I.ok.exfs b z hb
def Inv.step{g':Array GenState}{t':Nat}{d':Drawn}{ch:List Addr}(I:Inv X pins σ H s)
  (J:∀b∈ch,(b∈X.ex\/X.s₀.heap.objs.size<=b)/\b≠X.env.locals/\(∀x c,X.env.cells.lookup x=some c->c≠b)/\∀p∈X.pn++pins,p.1≠b)
  (keep:∀b o,b≠X.env.locals->b ∉ X.fs->b ∉ ch->s.heap.get? b=some o->H b=none->h'.get? b=some o)
  (slot:∀b o,b≠X.env.locals->b∈X.fs->b ∉ ch->s.heap.get? b=some o->H b=none->∃sl,h'.get? b=some {o with slots:=sl}) (free:∀b o,b ∉ ch->s.heap.get? b=some o->H b=none->H' b=none)
  (there:∀b o,b ∉ ch->s.heap.get? b=some o->∃o',h'.get? b=some o')
  (tups:∀b xs,H b=some (.tup xs)->H' b=some (.tup xs)) (frzs:∀b o u,H b=some (.frz o u)->H' b=some (.frz o u)) (tbls:∀b ps,H b=some (.tbl ps)->∃more,H' b=some (.tbl (ps++more)))
  (ns:∀m,s.heap.Ns X.env.locals m->h'.Ns X.env.locals m) (hok:HOk X.prog X.w H' h') (hg:AllBare g'):
  Inv X pins σ H' {s with heap:=h',gens:=g',drawn:=d',toks:=t'}:=by
 have y:∀b o,X.s₀.heap.get? b=some o->b≠X.env.locals:=fun b o e=>yav (yat (yao e) I.ok.above)
 have h:∀b o,X.s₀.heap.get? b=some o->b ∉ X.ex->b ∉ ch:=fun b o e a hb=>by
  rcases(J b hb).1 with z|z
  ·exact a z
  ·exact absurd (yat (yao e) z) (ybi _)
 have g:∀x c,X.env.cells.lookup x=some c->∀v,s.heap.IsCell c v->h'.IsCell c v:=fun x c e v ⟨o,t,hd⟩=>by
  have f:c ∉ ch:=fun z=>(J c z).2.2.1 x c e rfl
  by_cases D:c∈X.fs
  ·obtain⟨sl,q⟩:=slot c o (I.cne x c e) D f t (I.freeC x c e);exact⟨_,q,hd⟩
  ·exact⟨o,keep c o (I.cne x c e) D f t (I.freeC x c e),hd⟩
 refine⟨I.ok,I.os,hg,⟨fun b o e n hb a=>?_,fun b o e n hb a=>?_,fun b o e n a=>?_,fun b o e a=>?_,fun b xs e=>tups b xs (I.base.tups b xs e),fun b o xs e=>frzs b o xs (I.base.frzs b o xs e),fun b ps e=>?_⟩,?_,fun x c e=>?_,?_,fun x c e=>?_,fun p C=>?_,hok,I.len⟩
 ·exact keep b o (y b o e) hb (h b o e a) (I.base.keep b o e n hb a) (I.base.free b o e n a)
 ·obtain⟨sl,j⟩:=I.base.slot b o e n hb a;obtain⟨A,e2⟩:=slot b _ (y b o e) hb (h b o e a) j (I.base.free b o e n a);exact⟨A,e2⟩
 ·obtain⟨o',j⟩:=I.base.there b o e a;exact free b o' (h b o e a) j (I.base.free b o e n a)
 ·obtain⟨o',j⟩:=I.base.there b o e a;exact there b o' (h b o e a) j
 ·obtain⟨F,j⟩:=I.base.tbls b ps e;obtain⟨E,e2⟩:=tbls b _ j;exact⟨F++E,by rw[e2,Array.append_assoc]⟩
 ·obtain⟨m,G,K⟩:=I.loc;refine⟨m,ns m G,fun i x v j e2 L=>?_⟩;obtain⟨u,r,l⟩:=K i x v j e2 L;refine⟨u,r,?_⟩
  rcases l with l|⟨k,c,e,z⟩
  ·exact .inl l
  ·exact .inr ⟨k,c,e,g x c e _ z⟩
 ·obtain⟨v,z⟩:=I.cell x c e;exact⟨v,g x c e v z⟩
 ·obtain⟨m,⟨o,_,_,t,_⟩,_⟩:=I.loc;exact free _ o (fun z=>(J _ z).2.1 rfl) t I.free
 ·obtain⟨v,o,t,hd⟩:=I.cell x c e;exact free c o (fun z=>(J c z).2.2.1 x c e rfl) t (I.freeC x c e)
 ·obtain⟨e,n,ne,B,d⟩:=I.pin p C;have f:p.1 ∉ ch:=fun z=>(J p.1 z).2.2.2 p C rfl
  exact⟨keep p.1 p.2 ne B f e n,free p.1 p.2 f e n,ne,B,d⟩
def Inv.un(I:Inv X pins σ H s)(u:Un X.fs [] H H' s.heap h')(hok:HOk X.prog X.w H' h'):Inv X pins σ H' {s with heap:=h',toks:=t'}:=by
 obtain⟨m,⟨o,es,ep,d,r⟩,_⟩:=id I.loc;obtain⟨g,f⟩:=u.any d I.free (by simp)
 exact I.step (g':=s.gens) (d':=s.drawn) (ch:=[]) (fun _ z=>nomatch z) (fun b o _ hb _ e n=>u.keep b o e n hb (by simp)) (fun b o _ hb _ e n=>u.slot b o e n hb (by simp)) (fun b o _ e n=>u.free b o e n (by simp)) (fun b o _ e=>u.there b o e (by simp)) u.tups u.frzs u.tbls (fun h hm=>by
  obtain⟨o',es',c,a,r'⟩:=hm;rw[d]at a;cases a
  exact⟨_,es',c,f,r'⟩) hok I.bare
def Inv.call(I:Inv X pins σ H s)(u:Un (frs X.stack) ch H H' s.heap h')(hok:HOk X.prog X.w H' h')(hg:AllBare g')
  (J:∀b∈ch,(b∈X.ex\/X.s₀.heap.objs.size<=b)/\b≠X.env.locals/\(∀x c,X.env.cells.lookup x=some c->c≠b)/\∀p∈X.pn++pins,p.1≠b):
  Inv X pins σ H' {s with heap:=h',gens:=g',drawn:=d',toks:=t'}:=by
 obtain⟨m,⟨o,es,ep,h,r⟩,_⟩:=id I.loc;obtain⟨i,f⟩:=u.any h I.free fun z=>(J _ z).2.1 rfl
 exact I.step (ch:=ch) J (fun b o f hb a e n=>u.keep b o e n (fun z=>(yau.mp (I.stkSub b z)).elim f hb) a) (fun b o _ _ a e n=>u.any e n a) (fun b o a e n=>u.free b o e n a) (fun b o a e=>u.there b o e a) u.tups u.frzs u.tbls (fun j hm=>by
  obtain⟨o',es',g,d,r'⟩:=hm;rw[h]at d;cases d
  exact⟨_,es',g,f,r'⟩) hok hg
def Inv.turned(I:Inv X pins σ H s)(k:∀b o,b≠it->s.heap.get? b=some o->h'.get? b=some o)(U:H it=none)(J:it≠X.env.locals)
  (h1:it∈X.ex\/X.s₀.heap.objs.size<=it) (h2:∀x c,X.env.cells.lookup x=some c->c≠it) (h3:∀p∈X.pn++pins,p.1≠it):Inv X pins σ H {s with heap:=h',toks:=t'}:=by
 have d:∀b u,H b=some u->b≠it:=fun b u e z=>by rw[z,U]at e;cases e
 refine I.step (g':=s.gens) (d':=s.drawn) (ch:=[it]) (fun b hb=>?_) (fun b o _ _ a e _=>k b o (fun z=>a (by simp[z])) e) (fun b o _ _ a e _=>⟨o.slots,k b o (fun z=>a (by simp[z])) e⟩) (fun _ _ _ _ n=>n)
  (fun b o a e=>⟨o,k b o (fun z=>a (by simp[z])) e⟩) (fun _ _ e=>e) (fun _ _ _ e=>e) (fun b ps e=>⟨#[],by rw[e];simp⟩) (fun m hm=>?_) (fun b u e=>?_) I.bare
 ·have e:b=it:=by simpa using hb
  subst e;exact⟨h1,J,h2,h3⟩
 ·obtain⟨o,es,ep,f,r⟩:=hm;exact⟨o,es,ep,k _ o (Ne.symm J) f,r⟩
 ·refine(I.hok b u e).stay (fun c v a q=>k c v ?_ q) (fun _ q=>q) fun _ _ q=>q
  rcases a with z|z
  ·rw[z];exact d b u e
  ·exact d c _ z
def Inv.tok(I:Inv X pins σ H s)(t:Nat):Inv X pins σ H {s with toks:=t}:=I.un (h':=s.heap) (t':=t) Un.refl I.hok
theorem Inv.kept(I:Inv X pins σ H s)(k:∀b u,s.heap.get? b=some u->h'.get? b=some u):Inv X pins σ H {s with heap:=h',toks:=t'}:=I.un (Un.kept k) (I.hok.kept k)
theorem Inv.laid(I:Inv X pins σ H s)(k:∀b u,s.heap.get? b=some u->h'.get? b=some u)(J:s.heap.objs.size<=a)(new:zba X.prog X.w (upd H a o) h' a o):
  Inv X pins σ (upd H a o) {s with heap:=h',toks:=t'}:=I.un (Un.laid k J (I.hok.fresh J)) (I.hok.laid k J new)
theorem Inv.write(I:Inv X pins σ H s)(mu:Mut (H x))(he:e=x\/H e=some (.own x))(k:∀b u,b≠e->s.heap.get? b=some u->h'.get? b=some u)(J:∃u,h'.get? e=some u)
  (new:zba X.prog X.w (upd H x o) h' x o):Inv X pins σ (upd H x o) {s with heap:=h',toks:=t'}:=I.un (Un.write mu he k J) (I.hok.write mu he k J new)
def Inv.pins_of(I:Inv X pins σ H s)(h:∀p∈J,s.heap.get? p.1=some p.2/\H p.1=none/\p.1≠X.env.locals/\p.1 ∉ X.fs/\∀v,p.2.data≠.cell v):Inv X J σ H s:=
 ⟨I.ok,I.os,I.bare,I.base,I.loc,I.cell,I.free,I.freeC,fun p a=>(ybb.mp a).elim (fun z=>I.pin p (ydf _ z)) (h p),I.hok,I.len⟩
def zkJ{N:List Str}(hN:N.Nodup){i j:Nat}{x:Str}(a:N[i]?=some x)(b:N[j]?=some x):i=j:=by
 obtain⟨h1,c⟩:=yaq.mp a;obtain⟨h2,e2⟩:=yaq.mp b;exact(List.getElem_inj hN).mp (c.trans e2.symm)
def zic(I:Inv X pins σ H s)(hN:X.N.Nodup)(hi:X.N[i]?=some x)(J:Loc X.env.scope x)(r:zaV v u)
  (h:∀s',Inv X pins (σ.set i (some v)) H s'->(∃a,Heap.SameBut a s.heap s'.heap/\(a=X.env.locals\/X.env.cells.lookup x=some a))->Q () s') (hf:X.fn x=true\/X.env.scope.names.lookup x=some .local):wpAny M A (storeName X.env x u) Q E s:=by
 obtain⟨m,Y,hl⟩:=id I.loc
 have K:(X.env.scope.kind==.class||(X.env.scope.kind==.module&&X.env.locals != X.env.globals))=false:=by rw[I.ok.kind];rfl
 have B:i<σ.length:=by rw[I.len];exact(yaq.mp hi).1
 have cne:=I.cne
 have f:∀{a:Addr}{h':Heap},(∃o,s.heap.get? a=some o/\H a=none)->Heap.SameBut a s.heap h'->HOk X.prog X.w H h':=fun {a h'} ha hs b ob e=>by
  obtain⟨_,_,t⟩:=ha;refine(I.hok b ob e).stay (fun c w' l q=>(hs.2 c ?_).trans q) (fun _ q=>q) fun _ _ q=>q
  rintro rfl
  rcases l with rfl|l
  ·rw[t]at e;cases e
  ·rw[t]at l;cases l
 rcases J with hk|hk
 ·refine wpAny_storeName_local hk Y (fun h' W hs=>?_) K;obtain⟨oL,_,_,V,_⟩:=id Y;refine h _ ⟨I.ok,I.os,I.bare,⟨fun b o e n hb J=>?_,fun b o e n hb J=>?_,I.base.free,fun b o e J=>?_,I.base.tups,I.base.frzs,I.base.tbls⟩,⟨_,W,fun j y P g e2 Z=>?_⟩,fun y c e=>?_,I.free,I.freeC,fun p U=>?_,f ⟨oL,V,I.free⟩ hs,by simpa using I.len⟩ ⟨_,hs,.inl rfl⟩
  ·exact(hs.2 b (yav (yat (yao e) I.ok.above))).trans (I.base.keep b o e n hb J)
  ·obtain⟨S,g⟩:=I.base.slot b o e n hb J;exact⟨S,(hs.2 b (yav (yat (yao e) I.ok.above))).trans g⟩
  ·obtain⟨o',g⟩:=I.base.there b o e J;exact⟨o',(hs.2 b (yav (yat (yao e) I.ok.above))).trans g⟩
  ·by_cases C:j=i
   ·subst C;rw[hi]at g;cases g;rw[yaN B]at e2;cases e2;exact⟨u,r,.inl ⟨hk,by simp⟩⟩
   ·rw[ya4 (Ne.symm C)]at e2;obtain⟨R,r',q⟩:=hl j y P g e2 Z;refine⟨R,r',?_⟩
    rcases q with⟨k,e⟩|⟨k,c,e,z⟩
    ·refine .inl ⟨k,?_⟩;have:y≠x:=fun e=>C (zkJ hN g (e ▸ hi))
     simp[this,e]
    ·exact .inr ⟨k,c,e,z.sameBut hs (cne y c e)⟩
  ·obtain⟨w',z⟩:=I.cell y c e;exact⟨w',z.sameBut hs (cne y c e)⟩
  ·obtain⟨e,n,ne,T,d⟩:=I.pin p U;exact⟨(hs.2 p.1 ne).trans e,n,ne,T,d⟩
 ·have D:X.fn x=true:=by
   rcases hf with z|z
   ·exact z
   ·rw[z]at hk;cases hk
  obtain⟨c,l⟩:=I.ok.has x (.inl hk);obtain⟨w',z⟩:=I.cell x c l;refine wpAny_storeName_cell I.ok.kind hk l z (fun h' O hs=>?_);obtain⟨oc,G,F⟩:=id z;refine h {s with heap:=h'} ⟨I.ok,I.os,I.bare,⟨fun b o e n hb J=>?_,fun b o e n hb J=>?_,I.base.free,fun b o e J=>?_,I.base.tups,I.base.frzs,I.base.tbls⟩,⟨m,Y.sameBut hs (Ne.symm (cne x c l)),fun j y P g e2 Z=>?_⟩,fun y c' e=>?_,I.free,I.freeC,fun p U=>?_,f ⟨oc,G,I.freeC x c l⟩ hs,by simpa using I.len⟩ ⟨c,hs,.inr l⟩
  ·exact(hs.2 b (yav (yat (yao e) (I.ok.cab x c D l)))).trans (I.base.keep b o e n hb J)
  ·obtain⟨S,g⟩:=I.base.slot b o e n hb J;exact⟨S,(hs.2 b (yav (yat (yao e) (I.ok.cab x c D l)))).trans g⟩
  ·obtain⟨o',g⟩:=I.base.there b o e J;exact⟨o',(hs.2 b (yav (yat (yao e) (I.ok.cab x c D l)))).trans g⟩
  ·by_cases C:j=i
   ·subst C;rw[hi]at g;cases g;rw[yaN B]at e2;cases e2;exact⟨u,r,.inr ⟨.inl hk,c,l,O⟩⟩
   ·rw[ya4 (Ne.symm C)]at e2;obtain⟨R,r',q⟩:=hl j y P g e2 Z;refine⟨R,r',?_⟩
    rcases q with q|⟨k,c',e,z'⟩
    ·exact .inl q
    ·refine .inr ⟨k,c',e,z'.sameBut hs ?_⟩;rintro rfl;exact C (zkJ hN g (I.ok.inj _ _ _ e l ▸ hi))
  ·by_cases L:c'=c
   ·subst L;exact⟨_,O⟩
   ·obtain⟨w2,z2⟩:=I.cell y c' e;exact⟨w2,z2.sameBut hs L⟩
  ·obtain⟨e,n,ne,T,d⟩:=I.pin p U;refine⟨(hs.2 p.1 ?_).trans e,n,ne,T,d⟩;intro q;rw[q,G]at e;have q':oc=p.2:=Option.some.inj e;exact d w' (by rw[<-q'];exact F)
def zfv(I:Inv X pins σ H s)(hN:X.N.Nodup)(hi:X.N[i]?=some x)(J:Loc X.env.scope x)(r:zaV v u)
  (h:∀s',Inv X pins (σ.set i (some v)) H s'->Q () s') (hf:X.fn x=true\/X.env.scope.names.lookup x=some .local):wpAny M A (storeName X.env x u) Q E s:=
 zic I hN hi J r (fun s' a _=>h s' a) hf
def Inv.call'(I:Inv X pins σ H s)(ho:s'.os=s.os)(u:Un (frs X.stack) ch H H' s.heap s'.heap)(hok:HOk X.prog X.w H' s'.heap)(hg:AllBare s'.gens)
  (J:∀b∈ch,(b∈X.ex\/X.s₀.heap.objs.size<=b)/\b≠X.env.locals/\(∀x c,X.env.cells.lookup x=some c->c≠b)/\∀p∈X.pn++pins,p.1≠b):Inv X pins σ H' s':=by
 obtain⟨h',g',d',t',o'⟩:=s';have e:o'=s.os:=ho;subst e;exact I.call (g':=g') (t':=t') (d':=d') u hok hg J
end
noncomputable abbrev XK:=Value->Option Addr->Hp->Prop
noncomputable abbrev St:=List (Option V)
noncomputable abbrev VK:=V->Hp->Prop
noncomputable abbrev TE:=St->Hp->VK->Prop
noncomputable abbrev TT:=St->Hp->(Bool->Hp->Prop)->Prop
noncomputable abbrev TA:=St->Hp->(List V->Hp->Prop)->Prop
structure Ends where
 nx:St->Hp->Prop
 rt:VK
 bk:St->Hp->Prop:=fun _ _=>False
 ct:St->Hp->Prop:=fun _ _=>False
noncomputable abbrev TS:=Ends->St->Hp->Prop
noncomputable def EP(X:Cx)(pins:Z3)(σ:St)(Q:VK)(u:Value)(s':Shared):Prop:=∃v H',Inv X pins σ H' s'/\zaV v u/\Q v H'
noncomputable def TP(X:Cx)(pins:Z3)(σ:St)(Q:Bool->Hp->Prop)(b:Bool)(s':Shared):Prop:=∃H',Inv X pins σ H' s'/\Q b H'
noncomputable def AP(X:Cx)(pins:Z3)(σ:St)(Q:List V->Hp->Prop)(us:List Value)(s':Shared):Prop:=∃vs H',Inv X pins σ H' s'/\Vals vs us/\Q vs H'
noncomputable def SP(X:Cx)(pins:Z3)(D:Ends)(f:Flow)(s':Shared):Prop:=
 match f with
 |.next=>∃a H',Inv X pins a H' s'/\D.nx a H'|.brk=>∃a H',Inv X pins a H' s'/\D.bk a H'|.cont=>∃a H',Inv X pins a H' s'/\D.ct a H'|.ret u=>∃v a H',Inv X pins a H' s'/\zaV v u/\D.rt v H'
noncomputable def PE(X:Cx)(e:Expr)(t:TE):Prop:=
 ∀(pins:Z3) (s:Shared) (σ:St) (H:Hp) (Q:VK),Inv X pins σ H s->t σ H Q->wpAny (model X.prog X.w) X.A (eval e X.env) (EP X pins σ Q) X.xe s
noncomputable def PT(X:Cx)(e:Expr)(t:TT):Prop:=
 ∀(pins:Z3) (s:Shared) (σ:St) (H:Hp) (Q:Bool->Hp->Prop),Inv X pins σ H s->t σ H Q->wpAny (model X.prog X.w) X.A (isTrue e X.env (eval e X.env)) (TP X pins σ Q) X.xe s
noncomputable def PW(X:Cx)(e:Expr)(t:TT):Prop:=
 ∀(whole:Sem Value) (pins:Z3) (s:Shared) (σ:St) (H:Hp) (Q:Bool->Hp->Prop),Inv X pins σ H s->t σ H Q->wpAny (model X.prog X.w) X.A (isTrue e X.env whole) (TP X pins σ Q) X.xe s
def PW.pt(h:PW X e t):PT X e t:=h _
noncomputable def PA(X:Cx)(es:List Expr)(t:TA):Prop:=
 ∀(pos:Pos) (pins:Z3) (s:Shared) (σ:St) (H:Hp) (Q:List V->Hp->Prop),Inv X pins σ H s->t σ H Q->wpAny (model X.prog X.w) X.A (spliced (backTo pos (starEach es X.env))) (AP X pins σ Q) X.xe s
noncomputable def PS(X:Cx)(st:Stmt)(t:TS):Prop:=
 ∀(pins:Z3) (s:Shared) (σ:St) (H:Hp) (D:Ends),Inv X pins σ H s->t D σ H->wpAny (model X.prog X.w) X.A (exec st X.env) (SP X pins D) X.xe s
noncomputable def PSs(X:Cx)(st:List Stmt)(t:TS):Prop:=
 ∀(pins:Z3) (s:Shared) (σ:St) (H:Hp) (D:Ends),Inv X pins σ H s->t D σ H->wpAny (model X.prog X.w) X.A (execs st X.env) (SP X pins D) X.xe s
def thn{α:Type}{t:Sem α}{Q J:α->Shared->Prop}(h:wpAny M A t Q E s)(U:∀a s,Q a s->J a s):wpAny M A t J E s:=ybr h U fun _ _ x=>x
section
variable{X:Cx}
noncomputable def zwC(i:Nat):TE:=fun σ H Q=>∃v,σ[i]?=some (some v)/\Q v H
noncomputable def tC(v:V):TE:=fun _ H Q=>Q v H
def zaQ{i:Nat}{x:Str}{pos:Pos}(hN:X.N[i]?=some x)(hv:Vis X.env.scope x)(hd:autoParam ((x==("__debug__":Str))=false) yAR)(hcd:autoParam ((x==("__classdict__":Str))=false) yAR):PE X (.Name x pos) (zwC i):=by
 intro pins s σ H Q I h;obtain⟨v,e,h⟩:=h;obtain⟨m,d,f⟩:=I.loc;obtain⟨u,r,l⟩:=f i x v hN e hv;have fin:EP X pins σ Q u s:=⟨v,H,I,r,h⟩
 rcases l with⟨hk,hm⟩|⟨hk,c,b,a⟩
 ·exact wpAny_Name (wpAny_loadName_local I.ok.kind hk d hm fin) hd
 ·rcases hk with hk|hk
  ·exact wpAny_Name (wpAny_loadName_cell I.ok.kind hk b a fin) hd
  ·exact wpAny_Name (wpAny_loadName_free I.ok.kind hk b a fin hcd) hd
def zuS{i j pos}:PE X (.Constant (.int i) j pos) (tC (.int i)):=fun _ _ _ H _ I h=>wpAny_Constant_int ⟨.int i,H,I.tok _,⟨_,rfl⟩,h⟩
def zxL{b j pos}:PE X (.Constant (.bool b) j pos) (tC (.bl b)):=fun _ _ _ H _ I h=>Constant_bool ⟨.bl b,H,I,rfl,h⟩
def zqO{j pos}:PE X (.Constant .none j pos) (tC .non):=fun _ _ _ H _ I h=>Constant_none ⟨.non,H,I,rfl,h⟩
def zuP{x j pos}:PE X (.Constant (.str x) j pos) (tC (.str x)):=fun _ _ _ H _ I h=>Calls.Constant_str ⟨.str x,H,I.tok _,⟨_,rfl⟩,h⟩
noncomputable def Gl(X:Cx)(x:Str):Prop:=X.env.kindOf x=some .globalImplicit
def zfT{E:Z5}{pins:Z3}{s:Shared}{σ:St}{H:Hp}{x:Str}{u:Value}{pos:Pos}{Q:Z5}(I:Inv X pins σ H s)(hg:Gl X x)(hm:X.mg x=some u)(h:Q u s)
  (hd:autoParam ((x==("__debug__":Str))=false) yAR):wpAny (model X.prog X.w) X.A (eval (.Name x pos) X.env) Q E s:=
 Calls.Name_function_global I.ok.kind hg (Calls.loadGlobal_global (by rw[I.ok.glob];exact I.mod.glob.keeps I.bk) hm h) hd
def zfU{E:Z5}{pins:Z3}{s:Shared}{σ:St}{H:Hp}{x:Str}{u:Value}{pos:Pos}{Q:Z5}(I:Inv X pins σ H s)(hg:Gl X x)(hm:X.mg x=none)(hv:bootBuiltins x=some u)(h:Q u s)
  (J:autoParam (x ≠ "__name__") yAR) (hd:autoParam ((x==("__debug__":Str))=false) yAR):wpAny (model X.prog X.w) X.A (eval (.Name x pos) X.env) Q E s:=by
 obtain⟨a,h1,h2⟩:=I.mod.blt;exact Calls.Name_function_global I.ok.kind hg (Calls.loadGlobal_builtin (by rw[I.ok.glob];exact I.mod.glob.keeps I.bk) hm (by rw[I.ok.blt];exact h1.keeps I.bk) ((h2 x J).trans hv) h) hd
def znf{x:Str}{v:V}{u:Value}{pos:Pos}(hg:Gl X x)(hm:X.mg x=some u)(r:zaV v u)(hd:autoParam ((x==("__debug__":Str))=false) yAR):PE X (.Name x pos) (tC v):=
 fun _ _ _ H _ I h=>zfT I hg hm ⟨v,H,I,r,h⟩ hd
def zsr{x:Str}{v:V}{u:Value}{pos:Pos}(hg:Gl X x)(hm:X.mg x=none)(hv:bootBuiltins x=some u)(r:zaV v u)(J:autoParam (x ≠ "__name__") yAR)(hd:autoParam ((x==("__debug__":Str))=false) yAR):PE X (.Name x pos) (tC v):=
 fun _ _ _ H _ I h=>zfU I hg hm hv ⟨v,H,I,r,h⟩ J hd
variable{a b:Expr}{ta tb:TE}{pos:Pos}
noncomputable def PC(X:Cx)(op:CmpOp)(a b:Expr)(t:TE):Prop:=
 ∀(pins:Z3) (s:Shared) (σ:St) (H:Hp) (Q:VK),Inv X pins σ H s->t σ H Q →
  wpAny (model X.prog X.w) X.A (eval a X.env) (fun v d=>wpAny (model X.prog X.w) X.A (eval b X.env) (fun u c=>wpAny (model X.prog X.w) X.A (compareOp op v u) (EP X pins σ Q) X.xe c) X.xe d) X.xe s
def zwG(b:Expr)(h:op≠.In)(h2:op≠.NotIn):behindInMarks op b=false:=by
 have a:(op==CmpOp.In)=false:=by cases op<;>first|rfl|exact absurd rfl h
 have e2:(op==CmpOp.NotIn)=false:=by cases op<;>first|rfl|exact absurd rfl h2
 cases b<;>simp[behindInMarks,a,e2]
noncomputable def tB(t:TE):TT:=fun σ H Q=>t σ H fun x H1=>∃c,x=.bl c/\Q c H1
def zqQ(h:PC X op a b t)(h1:behindInMarks op b=false):PE X (.Compare a [op] [b] pos) t:=fun pins s σ H Q I c=>wpAny_Compare1 (h pins s σ H Q I c) h1
def zqJ(h:PC X op a b t)(h1:behindInMarks op b=false):PT X (.Compare a [op] [b] pos) (tB t):=by
 intro pins s σ H Q I f;refine wpAny_isTrue_Compare1 (thn (h pins s σ H _ I f) fun v s1 h1=>thn h1 fun u s2 h2=>thn h2 fun c i ⟨x,H1,g,r1,e⟩=>?_) h1;obtain⟨d,rfl,q⟩:=e;cases r1;exact ybd ⟨H1,g,q⟩
def zuH{e:Expr}{t:TE}(h:PE X e t)(he:autoParam (∀whole,isTrue e X.env whole=(do let v ← whole;standAt e.pos;holding [v] (truthy v))) yAU):PT X e (tB t):=by
 intro pins s σ H Q I b;refine isTrue_plain (thn (h pins s σ H _ I b) fun v s1 ⟨x,H1,c,r1,a⟩=>?_) (he _);obtain⟨d,rfl,q⟩:=a;cases r1;exact ybd ⟨H1,c,q⟩
variable{tA tB':TT}{zcY:List Expr}
noncomputable def zzp(t u:TT):TT:=fun σ H Q=>t σ H fun c H1=>if c=true then u σ H1 Q else Q false H1
noncomputable def tOr(t u:TT):TT:=fun σ H Q=>t σ H fun c H1=>if c=true then Q true H1 else u σ H1 Q
noncomputable def zzn(t:TT):TT:=fun σ H Q=>t σ H fun c H1=>Q (!c) H1
def zsc(J:PT X a tA):PW X (.BoolOp .And [a] pos) tA:=by
 intro b pins s σ H Q I h;refine isTrue_and (thn (J pins s σ H Q I h) fun c s1 e=>?_)
 cases c with
 |true=>exact isTrue_and_nil e|false=>exact e
def zuE(J:PT X a tA):PW X (.BoolOp .Or [a] pos) tA:=by
 intro b pins s σ H Q I h;refine isTrue_or (thn (J pins s σ H Q I h) fun c s1 e=>?_)
 cases c with
 |false=>exact isTrue_or_nil e|true=>exact e
def zuF(J:PT X a tA)(hb:PW X (.BoolOp .And (b::zcY) pos) tB'):PW X (.BoolOp .And (a::b::zcY) pos) (zzp tA tB'):=by
 intro f pins s σ H Q I h;refine isTrue_and (thn (J pins s σ H _ I h) fun c s1 ⟨H1,e,d⟩=>?_)
 cases c with
 |true=>exact hb f pins s1 σ H1 Q e d|false=>exact⟨H1,e,d⟩
def zxE(J:PT X a tA)(hb:PW X (.BoolOp .Or (b::zcY) pos) tB'):PW X (.BoolOp .Or (a::b::zcY) pos) (tOr tA tB'):=by
 intro f pins s σ H Q I h;refine isTrue_or (thn (J pins s σ H _ I h) fun c s1 ⟨H1,e,d⟩=>?_)
 cases c with
 |true=>exact⟨H1,e,d⟩|false=>exact hb f pins s1 σ H1 Q e d
def zuI(J:PT X a tA):PT X (.UnaryOp .Not a pos) (zzn tA):=by
 intro pins s σ H Q I h;exact isTrue_not (J pins s σ H (fun c H1=>Q (!c) H1) I h)
noncomputable def zxm(ta tb:TE):TE:=fun σ H Q=>ta σ H fun x H1=>∃c,x=.bl c/\if c=true then tb σ H1 Q else Q (.bl false) H1
noncomputable def zA0(ta tb:TE):TE:=fun σ H Q=>ta σ H fun x H1=>∃c,x=.bl c/\if c=true then Q (.bl true) H1 else tb σ H1 Q
noncomputable def zxe(ta:TE):TE:=fun σ H Q=>ta σ H fun x H1=>∃c,x=.bl c/\Q (.bl (!c)) H1
def zuQ{op}(h:PE X a t):PE X (.BoolOp op [a] pos) t:=fun pins s σ H Q I b=>BoolOp_one (h pins s σ H Q I b)
def zuU(J:PE X a ta)(hb:PE X (.BoolOp .And (b::zcY) pos) tb):PE X (.BoolOp .And (a::b::zcY) pos) (zxm ta tb):=by
 intro pins s σ H Q I h;refine BoolOp_and (thn (J pins s σ H _ I h) fun v s1 ⟨x,H1,e,r1,d⟩=>?_);obtain⟨c,rfl,d⟩:=d;cases r1;refine ybd ?_
 cases c with
 |true=>exact hb pins s1 σ H1 Q e d|false=>exact⟨.bl false,H1,e,rfl,d⟩
def zxI(J:PE X a ta)(hb:PE X (.BoolOp .Or (b::zcY) pos) tb):PE X (.BoolOp .Or (a::b::zcY) pos) (zA0 ta tb):=by
 intro pins s σ H Q I h;refine BoolOp_or (thn (J pins s σ H _ I h) fun v s1 ⟨x,H1,e,r1,d⟩=>?_);obtain⟨c,rfl,d⟩:=d;cases r1;refine ybd ?_
 cases c with
 |false=>exact hb pins s1 σ H1 Q e d|true=>exact⟨.bl true,H1,e,rfl,d⟩
def zuR(J:PE X a ta):PE X (.UnaryOp .Not a pos) (zxe ta):=by
 intro pins s σ H Q I h;refine UnaryOp_ (thn (J pins s σ H _ I h) fun v s1 ⟨x,H1,d,r1,b⟩=>?_);obtain⟨c,rfl,b⟩:=b;cases r1;exact not_of (ybd ⟨.bl (!c),H1,d,rfl,b⟩)
noncomputable def tIf(t:TT)(ta tb:TE):TE:=fun σ H Q=>t σ H fun c H1=>if c=true then ta σ H1 Q else tb σ H1 Q
def zpo(J:PT X c tA)(U:PE X a ta)(hb:PE X b tb):PE X (.IfExp c a b pos) (tIf tA ta tb):=by
 intro pins s σ H Q I h;refine wpAny_IfExp (thn (J pins s σ H _ I h) fun d s1 ⟨H1,f,e⟩=>?_)
 cases d with
 |true=>exact U pins s1 σ H1 Q f e|false=>exact hb pins s1 σ H1 Q f e
end
noncomputable def SqL(K:PySem.W.Frag)(H:Hp)(a:Addr)(xs:List V):Prop:=
 Rd H a (.lst xs) ∨
  ∃(o:Obj) (aa:Array Value) (n:Nat),K.lookup a=some o/\o.cls=.type "list" /\ o.dict=none/\o.data=.seq aa n/\aa.size<=sizeLine/\Vals xs aa.toList
noncomputable def SqT(K:PySem.W.Frag)(H:Hp)(a:Addr)(xs:List V):Prop:=
 Rd H a (.tup xs) ∨
  ∃(o:Obj) (aa:Array Value) (n:Nat),K.lookup a=some o/\o.cls=.type "tuple" /\ o.data=.seq aa n/\aa.size<=sizeLine/\Vals xs aa.toList
noncomputable def zCq:Value->Option V
 |.none=>some .non|.bool b=>some (.bl b)|.int i _=>some (.int i)|.str x _=>some (.str x)|.bytes b _=>some (.byt b)|.float b _=>some (.flt b)|.ref a=>some (.ref a)|.type n=>some (.ty n)|_=>none
def zaV.abs(r:zaV x u):zCq u=some x:=by
 cases x with
 |non=>cases r;rfl|bl _=>cases r;rfl|int _=>obtain⟨t,rfl⟩:=r;rfl|str _=>obtain⟨t,rfl⟩:=r;rfl|byt _=>obtain⟨t,rfl⟩:=r;rfl|flt _=>obtain⟨t,rfl⟩:=r;rfl|ref _=>cases r;rfl|ty _=>cases r;rfl
theorem zaV.inj(r:zaV x u)(q:zaV y u):x=y:=Option.some.inj (r.abs.symm.trans q.abs)
theorem Vals.inj:∀{xs ys:List V}{us:List Value},Vals xs us->Vals ys us->xs=ys
 |_,_,_,.nil,.nil=>rfl|_,_,_,.cons r t,.cons r' t'=>by rw[r.inj r',Vals.inj t t']
section
variable{X:Cx}{pins:Z3}{σ:St}{H:Hp}{s:Shared}{a:Addr}{xs ys:List V}
def SqL.of{K:PySem.W.Frag}(h:H a=some (.lst xs)):SqL K H a xs:=.inl (.inl h)
def SqT.of{K:PySem.W.Frag}(h:H a=some (.tup xs)):SqT K H a xs:=.inl (.inl h)
theorem Inv.list(I:Inv X pins σ H s)(h:SqL X.K H a xs):∃aa:List Value,Vals xs aa/\PlainL s.heap a aa.toArray/\xs.length<=sizeLine:=by
 rcases h with h|⟨o,aa,n,hk,b,hd,hs,c,r⟩
 ·obtain⟨z,aa,n,r,e⟩:=h.ok I.hok;exact⟨aa,r,⟨_,n,e,rfl,rfl,rfl⟩,z⟩
 ·refine⟨aa.toList,r,⟨o,n,I.kIn a o hk,b,hd,by simpa using hs⟩,?_⟩;have e:=r.length;simp only[yaH]at e;omega
def Inv.tuple(I:Inv X pins σ H s)(h:SqT X.K H a xs):∃aa:List Value,Vals xs aa/\IsTup s.heap a aa.toArray/\xs.length<=sizeLine:=by
 rcases h with h|⟨o,aa,n,hk,b,hs,c,r⟩
 ·obtain⟨z,aa,r,p⟩:=h.ok I.hok;exact⟨aa,r,p.t,z⟩
 ·refine⟨aa.toList,r,⟨o,I.kIn a o hk,b,n,by simpa using hs⟩,?_⟩;have e:=r.length;simp only[yaH]at e;omega
def Inv.list_inj(I:Inv X pins σ H s)(h:SqL X.K H a xs)(h':SqL X.K H a ys):xs=ys:=by
 obtain⟨aa,r,⟨o,n,e,_,_,d⟩,_⟩:=I.list h;obtain⟨aq,r',⟨o',c,b,_,_,d'⟩,_⟩:=I.list h';rw[e]at b;cases b;rw[d]at d'
 injection d' with d1 _
 have:aa=aq:=by simpa using congrArg Array.toList d1
 subst this;exact r.inj r'
def Inv.tuple_inj(I:Inv X pins σ H s)(h:SqT X.K H a xs)(h':SqT X.K H a ys):xs=ys:=by
 obtain⟨aa,r,⟨o,e,_,n,d⟩,_⟩:=I.tuple h;obtain⟨aq,r',⟨o',b,_,c,d'⟩,_⟩:=I.tuple h';rw[e]at b;cases b;rw[d]at d'
 injection d' with d1 _
 have:aa=aq:=by simpa using congrArg Array.toList d1
 subst this;exact r.inj r'
end
section
variable{X:Cx}{st:Stmt}{zcY:List Stmt}{t u:TS}{e:Expr}{te:TE}{pos:Pos}
noncomputable def zxf:TS:=fun D σ H=>D.nx σ H
noncomputable def zAY(t u:TS):TS:=fun D σ H=>t {D with nx:=u D} σ H
def zse:PSs X [] zxf:=fun _ _ σ H _ I h=>wpAny_execs_nil ⟨σ,H,I,h⟩
def zpd(h1:PS X st t)(h2:PSs X zcY u):PSs X (st::zcY) (zAY t u):=by
 intro pins s σ H D I h;refine wpAny_execs_cons (thn (h1 pins s σ H {D with nx:=u D} I h) fun f s1 q=>?_)
 cases f with
 |next=>
  obtain⟨a,H',b,q⟩:=q;exact h2 pins s1 a H' D b q
 |ret v=>exact q|brk=>exact q|cont=>exact q
def Inv.quiet(I:Inv X pins σ H s):interactive X.env=false:=by simp[interactive,I.ok.kind]
noncomputable def zxj(te:TE):TS:=fun D σ H=>te σ H fun _ H1=>D.nx σ H1
def zfO(he:PE X e te)(hs:autoParam (swapsWith e none pos.line X.env=pure false) yAW):PS X (.Expr e pos) (zxj te):=by
 intro pins s σ H D I h;exact wpAny_Expr_any (thn (he pins s σ H _ I h) fun v s1 ⟨x,H1,b,r1,a⟩=>⟨σ,H1,b,a⟩) I.quiet hs
noncomputable def zAZ(te:TE):TS:=fun D σ H=>te σ H D.rt
def zm1(he:PE X e te):PS X (.Return (some e) pos) (zAZ te):=by
 intro pins s σ H D I h;exact wpAny_Return_some (thn (he pins s σ H _ I h) fun v s1 ⟨x,H1,b,r1,a⟩=>⟨x,σ,H1,b,r1,a⟩)
noncomputable def zA2(c:TT)(t u:TS):TS:=fun D σ H=>c σ H fun b H1=>if b=true then t D σ H1 else u D σ H1
def zxG(J:PT X c tc)(U:PSs X a t)(hb:PSs X b u):PS X (.If c a b pos) (zA2 tc t u):=by
 intro pins s σ H D I h;refine wpAny_If (thn (J pins s σ H _ I h) fun d s1 ⟨H1,f,e⟩=>?_)
 cases d with
 |true=>exact U pins s1 σ H1 D f e|false=>exact hb pins s1 σ H1 D f e
end
noncomputable abbrev TG:=V->St->Hp->(St->Hp->Prop)->Prop
noncomputable abbrev TGs:=List V->St->Hp->(St->Hp->Prop)->Prop
noncomputable def PG(X:Cx)(target:Expr)(t:TG):Prop:=
 ∀(pins:Z3) (s:Shared) (σ:St) (H:Hp) (v:V) (u:Value) (Q:St->Hp->Prop),Inv X pins σ H s->zaV v u->t v σ H Q →
  wpAny (model X.prog X.w) X.A (assign target X.env u) (fun _ s'=>∃a H',Inv X pins a H' s'/\Q a H') X.xe s
noncomputable def PGs(X:Cx)(ts:List Expr)(t:TGs):Prop:=
 ∀(pins:Z3) (s:Shared) (σ:St) (H:Hp) (vs:List V) (us:List Value) (Q:St->Hp->Prop),Inv X pins σ H s->Vals vs us->t vs σ H Q →
  wpAny (model X.prog X.w) X.A (assignInOrder ((assignEach ts X.env).map (·.2)) us) (fun _ s'=>∃a H',Inv X pins a H' s'/\Q a H') X.xe s
noncomputable abbrev zl1:=V->V->V->Hp->(Hp->Prop)->Prop
noncomputable def zAm(X:Cx)(t:zl1):Prop:=
 ∀(pins:Z3) (s:Shared) (σ:St) (H:Hp) (o i v:V) (ov a u:Value) (Q:Hp->Prop),Inv X pins σ H s->zaV o ov->zaV i a->zaV v u->t o i v H Q →
  wpAny (model X.prog X.w) X.A (setItem ov a u) (fun _ s'=>∃H',Inv X pins σ H' s'/\Q H') X.xe s
section
variable{X:Cx}{pos:Pos}
noncomputable def zn1(i:Nat):TG:=fun v σ H Q=>Q (σ.set i (some v)) H
def znd(hN:X.N.Nodup)(hi:X.N[i]?=some x)(J:Loc X.env.scope x)(hf:X.fn x=true\/X.env.scope.names.lookup x=some .local):PG X (.Name x pos) (zn1 i):=by
 intro pins s σ H v u Q I r h;exact wpAny_assign_Name (zfv I hN hi J r (fun s' a=>⟨_,H,a,h⟩) hf)
noncomputable def zB9:TGs:=fun vs σ H Q=>vs=[]/\Q σ H
noncomputable def zyj(t:TG)(u:TGs):TGs:=fun vs σ H Q=>∃v r,vs=v::r/\t v σ H fun a H'=>u r a H' Q
def zsn:PGs X [] zB9:=by
 intro pins s σ H vs us Q I r h;obtain⟨e,h⟩:=h;subst e;cases r;exact assignInOrder_nil ⟨σ,H,I,h⟩
def zpj{e:Expr}{es:List Expr}{t:TG}{u:TGs}(h1:PG X e t)(h2:PGs X es u)
  (hs:autoParam ((assignEach (e::es) X.env).map (·.2)=assign e X.env::(assignEach es X.env).map (·.2)) yAW):PGs X (e::es) (zyj t u):=by
 intro pins s σ H vs us Q I r h;obtain⟨v,g,d,h⟩:=h;subst d
 cases r with
 |cons r b=>
  rw[hs];refine yds (thn (h1 pins s σ H _ _ _ I r h) fun _ s1 ⟨a,H1,f,c⟩=>?_);exact h2 pins s1 a H1 _ _ Q f b c
noncomputable def zB7(K:PySem.W.Frag)(n:Nat)(t:TGs):TG:=fun v σ H Q=>∃a xs,v=.ref a/\SqT K H a xs/\xs.length=n/\t xs σ H Q
def zuO{es:List Expr}{k:Nat}{t:TGs}{n:Nat}(hc:X.calm=true)(h:PGs X es t)
  (U:autoParam ((assignEach es X.env).length=n) yAW) (J:autoParam ((assignEach es X.env).findIdx? (·.1)=none) yAW):PG X (.Tuple es k pos) (zB7 X.K n t):=by
 intro pins s σ H v u Q I r c;obtain⟨a,xs,j,g,i,c⟩:=c;subst j;cases r;obtain⟨aa,d,ht,m⟩:=I.tuple g;refine assign_Tuple_tuple (I.ok.hd hc) ht (by simp[U,<-i,d.length]) J fun h' f=>?_
 have l:Inv X pins σ H {s with heap:=h'}:=I.kept (t':=s.toks) fun b o e=>f b o (yav (yao e)) e
 exact h pins _ σ H xs _ Q l (by simpa using d) c
noncomputable def zB8(to ti:TE)(t:zl1):TG:=fun v σ H Q=>to σ H fun o H1=>ti σ H1 fun i H2=>t o i v H2 fun a=>Q σ a
def zqM{o i:Expr}{to ti:TE}{t:zl1}(ho:PE X o to)(hi:PE X i ti)(hs:zAm X t)
  (U:autoParam (∀v,assign (.Subscript o i pos) X.env v=(do
   let ov ← holding [v] (eval o X.env)
   let J ← holding [v,ov] (eval i X.env)
   standAt pos
   holding [v,ov,J] (setItem ov J v)
   release [v,ov,J] [])) yAU):PG X (.Subscript o i pos) (zB8 to ti t):=by
 intro pins s σ H v u Q I r h;rw[U];refine yaa (yaZ (thn (ho pins s σ H _ I h) fun ov s1 ⟨x,H1,g,r1,d⟩=>?_));refine yaa (yaZ (thn (hi pins s1 σ H1 _ g d) fun J s2 ⟨y,H2,f,a,c⟩=>?_));refine yaa (ydD (yaa (yaZ (thn (hs pins s2 σ H2 x y v ov J u _ f r1 a r c) fun _ k ⟨j,e,b⟩=>?_))));exact wpAny_release ⟨σ,j,e,b⟩
noncomputable def ztn(te:TE)(g:TG):TS:=fun D σ H=>te σ H fun x H1=>g x σ H1 D.nx
def zm3{tg e:Expr}{te:TE}{g:TG}(he:PE X e te)(hg:PG X tg g)(hs:autoParam (swapsWithSole [tg] e pos.line X.env=pure false) yAW)(hw:autoParam (swappedStores [tg] e X.env=pure none) yAW)
  (h1:autoParam ((assignEach [tg] X.env).map (·.2)=[assign tg X.env]) yAW):PS X (.Assign [tg] e pos) (ztn te g):=by
 intro pins s σ H D I h;refine wpAny_Assign_stores (thn (he pins s σ H _ I h) fun v s1 ⟨x,H1,b,r1,a⟩=>?_) hs hw;rw[h1];exact thn (hg pins s1 σ H1 x v _ b r1 a) fun _ s2 q=>q
def zqK{i:Nat}{x:Str}{e:Expr}{te:TE}{pos':Pos}(hN:X.N.Nodup)(hi:X.N[i]?=some x)(J:Loc X.env.scope x)(he:PE X e te)(hs:autoParam (swapsWith e (some (.Name x pos')) pos.line X.env=pure false) yAW)(hf:X.fn x=true\/X.env.scope.names.lookup x=some .local):
  PS X (.Assign [.Name x pos'] e pos) (ztn te (zn1 i)):=by
 intro pins s σ H D I h;refine wpAny_Assign_Name (thn (he pins s σ H _ I h) fun v s1 ⟨y,H1,c,r1,a⟩=>?_) hs;exact zfv c hN hi J r1 (fun s2 b=>⟨_,H1,b,a⟩) hf
noncomputable def zzm(i j:Nat)(ta:TA):TS:=fun D σ H=>ta σ H fun vs H1=>∃v w,vs=[v,w]/\D.nx ((σ.set i (some v)).set j (some w)) H1
def zuJ{i j:Nat}{x y:Str}{a b:Expr}{ta:TA}{px py pt:Pos}{kt k2 pt2}(hc:X.calm=true)(hN:X.N.Nodup)(hi:X.N[i]?=some x)(hj:X.N[j]?=some y)(J:i≠j)
  (hx:X.env.scope.names.lookup x=some .local) (U:X.env.scope.names.lookup y=some .local) (ha:PA X [a,b] ta)
  (hw:swappedStores [.Tuple [.Name x px,.Name y py] kt pt] (.Tuple [a,b] k2 pt2) X.env=pure (some [x,y]))
  (hs:autoParam (swapsWithSole [.Tuple [.Name x px,.Name y py] kt pt] (.Tuple [a,b] k2 pt2) pos.line X.env=pure false) yAW):
  PS X (.Assign [.Tuple [.Name x px,.Name y py] kt pt] (.Tuple [a,b] k2 pt2) pos) (zzm i j ta):=by
 intro pins s σ H D I h;rw[exec_Assign_arm];refine yaa (ydD ?_);rw[hs];refine yaa (yaf ?_);rw[if_neg (by decide)];refine yaa (Tuple_ (thn (ha _ pins s σ H _ I h) fun us s1 ⟨vs,H1,C,r1,g⟩=>?_));obtain⟨v,w,t,g⟩:=g;subst t
 obtain⟨d,c,rfl,m,f⟩:∃d c,us=[d,c]/\zaV v d/\zaV w c:=by
  cases r1 with
  |cons p q=>
   cases q with
   |cons r n=>
    cases n;exact⟨_,_,rfl,p,r⟩
 refine yaX ?_ (by show 2<=sizeLine;decide);have B:Inv X pins σ H1 {s1 with heap:=s1.heap.push {cls:=.type "tuple",data:=.seq [d,c].toArray}}:=C.kept (t':=s1.toks) fun b o e=>yad _ e
 rw[hw];refine yaa (yaf ?_);show wpAny (model X.prog X.w) X.A (do rule "assign.swapped-stores";let items ← unpackItems (.ref s1.heap.objs.size) 2 none;assignInOrder [fun v=>bindName X.env y v,fun v=>bindName X.env x v] items.reverse;pure Flow.next) _ _ _;refine yaa (ycY (yaa (unpackItems_tuple (items:=#[d,c]) (I.ok.hd hc) (IsTup.new s1.heap _) fun h' k=>?_)));have z:=B.kept (h':=h') (t':=s1.toks) fun b o e=>k b o (yav (yao e)) e
 show wpAny _ _ (assignInOrder [fun v=>bindName X.env y v,fun v=>bindName X.env x v] [c,d] >>= fun _=>pure Flow.next) _ _ _;refine yaa (yds (wpAny_bindName (zfv z hN hj (.inl U) f (fun s2 u=>?_) (.inr U))));refine yds (wpAny_bindName (zfv u hN hi (.inl hx) m (fun E l=>assignInOrder_nil (yaf ?_)) (.inr hx)));rw[List.set_comm _ _ (Ne.symm J)]at l;exact⟨_,H1,l,g⟩
end
structure It where
 go:Nat->Hp->Prop
 yld:Nat->Hp->V->Hp->Prop
 stop:Nat->Hp->Prop
noncomputable def zoG(X:Cx)(pins:Z3)(H:Hp)(b:Addr):Prop:=
 H b=none/\b≠X.env.locals/\b ∉ X.fs/\(b∈X.ex\/X.s₀.heap.objs.size<=b)/\(∀x c,X.env.cells.lookup x=some c->c≠b)/\∀p∈X.pn++pins,p.1≠b
def Inv.fpOk(I:Inv X pins σ H s)(hb:s.heap.objs.size<=b)(J:H' b=none):zoG X pins H' b:=by
 refine⟨J,ya6 (yat I.lt hb),I.nofs hb,.inr (yas I.sz hb),fun x c e z=>?_,fun p a z=>?_⟩
 ·obtain⟨v,q⟩:=I.cell x c e;exact absurd (yat q.lt (by rw[z];exact hb)) (ybi _)
 ·exact absurd (yat (yao (I.pin p a).1) (by rw[z];exact hb)) (ybi _)
structure Turn(P:Program)(w:World)(K:PySem.W.Frag)(tg:Expr)(J:It)(fp:List Addr)(it:Addr)(tn:Nat->Heap->Prop):Prop where
 mem:it∈fp
 obj:∀i h,tn i h->∀b∈fp,∃o,h.get? b=some o/\∀v,o.data≠.cell v
 keep:∀i h h',tn i h->(∀b∈fp,∀o,h.get? b=some o->h'.get? b=some o)->tn i h'
 item:∀(X:Cx),X.prog=P->X.w=w->X.K=K->X.calm=true->∀(i:Nat) (pins:Z3) (s:Shared) (σ:St) (H:Hp) (E:Z5),Inv X pins σ H s->(∀b∈fp,zoG X pins H b)->tn i s.heap->J.go i H →
  wpAny (model P w) X.A (pyNext (.ref it)) (fun r s1=>∃u,r=some u ∧
   wpAny (model P w) X.A (letOwnedTupleGo tg (.ref it) u) (fun _ s2=>∃x H',Inv X pins σ H' s2/\zaV x u/\J.yld i H x H'/\tn (i+1) s2.heap/\∀b∈fp,H' b=none) E s1) E s
 done:∀(X:Cx),X.prog=P->X.w=w->X.K=K->X.calm=true->∀(i:Nat) (pins:Z3) (s:Shared) (σ:St) (H:Hp) (E:Z5),Inv X pins σ H s->(∀b∈fp,zoG X pins H b)->tn i s.heap->J.stop i H →
  wpAny (model P w) X.A (pyNext (.ref it)) (fun r s1=>r=none/\Inv X pins σ H s1) E s
 self:∀(A:Around) (i:Nat) (s:Shared) (Q:Z5) (E:Z5),tn i s.heap->Q (.ref it) s->wpAny (model P w) A (pyIter (.ref it)) Q E s
noncomputable abbrev TI:=St->Hp->(It->Hp->Prop)->Prop
noncomputable def PIE(X:Cx)(pins:Z3)(σ:St)(tg:Expr)(R:It->Hp->Prop)(U:Value)(s2:Shared):Prop:=
 ∃(it:Addr) (fp:List Addr) (a:Nat->Heap->Prop) (J:It) (H':Hp),U=.ref it/\Inv X pins σ H' s2/\Turn X.prog X.w X.K tg J fp it a/\a 0 s2.heap/\(∀b∈fp,zoG X pins H' b)/\R J H'
noncomputable def PI(X:Cx)(tg iter:Expr)(wi:TI):Prop:=
 ∀(pins:Z3) (s:Shared) (σ:St) (H:Hp) (R:It->Hp->Prop),Inv X pins σ H s->wi σ H R →
  wpAny (model X.prog X.w) X.A (eval iter X.env) (fun v s1=>wpAny (model X.prog X.w) X.A (pyIter v) (PIE X pins σ tg R) X.xe s1) X.xe s
def zn0 (ho : s.heap.get? it=some o) (hc : o.cls=.type n) (hd : o.data=.fields vs)
    (U : ["enumerate", "zip", "dict_itemiterator", "dict_reverseitemiterator", "odict_iterator", "itertools.zip_longest", "itertools.pairwise"].contains n=false) (J : Q () s): wpAny M A (letOwnedTupleGo tg (.ref it) u) Q E s:= by
  unfold letOwnedTupleGo
  cases tg <;> first
    |exact yaf J
    | (cases u <;> first
        |exact yaf J
        | (refine yaa (wpAny_load ho ?_)
           rw[hc, hd];show wpAny M A (if(["enumerate", "zip", "dict_itemiterator", "dict_reverseitemiterator", "odict_iterator", "itertools.zip_longest", "itertools.pairwise"].contains n && vs[0]?==some (rawInt _))=true then _ else _) Q E s;rw[if_neg (by intro h; rw[U, Bool.false_and]at h; cases h)]
           exact yaf J))
noncomputable def Itl(K:PySem.W.Frag)(a:Addr):It:=
 ⟨fun i H=>∃xs x,SqL K H a xs/\xs[i]?=some x,fun i H x H'=>H'=H/\∀xs,SqL K H a xs->xs[i]?=some x,fun i H=>∃xs,SqL K H a xs/\xs.length<=i⟩
noncomputable def Itt(K:PySem.W.Frag)(a:Addr):It:=
 ⟨fun i H=>∃xs x,SqT K H a xs/\xs[i]?=some x,fun i H x H'=>H'=H/\∀xs,SqT K H a xs->xs[i]?=some x,fun i H=>∃xs,SqT K H a xs/\xs.length<=i⟩
noncomputable def Itr(lo:Int)(n:Nat):It:=⟨fun i _=>i<n,fun i H x H'=>H'=H/\x=.int (lo+i),fun i _=>n<=i⟩
theorem zme{P:Program}{K:PySem.W.Frag}(a it:Addr):Turn P w K tg (Itl K a) [it] it (fun i h=>h.IsListIter it a i)where
 mem:=by simp
 obj:=fun i h st b hb=>by
  have e:b=it:=by simpa using hb
  subst e;obtain⟨o,e,c,d⟩:=st;exact⟨o,e,fun v z=>by rw[d]at z;cases z⟩
 keep:=fun i h h' st k=>st.at fun o e=>k it (by simp) o e
 item:=by
  intro X n m q B i pins s σ H E I hf st hg;subst n m q;obtain⟨xs,x,g,l⟩:=hg;obtain⟨aa,j,p,F⟩:=I.list g;obtain⟨u,J,D⟩:=j.get l;obtain⟨A,f1,f2,y,t,r⟩:=hf it (by simp);refine wpAny_pyNext_list_item st p.isList (x:=u) (by simpa using J) fun h' f C=>?_
  have M:Inv X pins σ H {s with heap:=h'}:=I.turned (t':=s.toks) (fun b o hb e=>(C.2 b hb).trans e) A f1 y t r;obtain⟨o,e,c,d⟩:=id f;exact⟨u,rfl,zn0 (s:={s with heap:=h'}) e c d (by decide) ⟨x,H,M,D,⟨rfl,fun ys G=>by rw[I.list_inj G g];exact l⟩,f,fun b hb=>(hf b hb).1⟩⟩
 done:=by
  intro X n m q B i pins s σ H E I hf st hg;subst n m q;obtain⟨xs,g,l⟩:=hg;obtain⟨aa,j,p,F⟩:=I.list g;obtain⟨A,f1,f2,y,t,r⟩:=hf it (by simp);have N:=j.length;exact wpAny_pyNext_list_end (I.ok.hd B) st p.isList (by simp;omega) fun h' L=>⟨rfl,I.turned (t':=s.toks) (fun b o hb e=>L b o hb e) A f1 y t r⟩
 self:=fun _ _ _ _ _ st h=>wpAny_pyIter_listiter st h
def zlf{P:Program}{K:PySem.W.Frag}(a it:Addr):Turn P w K tg (Itt K a) [it] it (fun i h=>h.IsTupleIter it a i)where
 mem:=by simp
 obj:=fun i h st b hb=>by
  have e:b=it:=by simpa using hb
  subst e;obtain⟨o,e,c,d⟩:=st;exact⟨o,e,fun v z=>by rw[d]at z;cases z⟩
 keep:=fun i h h' st k=>st.at fun o e=>k it (by simp) o e
 item:=by
  intro X n m q B i pins s σ H E I hf st hg;subst n m q;obtain⟨xs,x,g,l⟩:=hg;obtain⟨aa,j,p,F⟩:=I.tuple g;obtain⟨u,J,D⟩:=j.get l;obtain⟨A,f1,f2,y,t,r⟩:=hf it (by simp);refine wpAny_pyNext_tuple_item st (show s.heap.IsTuple a aa.toArray from p) (x:=u) (by simpa using J) fun h' f C=>?_
  have M:Inv X pins σ H {s with heap:=h'}:=I.turned (t':=s.toks) (fun b o hb e=>(C.2 b hb).trans e) A f1 y t r;obtain⟨o,e,c,d⟩:=id f;exact⟨u,rfl,zn0 (s:={s with heap:=h'}) e c d (by decide) ⟨x,H,M,D,⟨rfl,fun ys G=>by rw[I.tuple_inj G g];exact l⟩,f,fun b hb=>(hf b hb).1⟩⟩
 done:=by
  intro X n m q B i pins s σ H E I hf st hg;subst n m q;obtain⟨xs,g,l⟩:=hg;obtain⟨aa,j,p,F⟩:=I.tuple g;obtain⟨A,f1,f2,y,t,r⟩:=hf it (by simp);have N:=j.length;exact wpAny_pyNext_tuple_end (I.ok.hd B) st (show s.heap.IsTuple a aa.toArray from p) (by simp;omega) fun h' L=>⟨rfl,I.turned (t':=s.toks) (fun b o hb e=>L b o hb e) A f1 y t r⟩
 self:=fun _ _ _ _ _ st h=>wpAny_pyIter_tupleiter st h
theorem zlg{P:Program}{K:PySem.W.Frag}(it:Addr)(lo:Int)(n:Nat):Turn P w K tg (Itr lo n) [it] it (fun i h=>IsRangeIter h it (lo+(i:Nat)*1) ((n:Int)-(i:Nat)) 1)where
 mem:=by simp
 obj:=fun i h st b hb=>by
  have e:b=it:=by simpa using hb
  subst e
  exact⟨_,st,fun v z=>by
   have q:Data.fields _=Data.cell v:=z
   cases q⟩
 keep:=fun i h h' st k=>k it (by simp) _ st
 item:=by
  intro X f c g d i pins s σ H E I hf st hg;subst f c g;obtain⟨p,f1,f2,m,l,j⟩:=hf it (by simp);have W:=Walks.range (prog:=X.prog) (w:=X.w) (I.ok.hd d) it lo 1 n;refine W.item i s _ _ hg st fun v h' tk hv a kk=>?_
  obtain⟨t,rfl⟩:=hv;have u:Inv X pins σ H {s with heap:=h',toks:=tk}:=I.turned (fun b o hb e=>kk b o (by simpa using hb) e) p f1 m l j;refine⟨_,rfl,zn0 (s:={s with heap:=h',toks:=tk}) (n:="range_iterator") a rfl rfl (by decide) ⟨.int (lo+i),H,u,⟨t,?_⟩,⟨rfl,rfl⟩,a,fun b hb=>(hf b hb).1⟩⟩;rw[Int.mul_one]
 done:=by
  intro X f c g d i pins s σ H E I hf st hg;subst f c g;obtain⟨p,f1,f2,m,l,j⟩:=hf it (by simp);exact wpAny_pyNext_range_end (I.ok.hd d) st (by have:n<=i:=hg;omega) fun h' r=>⟨rfl,I.turned (t':=s.toks) (fun b o hb e=>r b o hb e) p f1 m l j⟩
 self:=fun _ _ _ _ _ st h=>wpAny_pyIter_rangeiter st h
section
variable{X:Cx}{tg:Expr}
noncomputable def zyi(K:PySem.W.Frag)(tl:TE):TI:=fun σ H R=>tl σ H fun x H1=>∃a,x=.ref a/\(∃xs,SqL K H1 a xs)/\R (Itl K a) H1
noncomputable def zB3(K:PySem.W.Frag)(tl:TE):TI:=fun σ H R=>tl σ H fun x H1=>∃a,x=.ref a/\(∃xs,SqT K H1 a xs)/\R (Itt K a) H1
def zsm(J:PE X l tl):PI X tg l (zyi X.K tl):=by
 intro pins s σ H R I h;refine thn (J pins s σ H _ I h) fun v s1 ⟨x,H1,c,r1,d⟩=>?_
 obtain⟨a,e,⟨xs,f⟩,q⟩:=d;subst e;cases r1;obtain⟨aa,g,p,i⟩:=c.list f;refine ycZ p.isList ?_;refine⟨s1.heap.objs.size,[s1.heap.objs.size],_,_,H1,rfl,c.kept (t':=s1.toks) fun b o e=>yad _ e,zme a _,⟨_,yam _ rfl,rfl,rfl⟩,fun b hb=>?_,q⟩
 have e:b=s1.heap.objs.size:=by simpa using hb
 subst e;exact c.fpOk (yaj _) (c.hok.fresh (yaj _))
def zuL(J:PE X l tl):PI X tg l (zB3 X.K tl):=by
 intro pins s σ H R I h;refine thn (J pins s σ H _ I h) fun v s1 ⟨x,H1,c,r1,d⟩=>?_
 obtain⟨a,e,⟨xs,f⟩,q⟩:=d;subst e;cases r1;obtain⟨aa,g,p,i⟩:=c.tuple f;refine ych (show s1.heap.IsTuple a aa.toArray from p) ?_;refine⟨s1.heap.objs.size,[s1.heap.objs.size],_,_,H1,rfl,c.kept (t':=s1.toks) fun b o e=>yad _ e,zlf a _,⟨_,yam _ rfl,rfl,rfl⟩,fun b hb=>?_,q⟩
 have e:b=s1.heap.objs.size:=by simpa using hb
 subst e;exact c.fpOk (yaj _) (c.hok.fresh (yaj _))
theorem zku{pins:Z3}{σ:St}{H:Hp}{s:Shared}{R:It->Hp->Prop}{E:Z5}{lo hi:Int}{t u v:Tok}{tk:Nat}(I:Inv X pins σ H s)(h1:-(2 ^ 62)<=lo)(h2:lo<2 ^ 62)(U:-(2 ^ 62)<=hi)(J:hi<2 ^ 62)
  (q:R (Itr lo (hi-lo).toNat) H):wpAny (model X.prog X.w) X.A (pyIter (.ref s.heap.objs.size)) (PIE X pins σ tg R) E {s with heap:=s.heap.push {cls:=.type "range",data:=.fields #[.int lo t,.int hi u,.int 1 v]},toks:=tk}:=by
 refine wpAny_pyIter_range (IsRange.new ..) (small_one h1 h2 U J) ?_;have a:Inv X pins σ H {s with heap:=s.heap.push {cls:=.type "range",data:=.fields #[.int lo t,.int hi u,.int 1 v]},toks:=tk}:=I.kept fun b o e=>yad _ e
 refine⟨(s.heap.push {cls:=.type "range",data:=.fields #[.int lo t,.int hi u,.int 1 v]}).objs.size,[(s.heap.push {cls:=.type "range",data:=.fields #[.int lo t,.int hi u,.int 1 v]}).objs.size],_,_,H,rfl,
  a.kept (t':=tk) fun b o e=>yad _ e,zlg _ lo (hi-lo).toNat,?_,fun b hb=>?_,q⟩
 ·have c:lo+((0:Nat):Int)*1=lo:=by simp
  have e2:(((hi-lo).toNat:Nat):Int)-((0:Nat):Int)=Builtin.Range.rangeSize lo hi 1:=by rw[rangeSize_one];split<;>omega
  show IsRangeIter _ _ (lo+((0:Nat):Int)*1) ((((hi-lo).toNat:Nat):Int)-((0:Nat):Int)) 1;rw[c,e2];exact yam _ rfl
 ·have e:b=(s.heap.push {cls:=.type "range",data:=.fields #[.int lo t,.int hi u,.int 1 v]}).objs.size:=by simpa using hb
  subst e;exact a.fpOk (yaj _) (a.hok.fresh (yaj _))
noncomputable def zyh(ta:TA):TI:=fun σ H R=>ta σ H fun vs H1=>∃j:Int,vs=[.int j]/\-(2 ^ 62)<=j/\j<2 ^ 62/\R (Itr 0 j.toNat) H1
noncomputable def zyg(ta:TA):TI:=fun σ H R=>ta σ H fun vs H1=>∃i j:Int,vs=[.int i,.int j]/\(-(2 ^ 62)<=i/\i<2 ^ 62/\-(2 ^ 62)<=j/\j<2 ^ 62)/\R (Itr i (j-i).toNat) H1
theorem znc{a:Expr}{ta:TA}{p pos:Pos}(hg:Gl X "range")(hm:X.mg "range"=none)(J:PA X [a] ta)(hs:autoParam (starEach [a] X.env=[(false,eval a X.env)]) yAW):PI X tg (.Call (.Name "range" p) [a] [] pos) (zyh ta):=by
 intro pins s σ H R I h;refine Call_ (zfU I hg hm boot_range (ybo (thn (J pos pins s σ H _ I h) fun us s1 ⟨vs,H1,f,r1,b⟩=>?_) hs rfl));obtain⟨j,e,b,d,q⟩:=b;subst e
 cases r1 with
 |cons r c=>
  cases c;obtain⟨t,rfl⟩:=r;exact call_range_1 (zku f (by omega) (by omega) b d (by simpa using q))
def znb{a b:Expr}{ta:TA}{p pos:Pos}(hg:Gl X "range")(hm:X.mg "range"=none)(U:PA X [a,b] ta)(hs:autoParam (starEach [a,b] X.env=[(false,eval a X.env),(false,eval b X.env)]) yAW)(J:autoParam (starEach [b] X.env=[(false,eval b X.env)]) yAW):
  PI X tg (.Call (.Name "range" p) [a,b] [] pos) (zyg ta):=by
 intro pins s σ H R I h;refine Call_ (zfU I hg hm boot_range (ybo (thn (U pos pins s σ H _ I h) fun us s1 ⟨vs,H1,l,r1,d⟩=>?_) (by rw[hs,J]) (by rw[J];rfl)));obtain⟨i,j,e,⟨d,k,g,f⟩,q⟩:=d;subst e
 cases r1 with
 |cons r c=>
  cases c with
  |cons r' c=>
   cases c;obtain⟨t,rfl⟩:=r;obtain⟨t',rfl⟩:=r';exact call_range_2 (zku l d k g f q)
noncomputable def zA3(wi:TI)(g:TG)(tb:TS):TS:=fun D σ H=>wi σ H fun J H1=>∃W:Nat->Nat->St->Hp->Prop,(∃m,W 0 m σ H1)/\∀i m σ H,W i m σ H →
 (J.stop i H/\D.nx σ H)\/(J.go i H/\∃N:St->Hp->Prop,(∀a H',N a H'->∃c,c<m/\W (i+1) c a H')/\∀x H',J.yld i H x H'->g x σ H' fun b H2=>tb {D with nx:=N,ct:=N,bk:=D.nx} b H2)
noncomputable def ziE(fp:List Addr)(h:Heap):List (Addr×Obj):=fp.filterMap fun b=>(h.get? b).map fun o=>(b,o)
def zdS(hb:b∈fp)(e:h.get? b=some o):(b,o)∈ziE fp h:=yci.mpr ⟨b,hb,by rw[e];rfl⟩
def znl(J:p∈ziE fp h):p.1∈fp/\h.get? p.1=some p.2:=by
 obtain⟨b,hb,e⟩:=yci.mp J
 cases q:h.get? b with
 |none=>rw[q]at e;cases e|some o=>
  rw[q]at e;have a:(b,o)=p:=Option.some.inj e;subst a;exact⟨hb,q⟩
def Inv.pinned(I:Inv X pins σ H s)(hf:∀b∈fp,zoG X pins H b)(ho:∀b∈fp,∃o,s.heap.get? b=some o/\∀v,o.data≠.cell v):Inv X (pins++ziE fp s.heap) σ H s:=
 I.pins_of fun p c=>(ybb.mp c).elim (fun z=>I.pin p (yaK _ z)) fun z=>by
  obtain⟨hb,e⟩:=znl z;obtain⟨f,f1,f2,_⟩:=hf p.1 hb;obtain⟨o,a,d⟩:=ho p.1 hb;rw[e]at a;cases a;exact⟨e,f,f1,f2,d⟩
def Inv.unpinned(I:Inv X (pins++pl) σ H s):Inv X pins σ H s:=I.pins_of fun p a=>I.pin p (yaK _ (ydf _ a))
def zuK{iter:Expr}{body:List Stmt}{wi:TI}{g:TG}{tb:TS}{pos:Pos}(U:PassesOwn (model X.prog X.w) X.A X.env X.xe)(hc:X.calm=true)(hi:PI X tg iter wi)(hg:PG X tg g)(hb:PSs X body tb)
  (hs:autoParam (∀x,foldedSetIterable iter X.env x=pure x) yAU):PS X (.For tg iter body [] pos) (zA3 wi g tb):=by
 intro pins s σ H D I h;refine wpAny_For (thn (hi pins s σ H _ I h) fun v s1 h1=>thn h1 fun a3 s2 h2=>?_) hs;obtain⟨it,fp,P,J,H2,e,I2,T,G,f2,W,⟨m0,w0⟩,y⟩:=h2;subst e;have k:∀{H':Hp},(∀b∈fp,H' b=none)->∀b∈fp,zoG X pins H' b:=fun hn b hb=>⟨hn b hb,(f2 b hb).2⟩
 refine codeAny_forLoop_any (fun n s'=>∃i j H',Inv X pins j H' s'/\P i s'.heap/\(∀b∈fp,H' b=none)/\W i n j H') ?_ m0 ⟨0,σ,H2,I2,G,fun b hb=>(f2 b hb).1,w0⟩;rintro n R ⟨i,c,E,S,z,C,w3⟩
 rcases y i n c E w3 with⟨stop,qn⟩|⟨go,N,hN,step⟩
 ·refine ycL U (thn (T.done X rfl rfl rfl hc i pins R c E X.xe S (k C) z stop) fun r s4 ⟨L,I4⟩=>?_);subst L;exact wpAny_execs_nil ⟨c,E,I4,qn⟩
 ·refine ycL U (thn (T.item X rfl rfl rfl hc i pins R c E X.xe S (k C) z go) fun r s4 ⟨u,L,h4⟩=>?_);subst L;refine ycL U (thn h4 fun _ Q ⟨x,V,I5,r5,Y,t,M⟩=>?_);have O:=I5.pinned (k M) (T.obj _ _ t);refine ycL U (thn (hg _ Q c V x u _ O r5 (step x V Y)) fun _ s6 ⟨F,H6,I6,q6⟩=>?_);refine ycL U (thn (hb _ s6 F H6 _ I6 q6) fun f K q=>?_)
  have again:∀{a:St}{p:Hp},Inv X (pins++ziE fp Q.heap) a p K->N a p->∃m,m<n/\∃i j H',Inv X pins j H' K/\P i K.heap/\(∀b∈fp,H' b=none)/\W i m j H':=fun {a p} l B=>by
   obtain⟨m',hm,w7⟩:=hN a p B;refine⟨m',hm,i+1,a,p,l.unpinned,T.keep _ _ _ t fun b hb o e=>(l.pin (b,o) (yaK _ (yaK _ (zdS hb e)))).1,fun b hb=>?_,w7⟩;obtain⟨o,e,d⟩:=T.obj _ _ t b hb;exact(l.pin (b,o) (yaK _ (yaK _ (zdS hb e)))).2.1
  cases f with
  |next=>obtain⟨a,p,l,B⟩:=q;exact again l B|cont=>obtain⟨a,p,l,B⟩:=q;exact again l B|brk=>obtain⟨a,p,l,q⟩:=q;exact⟨a,p,l.unpinned,q⟩|ret v=>obtain⟨Z,a,p,l,r7,q⟩:=q;exact⟨Z,a,p,l.unpinned,r7,q⟩
end
noncomputable abbrev R2:=V->V->Hp->VK->Prop
noncomputable def OpR(X:Cx)(f:Value->Value->Sem Value)(r:R2):Prop:=
 ∀(pins:Z3) (s:Shared) (σ:St) (H:Hp) (x y:V) (v u:Value) (Q:VK),Inv X pins σ H s->zaV x v->zaV y u->r x y H Q →
  wpAny (model X.prog X.w) X.A (f v u) (EP X pins σ Q) X.xe s
noncomputable def UnR(X:Cx)(f:Value->Sem Value)(r:V->Hp->VK->Prop):Prop:=
 ∀(pins:Z3) (s:Shared) (σ:St) (H:Hp) (x:V) (v:Value) (Q:VK),Inv X pins σ H s->zaV x v->r x H Q →
  wpAny (model X.prog X.w) X.A (f v) (EP X pins σ Q) X.xe s
noncomputable def zdl(X:Cx)(f:Value)(r:List V->Hp->VK->Prop):Prop:=
 ∀(pins:Z3) (s:Shared) (σ:St) (H:Hp) (xs:List V) (us:List Value) (Q:VK),Inv X pins σ H s->Vals xs us->r xs H Q →
  wpAny (model X.prog X.w) X.A (call f us) (EP X pins σ Q) X.xe s
noncomputable def tOp(r:R2)(ta tb:TE):TE:=fun σ H Q=>ta σ H fun x H1=>tb σ H1 fun y H2=>r x y H2 Q
noncomputable def tUn(r:V->Hp->VK->Prop)(ta:TE):TE:=fun σ H Q=>ta σ H fun x H1=>r x H1 Q
noncomputable def rI(C:Int->Int->Prop)(g:Int->Int->V):R2:=fun x y H Q=>∃i j,x=.int i/\y=.int j/\C i j/\Q (g i j) H
noncomputable def rI0(g:Int->Int->V):R2:=fun x y H Q=>∃i j,x=.int i/\y=.int j/\Q (g i j) H
noncomputable def rU(g:Int->V):V->Hp->VK->Prop:=fun x H Q=>∃i,x=.int i/\Q (g i) H
section
variable{X:Cx}{a b c:Expr}{ta tb tc:TE}{pos:Pos}
def zyC(ha:PE X a ta)(hb:PE X b tb){pins:Z3}{s:Shared}{σ:St}{H:Hp}{R:V->V->Hp->Prop}(I:Inv X pins σ H s)
  (h:ta σ H fun x H1=>tb σ H1 fun y H2=>R x y H2) {Q:Z5}{f:Value->Value->Sem Value}
  (hf:∀v u s2 x y H2,Inv X pins σ H2 s2->zaV x v->zaV y u->R x y H2->wpAny (model X.prog X.w) X.A (f v u) Q X.xe s2):
  wpAny (model X.prog X.w) X.A (eval a X.env) (fun v U=>wpAny (model X.prog X.w) X.A (eval b X.env) (fun u J=>wpAny (model X.prog X.w) X.A (f v u) Q X.xe J) X.xe U) X.xe s:=by
 refine thn (ha pins s σ H _ I h) fun v s1 ⟨x,H1,i,r1,e⟩=>?_
 refine thn (hb pins s1 σ H1 _ i e) fun u s2 ⟨y,H2,g,c,d⟩=>?_
 exact hf v u s2 x y H2 g r1 c d
def zxJ(ho:OpR X (binaryOp op) r)(J:PE X a ta)(hb:PE X b tb):PE X (.BinOp a op b pos) (tOp r ta tb):=by
 intro pins s σ H Q I h;exact wpAny_BinOp (zyC J hb I h fun v u s2 x y H2 e d c q=>ho pins s2 σ H2 x y v u Q e d c q)
def zxH(ho:UnR X (unaryOp op) r)(J:PE X a ta):PE X (.UnaryOp op a pos) (tUn r ta):=by
 intro pins s σ H Q I h;exact UnaryOp_ (thn (J pins s σ H _ I h) fun v s1 ⟨x,H1,c,r1,b⟩=>ho pins s1 σ H1 x v Q c r1 b)
def opI{f:Value->Value->Sem Value}{C:Int->Int->Prop}{g:Int->Int->Int}
  (rule:∀(i j:Int) (t u:Tok) (s:Shared) (Q:Z5) (E:Z5),C i j->Q (.int (g i j) s.toks) {s with toks:=s.toks+1}->wpAny (model X.prog X.w) X.A (f (.int i t) (.int j u)) Q E s):
  OpR X f (rI C fun i j=>.int (g i j)):=by
 intro pins s σ H x y v u Q I b a h;obtain⟨i,j,rfl,rfl,c,q⟩:=h;obtain⟨t,rfl⟩:=b;obtain⟨t',rfl⟩:=a;exact rule i j t t' s _ _ c ⟨.int (g i j),H,I.tok _,⟨_,rfl⟩,q⟩
def zzs{f:Value->Value->Sem Value}{g:Int->Int->Int}
  (rule:∀(i j:Int) (t u:Tok) (s:Shared) (Q:Z5) (E:Z5),Q (.int (g i j) s.toks) {s with toks:=s.toks+1}->wpAny (model X.prog X.w) X.A (f (.int i t) (.int j u)) Q E s):
  OpR X f (rI0 fun i j=>.int (g i j)):=by
 intro pins s σ H x y v u Q I b a h;obtain⟨i,j,rfl,rfl,q⟩:=h;obtain⟨t,rfl⟩:=b;obtain⟨t',rfl⟩:=a;exact rule i j t t' s _ _ ⟨.int (g i j),H,I.tok _,⟨_,rfl⟩,q⟩
def zxQ{f:Value->Value->Sem Value}{g:Int->Int->Bool}
  (rule:∀(i j:Int) (t u:Tok) (s:Shared) (Q:Z5) (E:Z5),Q (.bool (g i j)) s->wpAny (model X.prog X.w) X.A (f (.int i t) (.int j u)) Q E s):
  OpR X f (rI0 fun i j=>.bl (g i j)):=by
 intro pins s σ H x y v u Q I b a h;obtain⟨i,j,rfl,rfl,q⟩:=h;obtain⟨t,rfl⟩:=b;obtain⟨t',rfl⟩:=a;exact rule i j t t' s _ _ ⟨.bl (g i j),H,I,rfl,q⟩
noncomputable def zCs(i j:Int):Prop:=0<j/\j<1073741824
noncomputable def zyJ(i j:Int):Prop:=(-(2 ^ 64)<i/\i<2 ^ 64)\/(-(2 ^ 64)<j/\j<2 ^ 64)
def zyJ.ok(h:zyJ i j):IntMulOk i j:=by
 rcases h with⟨h1,h2⟩|⟨h1,h2⟩
 ·exact .of_left (intBits_le_64 h1 h2)
 ·exact .of_right (intBits_le_64 h1 h2)
def zu2:OpR X (binaryOp .Add) (rI0 fun i j=>.int (i+j)):=zzs fun _ _ _ _ _ _ _ q=>add_int q
def zuW:OpR X (binaryOp .Sub) (rI0 fun i j=>.int (i-j)):=zzs fun _ _ _ _ _ _ _ q=>sub_int q
def zuX:OpR X (binaryOp .Mult) (rI zyJ fun i j=>.int (i*j)):=opI fun _ _ _ _ _ _ _ a q=>mul_int q a.ok
theorem zsw:OpR X (binaryOp .FloorDiv) (rI zCs fun i j=>.int (i / j)):=opI fun i j _ _ _ _ _ a q=>by
 have h1:(0:Int)<j:=a.1;have h2:j<1073741824:=a.2;exact floordiv_int (by omega) (by rw[Int.fdiv_eq_ediv_of_nonneg i (by omega)];exact q) (.inl (PyProof.noPylong_small (by omega)))
theorem zuY:OpR X (binaryOp .Mod) (rI (fun _ j=>0<j) fun i j=>.int (i % j)):=opI fun i j _ _ _ _ _ a q=>by
 have h1:(0:Int)<j:=a;exact mod_int' (by omega) (by rw[Int.fmod_eq_emod_of_nonneg i (by omega)];exact q)
def unI{f:Value->Sem Value}{g:Int->Int}
  (rule:∀(i:Int) (t:Tok) (s:Shared) (Q:Z5) (E:Z5),Q (.int (g i) s.toks) {s with toks:=s.toks+1}->wpAny (model X.prog X.w) X.A (f (.int i t)) Q E s):
  UnR X f (rU fun i=>.int (g i)):=by
 intro pins s σ H x v Q I a h;obtain⟨i,rfl,q⟩:=h;obtain⟨t,rfl⟩:=a;exact rule i t s _ _ ⟨.int (g i),H,I.tok _,⟨_,rfl⟩,q⟩
def ztz:UnR X (unaryOp .USub) (rU fun i=>.int (-i)):=unI fun _ _ _ _ _ q=>neg_int q
end
section
variable{X:Cx}{a b c:Expr}{ta tb tc:TE}{pos:Pos}
def zn9(I:Inv X pins σ H s)(q:Q (.bl k) H)(e:k=k'):EP X pins σ Q (.bool k') s:=by
 subst e;exact⟨.bl k,H,I,rfl,q⟩
def zxN:OpR X (compareOp .Lt) (rI0 fun i j=>.bl (decide (i<j))):=zxQ fun _ _ _ _ _ _ _ q=>lt_int q
def zxO:OpR X (compareOp .LtE) (rI0 fun i j=>.bl (decide (i<=j))):=zxQ fun _ _ _ _ _ _ _ q=>le_int q
def zxP:OpR X (compareOp .Gt) (rI0 fun i j=>.bl (decide (j<i))):=zxQ fun _ _ _ _ _ _ _ q=>gt_int q
def znk:OpR X (compareOp .In) (fun x y H Q=>∃i j,x=.str i/\y=.str j/\Q (.bl (!(Builtin.Str.occurrences j i 0 j.length 1).isEmpty)) H):=by
 intro pins s σ H x y v u Q I b a h;obtain⟨i,j,rfl,rfl,q⟩:=h;obtain⟨t,rfl⟩:=b;obtain⟨t',rfl⟩:=a;exact in_str (zn9 I q rfl)
def zu0:OpR X (compareOp .Is) (fun x y H Q=>y=.non/\Q (.bl (decide (x=.non))) H):=by
 intro pins s σ H x y v u Q I a b h;obtain⟨rfl,q⟩:=h;cases b;refine is_none_gen (zn9 I q ?_)
 cases x<;>first
  |(cases a;rfl)
  |(obtain⟨t,rfl⟩:=a;rfl)
def zsv:OpR X (compareOp .IsNot) (fun x y H Q=>y=.non/\Q (.bl (!decide (x=.non))) H):=by
 intro pins s σ H x y v u Q I a b h;obtain⟨rfl,q⟩:=h;cases b;refine isnot_none_gen (zn9 I q ?_)
 cases x<;>first
  |(cases a;rfl)
  |(obtain⟨t,rfl⟩:=a;rfl)
def zsq(ho:OpR X (compareOp op) r)(J:PE X a ta)(hb:PE X b tb)(hm:behindInMarks op b=false):PE X (.Compare a [op] [b] pos) (tOp r ta tb):=by
 intro pins s σ H Q I h;exact wpAny_Compare1 (zyC J hb I h fun v u s2 x y H2 e d c q=>ho pins s2 σ H2 x y v u Q e d c q) hm
noncomputable def zrs(t:TE):TT:=fun σ H Q=>t σ H fun x H'=>∃k,x=.bl k/\Q k H'
def zsd(ho:OpR X (compareOp op) r)(J:PE X a ta)(hb:PE X b tb)(hm:behindInMarks op b=false):PT X (.Compare a [op] [b] pos) (zrs (tOp r ta tb)):=by
 intro pins s σ H Q I h
 refine wpAny_isTrue_Compare1 (thn (J pins s σ H _ I h) fun v s1 ⟨x,H1,m,r1,i⟩=>thn (hb pins s1 σ H1 _ m i) fun u s2 ⟨y,H2,l,d,g⟩=>
  thn (ho pins s2 σ H2 x y v u _ l r1 d g) fun c o ⟨z,n,j,r3,k,e,f⟩=>?_) hm
 subst e;cases r3;exact ybd ⟨n,j,f⟩
noncomputable def zmr(r r':R2)(ta tb tc:TE):TE:=fun σ H Q=>ta σ H fun x H1=>tb σ H1 fun y H2=>r x y H2 fun z a=>∃k,z=.bl k ∧
 (if k=true then tc σ a fun w' b=>r' y w' b Q else Q (.bl false) a)
def zps{op J:CmpOp}{r r':R2}(ho:OpR X (compareOp op) r)(U:OpR X (compareOp J) r')(ha:PE X a ta)(hb:PE X b tb)(hc:PE X c tc)
  (hm:autoParam (lastMarks [op,J] [b,c]=false) yAO):PE X (.Compare a [op,J] [b,c] pos) (zmr r r' ta tb tc):=by
 intro pins s σ H Q I h
 refine Compare_chain (thn (ha pins s σ H _ I h) fun v s1 ⟨x,H1,B,r1,t⟩=>chain_link (thn (hb pins s1 σ H1 _ B t) fun u s2 ⟨y,H2,A,f,q⟩=>
  thn (ho pins s2 σ H2 x y v u _ A r1 f q) fun d n ⟨z,j,i,r3,k,e,g⟩=>?_)) hm
 subst e;cases r3;refine ybd ?_
 cases k with
 |false=>exact ite_ff ⟨.bl false,j,i,rfl,g⟩|true=>exact ite_tt (chain_last (thn (hc pins n σ j _ i g) fun w' m ⟨l,C,w,o,p⟩=>U pins m σ C y l u w' Q w f o p))
def zpc{op J:CmpOp}{r r':R2}(ho:OpR X (compareOp op) r)(U:OpR X (compareOp J) r')(ha:PE X a ta)(hb:PE X b tb)(hc:PE X c tc)
  (hm:autoParam (lastMarks [op,J] [b,c]=false) yAO):PT X (.Compare a [op,J] [b,c] pos) (zrs (zmr r r' ta tb tc)):=by
 intro pins s σ H Q I h
 refine isTrue_chain (thn (ha pins s σ H _ I h) fun v s1 ⟨x,H1,G,r1,A⟩=>test_link (thn (hb pins s1 σ H1 _ G A) fun u s2 ⟨y,H2,F,f,w⟩=>
  thn (ho pins s2 σ H2 x y v u _ F r1 f w) fun d n ⟨z,j,i,r3,k,e,g⟩=>?_)) hm
 subst e;cases r3;refine ybd ?_
 cases k with
 |false=>
  obtain⟨k',C,B⟩:=g;cases C;exact ite_ff ⟨j,i,B⟩
 |true=>
  refine ite_tt (test_last (thn (hc pins n σ j _ i g) fun w' m ⟨l,L,E,p,t⟩=>thn (U pins m σ L y l u w' _ E f p t) fun d' N ⟨M,K,D,o,k2,e2,q⟩=>?_));subst e2;cases o;exact ybd ⟨K,D,q⟩
def ziO:(sizeLine:Nat)<2 ^ 63:=by rw[ybH];decide
def zlE:OpR X (binaryOp .Add) (fun x y H Q=>∃i j,x=.str i/\y=.str j/\i.length+j.length<=sizeLine/\Q (.str (i++j)) H):=by
 intro pins s σ H x y v u Q I b a h;obtain⟨i,j,rfl,rfl,c,q⟩:=h;obtain⟨t,rfl⟩:=b;obtain⟨t',rfl⟩:=a;exact add_str (fun t' tk=>⟨.str (i++j),H,I.tok _,⟨_,rfl⟩,q⟩) c
def zeN(r:Vals [x] us):∃u,us=[u]/\zaV x u:=by
 cases r with
 |cons r1 a=>cases a;exact⟨_,rfl,r1⟩
def zwU(r:Vals [x,y] us):∃u w',us=[u,w']/\zaV x u/\zaV y w':=by
 cases r with
 |cons r1 b=>
  cases b with
  |cons r3 a=>cases a;exact⟨_,_,rfl,r1,r3⟩
def zot(J:X.calm=true):zdl X (.builtin "max") (fun xs H Q=>∃i j,xs=[.int i,.int j]/\Q (.int (if j > i then j else i)) H):=by
 intro pins s σ H xs us Q I r h;obtain⟨i,j,rfl,q⟩:=h;obtain⟨u,w',rfl,⟨t,rfl⟩,⟨t',rfl⟩⟩:=zwU r;refine max_two_ints (I.ok.hd J) fun h' tk k=>⟨_,H,I.kept k,?_,q⟩
 by_cases a:j > i
 ·rw[if_pos a,if_pos a];exact⟨_,rfl⟩
 ·rw[if_neg a,if_neg a];exact⟨_,rfl⟩
def zi6:zdl X (.type "str") (fun xs H Q=>∃i,xs=[.int i]/\i.natAbs.log2<1920/\Q (.str (toString i)) H):=by
 intro pins s σ H xs us Q I r h;obtain⟨i,rfl,a,q⟩:=h;obtain⟨u,rfl,t,rfl⟩:=zeN r;exact PySem.P.str_of_int a ⟨.str _,H,I.tok _,⟨_,rfl⟩,q⟩
end
structure ObjM(h:Heap)(x dx C:Addr)(mA:Z6):Prop where
 obj:h.get? x=some (PySem.W.instObj C dx)
 ns:h.Ns1 dx mA
 ne:dx≠x
def znv{h:Heap}{mA:Z6}(n:h.Ns1 dx mA):∃J,h.get? dx=some J/\∀name,PySem.W.lookIn name J=some (mA name):=by
 obtain⟨o,es,ep,d,hd,hk,_,hm⟩:=n;refine⟨o,d,fun name=>?_⟩;have e:=hm name;unfold nsFind findBy at e;rw[<-Array.find?_toList]at e;unfold PySem.W.lookIn;rw[hd];dsimp only;split
 ·rename_i y q;rw[q]at e;exact congrArg some e
 ·rename_i q;rw[q]at e
  have a:es.toList.any (·.refKey)=false:=by
   rw[List.any_eq_false];intro y c;obtain⟨z,t,b⟩:=hk y (ybs.mp c);simp[DictEntry.refKey,b]
  have f:¬ es.toList.any (·.refKey)=true:=by rw[a];exact ybg
  rw[if_neg f];exact congrArg some e
def ObjM.look(I:ObjM h x dx C mA):∃J,PySem.W.InstAt h x (PySem.W.instObj C dx) C (some J)/\∀name,PySem.W.lookIn name J=some (mA name):=
 let ⟨J,a,b⟩:=znv I.ns
 ⟨J,⟨I.obj,rfl,rfl,a⟩,b⟩
section
variable{prog:Program}{w:World}{A:Around}{E:Z5}{s:Shared}{K:PySem.W.Frag}{x dx C f:Addr}{mA:Z6}{name:Str}{v:Value}
def zsZ{expr:Bool}{Q:Z5}(X:K.In s.heap)(I:ObjM s.heap x dx C mA)(hg:PySem.W.plainGet K C name=true)(hh:PySem.W.hasDictIn K C=true)
  (ha:PySem.W.findIn K (.ref C) name=some none) (hv:mA name=some v) (U:PySem.W.handedIn v=true) (h:Q v {s with toks:=s.toks+1}):
  wpAny (model prog w) A (getAttr (.ref x) name expr) Q E s:=by
 obtain⟨b,J,a⟩:=I.look;exact PySem.W.get_value X J (ydi hg).1 (PySem.W.findObj_own hh ha rfl (by rw[a,hv])) U h
def zpW(X:K.In s.heap)(I:ObjM s.heap x dx C mA)(hg:PySem.W.plainGet K C name=true)
  (hf:PySem.W.findIn K (.ref C) name=some (some (.ref f))) (ht:PySem.W.isFn K (.ref f)=true) (hv:mA name=none) (h:Q (.ref f,[.ref x]) s):
  wpAny (model prog w) A (getMethod (.ref x) name pl) Q E s:=by
 obtain⟨a,J,b⟩:=I.look;exact PySem.W.method_fn X J (ydi hg).1 (ydi hg).2 hf (ycB.mp ht) (by show(PySem.W.lookIn name a).map (·.isSome)=some false;rw[b,hv];rfl) h
theorem zrT{ns:List Str}{Q:Unit->Shared->Prop}(X:K.In s.heap)(I:ObjM s.heap x dx C mA)
  (hs:PySem.W.findIn K (.ref C) "__setattr__"=some (some (.builtin "object.__setattr__"))) (U:PySem.W.plainOver K C=true) (ht:PySem.W.takerIn K C name=some none) (hh:PySem.W.hasDictIn K C=true)
  (hw:PySem.Within mA ns) (hsz:ns.length<=sizeLine)
  (h:∀h',ObjM h' x dx C (fun y=>if y=name then some v else mA y)->Heap.SameBut dx s.heap h'->Q () {s with heap:=h',toks:=s.toks+2}):
  wpAny (model prog w) A (setAttr (.ref x) name v) Q E s:=by
 obtain⟨n,J,o⟩:=I.look;refine PySem.W.set_plain X J hs (PySem.W.osa_open (s:={s with toks:=s.toks+1}) (r:=none) X J U ht fun b=>?_);obtain⟨cd,k,g⟩:=PySem.W.any_some hh;have j:s.heap.get? x=some ⟨.ref C,some dx,.plain,#[]⟩:=I.obj;refine yaa (yaf (yaa (yaa (wpAny_loadPart j (yaa (PySem.W.Looks.here (s:={s with toks:=s.toks+1}) (PySem.W.looks_clsIn X k) ?_))))));rw[g];refine yaf (a:=some dx) (yaa (yaf (yaa ?_)));refine wpAny_nsSet1 (s:={s with toks:=s.toks+1}) I.ns fun h' d c=>?_
 obtain⟨oD,l,m,e,f,i⟩:=d.count (PySem.Within.cons name v hw);refine yaa (wpAny_lookBehind e (by rw[f];exact pastItsLine_dict (yas i (by rw[yap];omega))) ?_);exact yaf (h _ ⟨(c.2 _ (Ne.symm I.ne)).trans I.obj,d,I.ne⟩ c)
def zpF{R:Result->Shared->Prop}{vs:List Value}{kw:List (Str×Value)}(X:K.In s.heap)(hm:PySem.W.makesIn K C=true)
  (hi:PySem.W.findIn K (.ref C) "__init__"=some (some (.ref f))) (hf:PySem.W.typeIn K (.ref f)=some (.type "function"))
  (h:codeAny (model prog w) (A.under (.builtin "type.__call__" ⟨.ref C::vs,kw⟩)) (.call (.ref f) ⟨.ref (s.heap.objs.size+1)::vs,kw⟩) (PySem.W.InitBack (s.heap.objs.size+1) R)
   {s with heap:=(s.heap.push PySem.W.emptyDict).push (PySem.W.instObj C s.heap.objs.size)}):
  codeAny (model prog w) A (.call (.ref C) ⟨vs,kw⟩) R s:=by
 obtain⟨hh,g,d,t,os⟩:=s;exact PySem.W.make_core (PySem.W.makes_of X hm) (PySem.W.looks_findIn X hi) (fun self=>PySem.W.bind_fn X self hf) (.inl rfl) h
end
noncomputable def zdR(f:Str)(v:V):List (Str×V)->List (Str×V)
 |[]=>[(f,v)]|(g,x)::r=>if g=f then(g,v)::r else(g,x)::zdR f v r
theorem zfR(f g:Str)(v:V):∀fs:List (Str×V),(zdR f v fs).lookup g=if g=f then some v else fs.lookup g
 |[]=>by
  show List.lookup g [(f,v)]=_
  by_cases h:g=f
  ·have hb:(g==f)=true:=ycB.mpr h;simp only[List.lookup,hb,if_pos h]
  ·have hb:(g==f)=false:=ybz.mpr h;simp only[List.lookup,hb,if_neg h]
 |(k,x)::r=>by
  have a:=zfR f g v r;rw[show zdR f v ((k,x)::r)=(if k=f then(k,v)::r else(k,x)::zdR f v r)from rfl]
  by_cases hk:k=f
  ·rw[if_pos hk]
   by_cases h:g=k
   ·have hb:(g==k)=true:=ycB.mpr h;simp only[List.lookup,hb,if_pos (h.trans hk)]
   ·have hb:(g==k)=false:=ybz.mpr h;simp only[List.lookup,hb,if_neg (fun e:g=f=>h (e.trans hk.symm))]
  ·rw[if_neg hk]
   by_cases h:g=k
   ·have hb:(g==k)=true:=ycB.mpr h;simp only[List.lookup,hb,if_neg (fun e:g=f=>hk (h.symm.trans e))]
   ·have hb:(g==k)=false:=ybz.mpr h;simp only[List.lookup,hb];exact a
theorem zfV(f:Str)(v:V):∀fs:List (Str×V),f∈(zdR f v fs).map (·.1)/\∀g,g∈fs.map (·.1)->g∈(zdR f v fs).map (·.1)
 |[]=>⟨by simp[zdR],fun g h=>by simp at h⟩
 |(k,x)::r=>by
  obtain⟨i1,i2⟩:=zfV f v r;rw[show zdR f v ((k,x)::r)=(if k=f then(k,v)::r else(k,x)::zdR f v r)from rfl]
  by_cases hk:k=f
  ·rw[if_pos hk];subst hk;exact⟨by simp,fun g h=>by simpa using h⟩
  ·rw[if_neg hk];refine⟨?_,fun g h=>?_⟩
   ·rw[yaw];exact yal _ i1
   ·rw[yaw]at h ⊢
    rcases yau.mp h with e|e
    ·exact yau.mpr (.inl e)
    ·exact yal _ (i2 g e)
theorem zfS(f:Str)(v:V):∀fs:List (Str×V),(zdR f v fs).length<=fs.length+1
 |[]=>by simp[zdR]
 |(k,x)::r=>by
  have a:=zfS f v r;rw[show zdR f v ((k,x)::r)=(if k=f then(k,v)::r else(k,x)::zdR f v r)from rfl]
  by_cases hk:k=f
  ·rw[if_pos hk,yap,yap];omega
  ·rw[if_neg hk,yap,yap];omega
def zg1.some_of(r:zg1 (some v) o):∃u,o=some u/\zaV v u:=by
 cases o with
 |none=>exact(show False from r).elim|some u=>exact⟨u,rfl,r⟩
def zg1.none_of(r:zg1 none o):o=none:=by
 cases o with
 |none=>rfl|some u=>exact(show False from r).elim
def znZ(r:zaV v u):PySem.W.handedIn u=true:=by
 cases v with
 |non=>cases (show u=Value.none from r);rfl|bl b=>cases (show u=Value.bool b from r);rfl|int i=>obtain⟨t,e⟩:=(show ∃t,u=Value.int i t from r);cases e;rfl|str x=>obtain⟨t,e⟩:=(show ∃t,u=Value.str x t from r);cases e;rfl|byt b=>obtain⟨t,e⟩:=(show ∃t,u=Value.bytes b t from r);cases e;rfl|flt b=>obtain⟨t,e⟩:=(show ∃t,u=Value.float b t from r);cases e;rfl|ref a=>cases (show u=Value.ref a from r);rfl|ty n=>cases (show u=Value.type n from r);rfl
section
variable{P:Program}{w:World}{H H':Hp}{h h':Heap}{a C dx:Addr}{fs fs':List (Str×V)}
def zhD(hok:HOk P w H h)(e:H a=some (.ins C dx fs)):∃mA,ObjM h a dx C mA/\(∀f,zg1 (fs.lookup f) (mA f))/\PySem.Within mA (fs.map (·.1))/\fs.length<=1000/\H dx=some (.own a):=by
 obtain⟨d,z,ne,ob,mA,n,r,q⟩:=(show zba P w H h a (.ins C dx fs)from hok a _ e);exact⟨mA,⟨ob,n,ne⟩,r,q,z,d⟩
end
structure Cls(K:PySem.W.Frag)(C:Addr):Prop where
 pg:PySem.W.plainGet K C Str.empty=true
 hd:PySem.W.hasDictIn K C=true
 po:PySem.W.plainOver K C=true
 sa:PySem.W.findIn K (.ref C) "__setattr__"=some (some (.builtin "object.__setattr__"))
def Cls.get{K:PySem.W.Frag}(c:Cls K C)(f:Str):PySem.W.plainGet K C f=true:=c.pg
noncomputable def zcE(K:PySem.W.Frag)(C:Addr)(f:Str):Prop:=PySem.W.findIn K (.ref C) f=some none
def zcE.taker{K:PySem.W.Frag}(n:zcE K C f):PySem.W.takerIn K C f=some none:=by
 unfold PySem.W.takerIn;rw[show PySem.W.findIn K (.ref C) f=some none from n];rfl
structure Meth(K:PySem.W.Frag)(C:Addr)(m:Str)(f:Addr):Prop where
 at_:PySem.W.findIn K (.ref C) m=some (some (.ref f))
 fn:PySem.W.isFn K (.ref f)=true
 kp:PySem.W.keepIn K (.ref f)=true
section
variable{X:Cx}{pins:Z3}{σ:St}{H:Hp}{s:Shared}{a C dx:Addr}{fs:List (Str×V)}{f:Str}{v:V}{A:Around}{E:Z5}
def zlL(I:Inv X pins σ H s)(e:H a=some (.ins C dx fs))(c:Cls X.K C)(n:zcE X.K C f)(l:fs.lookup f=some v)
  (h:∀u s',Inv X pins σ H s'->zaV v u->Q u s'):wpAny (model X.prog X.w) A (getAttr (.ref a) f b) Q E s:=by
 obtain⟨mA,O,r,_,_,_⟩:=zhD I.hok e;obtain⟨u,g,d⟩:=zg1.some_of (v:=v) (o:=mA f) (by rw[<-l];exact r f);exact zsZ I.kIn O (c.get f) c.hd n g (znZ d) (h u _ (I.tok _) d)
def zgQ(I:Inv X pins σ H s)(e:H a=some (.ins C dx fs))(c:Cls X.K C)(k:Meth X.K C m g)(l:fs.lookup m=none)
  (h:Q (.ref g,[.ref a]) s):wpAny (model X.prog X.w) A (getMethod (.ref a) m pl) Q E s:=by
 obtain⟨mA,O,r,_,_,_⟩:=zhD I.hok e;have b:mA m=none:=zg1.none_of (by rw[<-l];exact r m);exact zpW I.kIn O (c.get m) k.at_ k.fn b h
def zll(I:Inv X pins σ H s)(e:H a=some (.ins C dx fs))(c:Cls X.K C)(n:zcE X.K C f)(U:fs.length<1000)(J:zaV y u)
  (h:∀s',Inv X pins σ (upd H a (.ins C dx (zdR f y fs))) s'->Q () s'):wpAny (model X.prog X.w) A (setAttr (.ref a) f u) Q E s:=by
 obtain⟨mA,O,r,wi,_,i⟩:=zhD I.hok e
 have k:(fs.map (·.1)).length<=sizeLine:=by rw[yae,ybH];omega
 refine zrT I.kIn O c.sa c.po n.taker c.hd wi k fun h' d j=>h _ ?_
 have hd:∃o,h'.get? dx=some o:=let ⟨o,_,_,l,_⟩:=d.ns;⟨o,l⟩
 refine I.write (x:=a) (e:=dx) (by rw[e];exact True.intro) (.inr i) (fun b q hb z=>(j.2 b hb).trans z) hd ?_;refine⟨by rw[zai O.ne];exact i,?_,O.ne,d.obj,_,d.ns,fun g=>?_,fun g hg=>?_⟩
 ·have:=zfS f y fs;omega
 ·show zg1 ((zdR f y fs).lookup g) (if g=f then some u else mA g);rw[zfR]
  by_cases q:g=f
  ·rw[if_pos q,if_pos q];exact J
  ·rw[if_neg q,if_neg q];exact r g
 ·by_cases q:g=f
  ·rw[q];exact(zfV f y fs).1
  ·refine(zfV f y fs).2 g (wi g fun z=>hg ?_);show(if g=f then some u else mA g)=none;rw[if_neg q];exact z
def Inv.made(I:Inv X pins σ H s):Inv X pins σ (upd (upd H s.heap.objs.size (.own (s.heap.objs.size+1))) (s.heap.objs.size+1) (.ins C s.heap.objs.size []))
  {s with heap:=(s.heap.push PySem.W.emptyDict).push (PySem.W.instObj C s.heap.objs.size)}:=by
 have c:(s.heap.push PySem.W.emptyDict).get? s.heap.objs.size=some PySem.W.emptyDict:=yam s.heap rfl
 have e2:((s.heap.push PySem.W.emptyDict).push (PySem.W.instObj C s.heap.objs.size)).get? (s.heap.objs.size+1)=some (PySem.W.instObj C s.heap.objs.size):=by
  have:=yam (s.heap.push PySem.W.emptyDict) (o:=PySem.W.instObj C s.heap.objs.size) rfl
  rwa[ybc]at this
 have f:(s.heap.push PySem.W.emptyDict).Ns s.heap.objs.size (fun _=>none):=⟨PySem.W.emptyDict,#[],_,c,rfl,(fun e he=>absurd he (by simp)),fun _=>rfl⟩;have g:=I.laid (a:=s.heap.objs.size) (o:=.own (s.heap.objs.size+1)) (h':=s.heap.push PySem.W.emptyDict) (t':=s.toks) (fun b u q=>yad _ q) (yaj _) ⟨_,c⟩;refine g.laid (a:=s.heap.objs.size+1) (o:=.ins C s.heap.objs.size []) (t':=s.toks) (fun b u q=>yad _ q) (ydt (ybc _ _)) ?_;have ne:s.heap.objs.size≠s.heap.objs.size+1:=yav (ycd _);refine⟨by rw[zai ne,zat],yaR _,ne,e2,fun _=>none,(Heap.Ns1.of_empty f).at fun o q=>yad _ q,fun _=>True.intro,fun y d=>absurd rfl d⟩
def zti(hb:attributeBase e f env (eval e env)=eval e env)
  (h:wpAny (model prog w) A (eval e env) (fun o J=>wpAny (model prog w) A (getAttr o f true) Q E J) E s):wpAny (model prog w) A (eval (.Attribute e f pos) env) Q E s:=
 Attribute_any_ h (by rw[arm_eval_Attribute,hb])
end
noncomputable def zxh(K:PySem.W.Frag)(ta:TE)(f:Str):TE:=fun σ H Q=>ta σ H fun x H1=>∃a C dx fs v,x=.ref a/\H1 a=some (.ins C dx fs)/\Cls K C/\zcE K C f/\fs.lookup f=some v/\Q v H1
noncomputable def zA8(K:PySem.W.Frag)(ta tv:TE)(f:Str):TS:=fun D σ H=>tv σ H fun y H1=>ta σ H1 fun x H2=>∃a C dx fs,x=.ref a/\H2 a=some (.ins C dx fs)/\Cls K C/\zcE K C f/\fs.length<1000 ∧
 D.nx σ (upd H2 a (.ins C dx (zdR f y fs)))
section
variable{X:Cx}{o e value:Expr}{f:Str}{pos pos' tpos:Pos}{ta tv:TE}
def zcv(he:PE X e ta)(hb:attributeBase e f X.env (eval e X.env)=eval e X.env):PE X (.Attribute e f pos) (zxh X.K ta f):=by
 intro pins s σ H Q I h;refine zti hb (thn (he pins s σ H _ I h) fun u s1 ⟨x,H1,j,b,a,C,dx,fs,v,ex,g,c,n,l,q⟩=>?_);subst ex;obtain rfl:u=Value.ref a:=b;exact zlL j g c n l fun k s2 i d=>⟨v,H1,i,d,q⟩
def zky(J:PE X o ta)(hv:PE X value tv)(hs:swapsWith value (some (.Attribute o f pos')) pos.line X.env=pure false):PS X (.Assign [.Attribute o f pos'] value pos) (zA8 X.K ta tv f):=by
 intro pins s σ H D I h;refine plainObj_wpAny_Assign_Attribute (thn (hv pins s σ H _ I h) fun u s1 ⟨y,H1,k,b,q⟩=>thn (J pins s1 σ H1 _ k q) fun ov s2 ⟨x,H2,j,d,a,C,dx,fs,ex,g,c,n,l,e⟩=>?_) hs;subst ex;obtain rfl:ov=Value.ref a:=d;exact zll j g c n l b fun m i=>⟨σ,_,i,e⟩
end
section
variable{X:Cx}{pins:Z3}{σ:St}{H:Hp}{s:Shared}{A:Around}{E:Z5}{Q:Z5}{c:Value}{b:Bool}
inductive TyOf(K:PySem.W.Frag)(H:Hp):V->Value->Prop where
 |non:TyOf K H .non (.type "NoneType")
 |bl (x:Bool):TyOf K H (.bl x) (.type "bool")
 |int (i:Int):TyOf K H (.int i) (.type "int")
 |str (x:Str):TyOf K H (.str x) (.type "str")
 |flt (x:UInt64):TyOf K H (.flt x) (.type "float")
 |lst {a:Addr}{xs:List V} (e:H a=some (.lst xs)):TyOf K H (.ref a) (.type "list")
 |frz {a:Addr}{o:Obj}{xs:List V} (e:H a=some (.frz o (.lst xs))):TyOf K H (.ref a) (.type "list")
 |tup {a:Addr}{xs:List V} (e:H a=some (.tup xs)):TyOf K H (.ref a) (.type "tuple")
 |dK {a:Addr}{kvs:List (Key×V)} (e:H a=some (.dK kvs)):TyOf K H (.ref a) (.type "dict")
 |dT {a:Addr}{kvs:List (List Key×V)} (e:H a=some (.dT kvs)):TyOf K H (.ref a) (.type "dict")
 |ins {a C dx:Addr}{fs:List (Str×V)} (e:H a=some (.ins C dx fs)) (cl:Cls K C) (ha:PySem.W.findIn K (.ref C) "__class__"=some (some (.builtin "object.__class__")))
   (hn:PySem.W.specialIn K (.builtin "object.__class__") "__get__"=some (some (.builtin "getset_descriptor.__get__"))) (htk:PySem.W.takesIn K (.builtin "object.__class__")=some true)
   (hm:PySem.W.mroIn K C (.type "object")=some true):TyOf K H (.ref a) (.ref C)
def znO{x:V}{u t:Value}(I:Inv X pins σ H s)(U:zaV x u)(ty:TyOf X.K H x t)(e:PySem.W.kitOne X.K t c=some b)(h:∀tk,Q (.bool b) {s with toks:=tk}):
  wpAny (model X.prog X.w) A (call (.builtin "isinstance") [u,c]) Q E s:=by
 cases ty with
 |non=>cases (show u=Value.none from U);exact ybh PySem.W.kitx_none I.kIn True.intro e (fun z=>nomatch z) h|bl y=>cases (show u=Value.bool y from U);exact ybh PySem.W.kitx_bool I.kIn True.intro e (fun z=>nomatch z) h|int i=>obtain⟨t,q⟩:=(show ∃t,u=Value.int i t from U);cases q;exact ybh PySem.W.kitx_int I.kIn True.intro e (fun z=>nomatch z) h|str y=>obtain⟨t,q⟩:=(show ∃t,u=Value.str y t from U);cases q;exact ybh PySem.W.kitx_str I.kIn True.intro e (fun z=>nomatch z) h|flt y=>obtain⟨t,q⟩:=(show ∃t,u=Value.float y t from U);cases q;exact ybh PySem.W.kitx_float I.kIn True.intro e (fun z=>nomatch z) h| @lst a xs d=>
  cases (show u=Value.ref a from U);obtain⟨_,_,n,_,h1⟩:=(show zba X.prog X.w H s.heap a (.lst xs)from I.hok a _ d);exact ybh PySem.W.kitx_list I.kIn ⟨_,h1,rfl⟩ e (fun z=>nomatch z) h
 | @frz a ob xs d=>
  cases (show u=Value.ref a from U);obtain⟨_,_,_,n,_,h1⟩:=(show zba X.prog X.w H s.heap a (.frz ob (.lst xs))from I.hok a _ d);exact ybh PySem.W.kitx_list I.kIn ⟨_,h1,rfl⟩ e (fun z=>nomatch z) h
 | @tup a xs d=>
  cases (show u=Value.ref a from U);obtain⟨_,_,_,p⟩:=(show zba X.prog X.w H s.heap a (.tup xs)from I.hok a _ d);obtain⟨o,h1,h2,_⟩:=p;exact ybh PySem.W.kitx_tuple I.kIn ⟨o,h1,h2⟩ e (fun z=>nomatch z) h
 | @dK a kvs d=>
  cases (show u=Value.ref a from U);obtain⟨_,_,vs,_,p⟩:=(show zba X.prog X.w H s.heap a (.dK kvs)from I.hok a _ d);obtain⟨o,es,ep,h1,h2,_⟩:=p;exact ybh PySem.W.kitx_dict I.kIn ⟨o,h1,h2.1⟩ e (fun z=>nomatch z) h
 | @dT a kvs d=>
  cases (show u=Value.ref a from U);obtain⟨_,_,xs,_,o,es,ep,h1,h2,_⟩:=(show zba X.prog X.w H s.heap a (.dT kvs)from I.hok a _ d);exact ybh PySem.W.kitx_dict I.kIn ⟨o,h1,h2.1⟩ e (fun z=>nomatch z) h
 | @ins a C dx fs d cl j g f hm=>
  cases (show u=Value.ref a from U);obtain⟨mA,O,_⟩:=zhD I.hok d;obtain⟨k,J,_⟩:=O.look;exact ybh (PySem.W.kitx_own (cl.get _) cl.hd j g f hm) I.kIn J e (fun z=>nomatch z) h
end
structure Room(k:Nat)(A:Around):Prop where
 hd:A.handled=none
 dp:A.depth+3*k+5<recursionLimit
 un:A.units+16*k+200<cLine
theorem Room.mono(r:Room k A)(h:j<=k):Room j A:=⟨r.hd,by have:=r.dp;omega,by have:=r.un;omega⟩
theorem Room.deeper(r:Room (k+1) A)(env:Env):Room k (A.deeper env):=
 ⟨r.hd,by have:=r.dp;show A.depth+1+3*k+5<_;omega,by have:=r.un;show A.units+3+16*k+200<_;omega⟩
def zlH{A:Around}:(A.under (.builtin "type.__call__" ⟨.ref C::us,kw⟩)).depth=A.depth+1:=by
 first|rfl|simp[Around.under,Code.weight,Code.isCreation,Code.isGuard,Code.isCaller,Code.frames,Code.isFrame,guardIds]
def zlG{A:Around}:(A.under (.builtin "type.__call__" ⟨.ref C::us,kw⟩)).units=A.units+1:=by
 first|rfl|simp[Around.under,Code.cUnits,Code.frames,Code.isFrame]
theorem Room.make(r:Room (k+1) A)(C:Addr)(us:List Value)(kw:List (Str×Value)):Room k (A.under (.builtin "type.__call__" ⟨.ref C::us,kw⟩)):=
 ⟨r.hd,by have:=r.dp;rw[zlH];omega,by have:=r.un;rw[zlG];omega⟩
theorem Room.depth(r:Room k A):A.depth<recursionLimit:=by have:=r.dp;omega
theorem Room.units(r:Room k A):A.units+64<cLine:=by have:=r.un;omega
noncomputable def zwE:TA:=fun _ H Q=>Q [] H
noncomputable def zrv(ta:TE)(J:TA):TA:=fun σ H Q=>ta σ H fun x H1=>J σ H1 fun xs H2=>Q (x::xs) H2
section
variable{X:Cx}{e:Expr}{es:List Expr}{te:TE}{t:TA}{pos:Pos}
def zcx:PA X [] zwE:=fun _ _ _ _ H Q I h=>yc0 ⟨[],H,I,.nil,h⟩
def zbg(U:PE X e te)(J:PA X es t)(hs:autoParam (starEach (e::es) X.env=(false,eval e X.env)::starEach es X.env) yAW):PA X (e::es) (zrv te t):=by
 intro pos pins s σ H Q I h;rw[hs];show wpAny _ _ (spliced ((false,eval e X.env)::backTo pos (starEach es X.env))) _ _ s;refine ybX (thn (U pins s σ H _ I h) fun u s1 ⟨x,H1,f,r1,c⟩=>?_);exact thn (J pos pins s1 σ H1 _ f c) fun us s2 ⟨xs,H2,d,a,b⟩=>⟨x::xs,H2,d,.cons r1 a,b⟩
noncomputable def zAX(t:TA):TE:=fun σ H Q=>t σ H fun xs H1=>xs.length<=sizeLine/\∀p,H1 p=none->Q (.ref p) (upd H1 p (.tup xs))
noncomputable def zA1(t:TA):TE:=fun σ H Q=>t σ H fun xs H1=>xs.length<=sizeLine/\∀p,H1 p=none->Q (.ref p) (upd H1 p (.lst xs))
def zqN{J}(h:PA X es t):PE X (.Tuple es J pos) (zAX t):=by
 intro pins s σ H Q I c;refine wpAny_Tuple_spliced (thn (h pos pins s σ H _ I c) fun us s1 ⟨xs,H1,a,r,z,q⟩=>⟨by rw[<-r.length];exact z,?_⟩);have hf:H1 s1.heap.objs.size=none:=a.hok.fresh (yaj _);refine⟨.ref s1.heap.objs.size,upd H1 s1.heap.objs.size (.tup xs),a.laid (t':=s1.toks) (fun b u e=>yad _ e) (yaj _) ?_,rfl,q _ hf⟩;exact⟨z,us,r,⟨_,yam _ rfl,rfl,_,rfl,rfl⟩⟩
def zqP(h:PA X es t):PE X (.List es pos) (zA1 t):=by
 intro pins s σ H Q I c;refine wpAny_List_spliced (thn (h pos pins s σ H _ I c) fun us s1 ⟨xs,H1,a,r,z,q⟩=>⟨by rw[<-r.length];exact z,?_⟩);have hf:H1 s1.heap.objs.size=none:=a.hok.fresh (yaj _);refine⟨.ref s1.heap.objs.size,upd H1 s1.heap.objs.size (.lst xs),a.laid (t':=s1.toks) (fun b u e=>yad _ e) (yaj _) ?_,rfl,q _ hf⟩;exact⟨z,us,0,r,yam _ rfl⟩
end
noncomputable abbrev Sp:=List V->Hp->VK->XK->Prop
noncomputable abbrev CXT:=List Env->Hp->Shared->XK->Value->Shared->Prop
structure Env0(P:Program)(w:World)(K:PySem.W.Frag)(mg:Z6)(base:Heap)(A:Around)(outer:List Env)(s:Shared)(H:Hp):Prop where
 frames:A.frames=some outer
 mod:Mod K mg base
 bs:∀b o,base.get? b=some o->s.heap.get? b=some o/\H b=none
 bsz:base.objs.size<=s.heap.objs.size
 funs:s.heap.FunFrames base outer
 frf:∀b∈frs outer,H b=none
 hok:HOk P w H s.heap
 bare:AllBare s.gens
noncomputable def CE(outer:List Env)(P:Program)(w:World)(H:Hp)(s:Shared)(Q:VK)(u:Value)(s':Shared):Prop:=
 ∃v H',s'.os=s.os/\AllBare s'.gens/\Un (frs outer) [] H H' s.heap s'.heap/\HOk P w H' s'.heap/\zaV v u/\Q v H'
noncomputable def CR(CX:CXT)(outer:List Env)(P:Program)(w:World)(H:Hp)(s:Shared)(Q:VK)(E:XK)(r:Result)(s':Shared):Prop:=
 match r with
 |.ok (.ret u)=>CE outer P w H s Q u s'|.ok _=>False|.error e=>CX outer H s E e s'
structure FnOk(P:Program)(w:World)(K:PySem.W.Frag)(mg:Z6)(base:Heap)(CX:CXT)(k:Nat)(f:Addr)(fd:FuncData)(ps:List Str)(sp:Sp):Prop where
 len:∀vs H Q E,sp vs H Q E->vs.length=ps.length
 run:∀(A:Around) (outer:List Env) (s:Shared) (H:Hp) (args:Args) (us:List Value) (vs:List V) (Q:VK) (E:XK),Room k A->Env0 P w K mg base A outer s H->BindsTo s fd args (ps.zip us)->Vals vs us->sp vs H Q E →
  codeAny (model P w) A (.call (.ref f) args) (CR CX outer P w H s Q E) s
theorem FnOk.mono{P:Program}{K:PySem.W.Frag}{j k:Nat}(F:FnOk P w K mg base CX j f fd ps sp)(h:j<=k):
  FnOk P w K mg base CX k f fd ps sp:=⟨F.len,fun A outer s H args us vs Q E a=>F.run A outer s H args us vs Q E (a.mono h)⟩
def FnOk.imp{P:Program}{K:PySem.W.Frag}{k:Nat}(F:FnOk P w K mg base CX k f fd ps sp)
  (h:∀vs H Q E,J vs H Q E->sp vs H Q E):FnOk P w K mg base CX k f fd ps J:=
 ⟨fun vs H Q E q=>F.len vs H Q E (h _ _ _ _ q),fun A outer s H args us vs Q E a he hb hv hs=>F.run A outer s H args us vs Q E a he hb hv (h _ _ _ _ hs)⟩
def Env0.make{P:Program}{K:PySem.W.Frag}{A:Around}(e:Env0 P w K mg base A outer s H)(C:Addr)(us:List Value)(kw:List (Str×Value)):
  Env0 P w K mg base (A.under (.builtin "type.__call__" ⟨.ref C::us,kw⟩)) outer s H:=⟨by first|exact e.frames|(simpa[Around.under,Code.envs,Code.isFrame,pushEnvs]using e.frames),e.mod,e.bs,e.bsz,e.funs,e.frf,e.hok,e.bare⟩
section
variable{X:Cx}{pins:Z3}{σ:St}{H:Hp}{s s':Shared}
def Inv.env0(I:Inv X pins σ H s):Env0 X.prog X.w X.K X.mg X.base X.A X.stack s H:=
 ⟨I.ok.frames,I.ok.mod,I.bs,yas I.ok.bsz I.sz,I.stack,I.stkFree,I.hok,I.bare⟩
def Inv.after(I:Inv X pins σ H s)(h:CE X.stack X.prog X.w H s Q u s'):EP X pins σ Q u s':=by
 obtain⟨v,H',os,bare,un,hok,r,q⟩:=h;obtain⟨hh,g,d,t,a⟩:=s';obtain rfl:a=s.os:=os;exact⟨v,H',I.call (h':=hh) (g':=g) (d':=d) (t':=t) (ch:=[]) un hok bare (fun b z=>absurd z (by simp)),r,q⟩
end
noncomputable def zdm(K:PySem.W.Frag)(fd:FuncData)(ps:List Str)(ds:List Value):Prop:=
 ∀(s:Shared) (us:List Value),K.In s.heap->(us++ds).length=ps.length->BindsTo s fd ⟨us,[]⟩ (ps.zip (us++ds))
def zdm.all{K:PySem.W.Frag}{ps:List Str}(h:∀us:List Value,us.length=ps.length->bindArgs fd ⟨us,[]⟩=pure (ps.zip us)):zdm K fd ps []:=fun s us _ a=>by
 rw[yaO]at a ⊢;exact .of_eq (h us a)
noncomputable def zwu(CX:CXT)(X:Cx)(E:XK):Prop:=∀(pins:Z3) (σ:St) (H:Hp) (s:Shared) (e:Value) (s':Shared),Inv X pins σ H s->CX X.stack H s E e s'->X.xe e s'
section
variable{X:Cx}{CX:CXT}{k:Nat}{f C:Addr}{fd:FuncData}{ps:List Str}{sp:Sp}{dvs:List V}{ds:List Value}{E:XK}{x m:Str}{p pos apos:Pos}{e o:Expr}{es:List Expr}{ta:TE}{t:TA}
structure Mk(K:PySem.W.Frag)(C f:Addr):Prop where
 makes:PySem.W.makesIn K C=true
 init:PySem.W.findIn K (.ref C) "__init__"=some (some (.ref f))
 fn:PySem.W.isFn K (.ref f)=true
 kp:PySem.W.keepIn K (.ref C)=true
end
structure FnScope(N P:List Str)(sc:Scope):Prop where
 kind:sc.kind=.function
 co:sc.isCoroutine=false
 gen:sc.isGenerator=false
 nd:N.Nodup
 pre:N.take P.length=P
 par:∀x∈P,sc.names.lookup x=some .local\/sc.names.lookup x=some .cell
 nofree:∀y∈sc.names,y.2≠.free
theorem zi8{kindOf:Str->Option NameKind}:∀{binds:List (Str×Value)}{m:Z6},(∀v,(x,v) ∉ binds)->bindL kindOf binds m x=m x
 |[],_,_=>rfl|(n,v)::r,m,h=>by
  unfold bindL;rw[zi8 fun w a=>h w (yal _ a)];split
  ·have:x≠n:=by rintro rfl;exact h v yan
   simp[this]
  ·rfl
theorem zja{kindOf:Str->Option NameKind}:∀{binds:List (Str×Value)}{m:Z6},(∀v,(x,v) ∉ binds)->bindC kindOf binds m x=m x
 |[],_,_=>rfl|(n,v)::r,m,h=>by
  unfold bindC;rw[zja fun w a=>h w (yal _ a)];split
  ·rfl
  ·have:x≠n:=by rintro rfl;exact h v yan
   simp[this]
theorem zi9{kindOf:Str->Option NameKind}:∀{P:List Str}{vs:List Value}{i:Nat}{m:Z6},P.Nodup->P[i]?=some x->vs[i]?=some v->kindOf x=some .local →
  bindL kindOf (P.zip vs) m x=some v
 |[],_,_,_,_,h,_,_=>by simp at h
 |_::_,[],_,_,_,_,h,_=>by simp at h
 |p::P,w::vs,0,m,nd,h1,h2,hk=>by
  simp at h1 h2;subst h1;subst h2;show bindL kindOf ((p,w)::P.zip vs) m p=_;unfold bindL;rw[zi8 fun v hv=>(ybp.mp nd).1 (List.of_mem_zip hv).1,if_pos hk];simp
 |p::P,w::vs,i+1,m,nd,h1,h2,hk=>by
  show bindL kindOf ((p,w)::P.zip vs) m x=_;unfold bindL;exact zi9 (i:=i) (ybp.mp nd).2 (by simpa using h1) (by simpa using h2) hk
theorem zjb{kindOf:Str->Option NameKind}:∀{P:List Str}{vs:List Value}{i:Nat}{m:Z6},P.Nodup->P[i]?=some x->vs[i]?=some v->kindOf x≠some .local →
  bindC kindOf (P.zip vs) m x=some v
 |[],_,_,_,_,h,_,_=>by simp at h
 |_::_,[],_,_,_,_,h,_=>by simp at h
 |p::P,w::vs,0,m,nd,h1,h2,hk=>by
  simp at h1 h2;subst h1;subst h2;show bindC kindOf ((p,w)::P.zip vs) m p=_;unfold bindC;rw[zja fun v hv=>(ybp.mp nd).1 (List.of_mem_zip hv).1,if_neg hk];simp
 |p::P,w::vs,i+1,m,nd,h1,h2,hk=>by
  show bindC kindOf ((p,w)::P.zip vs) m x=_;unfold bindC;exact zjb (i:=i) (ybp.mp nd).2 (by simpa using h1) (by simpa using h2) hk
noncomputable def zgq(N:List Str)(vs:List V):St:=vs.map some++List.replicate (N.length-vs.length) none
noncomputable def zqc(CX:CXT)(P:Program)(w:World)(K:PySem.W.Frag)(mg:Z6)(base:Heap)(N:List Str)(qual:Str)(scope:Scope)(f:Addr)(cd:Value)(A:Around)(outer:List Env)(s:Shared)(H:Hp)(E:XK):Cx where
 prog:=P
 w:=w
 K:=K
 mg:=mg
 base:=base
 A:=A.deeper (envOfC qual scope s.heap.objs.size f cd)
 N:=N
 s₀:=s
 H₀:=H
 env:=envOfC qual scope s.heap.objs.size f cd
 outer:=outer
 stack:=envOfC qual scope s.heap.objs.size f cd::outer
 ex:=[]
 calm:=true
 fn:=fun _=>true
 pn:=[]
 xe:=fun e s'=>wpAny (model P w) (A.deeper (envOfC qual scope s.heap.objs.size f cd)) (leaving (envOfC qual scope s.heap.objs.size f cd) e) (fun _ a=>CX outer H s E e a) (fun b a=>CX outer H s E b a) s'
def zk5{sc:Scope}(h:sc.names.lookup x=some .cell):∃c,(cellsFrom n sc.names []).lookup x=some c:=by
 have q:=PySem.W.cellsFrom_some sc.names n [] (.inl h);exact Option.isSome_iff_exists.mp q
theorem znT{P:Program}{K:PySem.W.Frag}{N ps:List Str}{scope:Scope}{A:Around}{s s1:Shared}{vs:List V}
  (S:FnScope N ps scope) (hd:A.handled=none) (J:Env0 P w K mg base A outer s H) (U:vs.length=ps.length) (r:Vals vs us)
  (x:InCallC s s.heap.objs.size (bindL (envOfC qual scope s.heap.objs.size f cd).kindOf (ps.zip us) fun _=>none) (cellsFrom (s.heap.objs.size+1) scope.names []) (bindC (envOfC qual scope s.heap.objs.size f cd).kindOf (ps.zip us) fun _=>none) s1):
  Inv (zqc CX P w K mg base N qual scope f cd A outer s H E) [] (zgq N vs) H s1:=by
 have af:ps.length<=N.length:=by have:=congrArg List.length S.pre;rw[List.length_take]at this;omega
 obtain⟨h1,tk,rfl,hk⟩:=x.done;have d:∀b:Addr,b ∉ (zqc CX P w K mg base N qual scope f cd A outer s H E).ex:=fun b z=>absurd (show b∈([]:List Addr)from z) (by simp)
 refine⟨⟨J.mod,S.kind,rfl,rfl,yaj _,fun y z c h1 h2=>?_,fun y g=>?_,fun y c _ h=>?_,fun _=>hd,Around.frames_deeper J.frames,.inr ⟨rfl,rfl⟩,fun b z=>absurd z (d b),J.bs,J.bsz,fun b _ _=>d b,fun b z=>absurd z (d b),J.funs,J.frf⟩,
  rfl,J.bare,Un.kept hk,⟨_,x.toInCall.ns,fun i y v h1 h2 B=>?_⟩,fun y c h=>⟨_,x.cell y c h⟩,J.hok.fresh (yaj _),fun y c h=>?_,fun p l=>absurd (show p∈([]:Z3)from l) (by simp),J.hok.kept hk,?_⟩
 ·exact name_of_addr x.apart (yaP h1) (yaP h2)
 ·have g:scope.names.lookup y=some .cell\/scope.names.lookup y=some .free:=g
  rcases g with g|g
  ·exact zk5 g
  ·exact absurd rfl (S.nofree _ (yaP g))
 ·exact ycl (x.above y c (yaP h))
 ·have hi:i<vs.length:=by
   unfold zgq at h2
   by_cases hi:i<vs.length
   ·exact hi
   ·rw[yaA (by simpa using hi)]at h2;rw[ycb]at h2
    split at h2<;>cases h2
  have t:vs[i]?=some v:=by
   unfold zgq at h2;rw[yaF (by simpa using hi),yax]at h2
   cases e:vs[i]? with
   |none=>rw[e]at h2;cases h2|some a=>rw[e]at h2;cases h2;rfl
  obtain⟨u,m,o⟩:=r.get t
  have l:ps[i]?=some y:=by
   rw[<-S.pre,List.getElem?_take_of_lt (by omega)];exact h1
  have j:ps.Nodup:=by rw[<-S.pre];exact S.nd.sublist (List.take_sublist _ _)
  refine⟨u,o,?_⟩
  rcases S.par y (ybt l)with k|k
  ·exact .inl ⟨k,zi9 j l m k⟩
  ·obtain⟨c,e⟩:=zk5 (n:=s.heap.objs.size+1) k;refine .inr ⟨.inl k,c,e,?_⟩;have q:=x.cell y c e;rw[zjb j l m (by show scope.names.lookup y≠_;rw[k];decide)]at q;exact q
 ·exact J.hok.fresh (ycl (x.above y c (yaP h)))
 ·unfold zgq;show _=N.length;rw[yak,yae,ya2];omega
def zyk{CX:CXT}{P:Program}{w:World}{K:PySem.W.Frag}{mg:Z6}{base:Heap}{k:Nat}{f:Addr}{name qual:Str}{params:Arguments}{body:List Stmt}{scope:Scope}{dV kV doc pm U ct oc:Value}{an od:Option Addr}
  {a4:Array (Option Value)}{N ps:List Str}{sp:Sp} (lk:K.lookup f=some ⟨oc,od,.func (PySem.W.fnOf name qual params body scope dV kV doc pm an U ct),a4⟩) (hcd:PySem.W.codeIn K U qual=true) (S:FnScope N ps scope)
  (len:∀vs H Q E,sp vs H Q E->vs.length=ps.length)
  (a3:∀(A:Around) (outer:List Env) (s:Shared) (H:Hp) (vs:List V) (Q:VK) (E:XK),Room k (A.deeper (envOfC qual scope s.heap.objs.size f U))->sp vs H Q E →
   ∃t,PSs (zqc CX P w K mg base N qual scope f U A outer s H E) body t/\t {nx:=fun _ H'=>Q .non H',rt:=Q} (zgq N vs) H):
  FnOk P w K mg base CX (k+1) f (PySem.W.fnOf name qual params body scope dV kV doc pm an U ct) ps sp:=by
 refine⟨len,fun A outer s H args us vs Q E i g hb r d=>?_⟩;have p:=len _ _ _ _ d;have j:K.In s.heap:=g.mod.kin.keeps fun b o e=>(g.bs b o e).1
 have lim:s.heap.NoLimit:=g.mod.nolimit.keeps fun b o e=>(g.bs b o e).1
 have c:∀y∈ps.zip us,scope.names.lookup y.1=some .local\/(scope.names.lookup y.1=some .cell/\((cellsFrom (s.heap.objs.size+1) scope.names []).lookup y.1).isSome=true):=fun⟨n,v⟩ l=>by
  rcases S.par n (List.of_mem_zip l).1 with q|q
  ·exact .inl q
  ·exact .inr ⟨q,PySem.W.cellsFrom_some _ _ _ (.inl q)⟩
 refine codeAny_call_function i.depth (j _ _ lk) rfl S.co S.gen rfl (PySem.W.codeRec_of j hcd) (hb _ _ _ _ ?_);refine wpAny_newFunctionEnv_cells S.kind c fun env he s1 x=>?_
 subst he;refine⟨lim.keeps x.toInCall.keep,codeAny_func ?_⟩;obtain⟨t,ht,m⟩:=a3 A outer s H vs Q E (i.deeper _) d;have I:Inv (zqc CX P w K mg base N qual scope f U A outer s H E) [] (zgq N vs) H s1:=znT S i.hd g p r x;refine ybr (ht [] s1 (zgq N vs) H _ I m) (fun fl s' hs=>?_) fun e s' hs=>hs
 have fin:∀{a:St}{H':Hp}{v:V}{u:Value},Inv (zqc CX P w K mg base N qual scope f U A outer s H E) [] a H' s'->zaV v u->Q v H'->CE outer P w H s Q u s':=
  fun {a H' v u} J h q=>⟨v,H',J.os,J.bare,J.base,J.hok,h,q⟩
 cases fl with
 |ret u=>
  obtain⟨v,a,H',J,h,q⟩:=hs;exact fin J h q
 |next=>
  obtain⟨a,H',J,q⟩:=hs;exact fin (v:=V.non) (u:=Value.none) J rfl q
 |brk=>
  obtain⟨_,_,_,q⟩:=hs;exact False.elim q
 |cont=>
  obtain⟨_,_,_,q⟩:=hs;exact False.elim q
section
variable{X:Cx}{x:Str}{p pos:Pos}{e:Expr}{es:List Expr}{t:TA}{id T:String}{r:List V->Hp->VK->Prop}
noncomputable def tCB(r:List V->Hp->VK->Prop)(t:TA):TE:=fun σ H Q=>t σ H fun vs H1=>r vs H1 Q
def zcw(hc:zdl X (.builtin id) r)(hg:Gl X x)(hm:X.mg x=none)(hv:bootBuiltins x=some (.builtin id))(ha:PA X (e::es) t)(U:autoParam (x ≠ "__name__") yAR)(J:autoParam ((x==("__debug__":Str))=false) yAR)
  (he:autoParam (starEach (e::es) X.env=(false,eval e X.env)::starEach es X.env) yAW) (af:autoParam ((backTo pos (starEach es X.env)).any (·.1)=false) yAW):PE X (.Call (.Name x p) (e::es) [] pos) (tCB r t):=by
 intro pins s σ H Q I h;refine ycj (zfU I hg hm hv ?_ U J);exact PyProof.Rows.callWith_builtin1 (thn (ha pos pins s σ H _ I h) fun us s1 ⟨vs,H1,b,r1,a⟩=>hc pins s1 σ H1 vs us Q b r1 a) he af
def zdv(hc:zdl X (.type T) r)(hg:Gl X x)(hm:X.mg x=none)(hv:bootBuiltins x=some (.type T))(ha:PA X (e::es) t)(U:autoParam (x ≠ "__name__") yAR)(J:autoParam ((x==("__debug__":Str))=false) yAR)
  (he:autoParam (starEach (e::es) X.env=(false,eval e X.env)::starEach es X.env) yAW) (af:autoParam ((backTo pos (starEach es X.env)).any (·.1)=false) yAW):PE X (.Call (.Name x p) (e::es) [] pos) (tCB r t):=by
 intro pins s σ H Q I h;refine ycj (zfU I hg hm hv ?_ U J);exact ybo (thn (ha pos pins s σ H _ I h) fun us s1 ⟨vs,H1,b,r1,a⟩=>hc pins s1 σ H1 vs us Q b r1 a) he af
end
end L2
namespace HT
open PySem PyProof.Rows
section
open PySem.SeqAt
open PySem.AutoSeq1 (wpAny_loadPart')
open PySem.MeetsSeq PySem.MeetsSeq2 PySem.MeetsSeq3
end
section
variable{prog:Program}{w:World}{A:Around}{E:Z5}{s:Shared}
def ztf{t b:Addr}{vs J:List Value}{Q:Z5}(ht:IsTup s.heap t vs.toArray)(hb:IsTup s.heap b J.toArray)(hv:vs≠[])
  (h1:J=[]->Q (.ref t) s) (h2:J≠[]->Q (.ref s.heap.objs.size) {s with heap:=s.heap.push {cls:=.type "tuple",data:=.seq (vs++J).toArray}})
  (hsz:vs.length+J.length<=sizeLine):wpAny (model prog w) A (binaryOp .Add (.ref t) (.ref b)) Q E s:=by
 obtain⟨⟨cls,dd,data,i⟩,h,k,n,hd⟩:=id ht;obtain⟨⟨l,g,data2,c⟩,a,f,j,d⟩:=id hb;simp only at k hd f d;subst k hd f d
 have e:vs.toArray++J.toArray=(vs++J).toArray:=by simp
 by_cases hw:J=[]
 ·exact concat_meets ⟨_,h,rfl⟩ ⟨_,a,rfl⟩ noFill_tuple_add seq_tuple_add ycX ycM (ycC _ _)
   (tuple_addW1 t b vs.toArray J.toArray n j dd g i c (by simpa using hv) (by simp[hw])) ⟨h,a,h1 hw⟩
 ·refine concat_meets ⟨_,h,rfl⟩ ⟨_,a,rfl⟩ noFill_tuple_add seq_tuple_add ycX ycM (ycC _ _)
   (tuple_addW2 t b vs.toArray J.toArray n j dd g i c (by simpa using hv) (by simpa using hw) (by rw[yai,yai];exact hsz)) ⟨h,a,?_⟩
  rw[e];exact h2 hw
noncomputable def sIx(n d:Nat):Option Int->Nat
 |none=>d|some v=>if v<0 then(v+(n:Int)).toNat else min v.toNat n
theorem zmK(n d k:Nat):sIx n d (some (k:Int))=min k n:=by
 show(if(k:Int)<0 then((k:Int)+(n:Int)).toNat else min (k:Int).toNat n)=min k n;rw[if_neg (by omega),yaQ]
theorem zuq(n d:Nat)(hd:d<=n)(o:Option Int):sIx n d o<=n:=by
 cases o with
 |none=>exact hd|some v=>
  show(if v<0 then(v+(n:Int)).toNat else min v.toNat n)<=n
  by_cases hv:v<0
  ·rw[if_pos hv];omega
  ·rw[if_neg hv];exact Nat.min_le_right _ _
theorem zoq(v:Int)(n d:Nat):(if v<0 then max (v+(n:Int)) 0 else min v (n:Int))=((sIx n d (some v):Nat):Int):=by
 show(if v<0 then max (v+(n:Int)) 0 else min v (n:Int))=(((if v<0 then(v+(n:Int)).toNat else min v.toNat n):Nat):Int)
 by_cases hv:v<0
 ·simp only[if_pos hv];omega
 ·simp only[if_neg hv];omega
theorem zl0(lo hi:Option Int)(n:Nat):Builtin.Slice.sliceAdjust lo hi 1 (n:Int)=(((sIx n 0 lo:Nat):Int),((sIx n n hi:Nat):Int)):=by
 have h1:¬ ((1:Int)<0):=by omega
 unfold Builtin.Slice.sliceAdjust;simp only[h1,ybL];refine Prod.ext ?_ ?_
 ·cases lo with
  |none=>rfl|some v=>exact zoq v n 0
 ·cases hi with
  |none=>rfl|some v=>exact zoq v n n
theorem zlC(i j:Nat):Builtin.Slice.slicePlaces (i:Int) (j:Int) 1=j-i:=by
 unfold Builtin.Slice.slicePlaces
 have h1:(1:Int) > 0:=by omega
 simp only[h1,yb2,Int.ediv_one]
 split<;>omega
def zgE(p:IsPart v o)(h:Q o s):wpAny (model prog w) A (Builtin.Slice.slicePartIndex v) Q E s:=by
 cases p with
 |none=>exact slicePart_none h|int i t=>exact slicePart_int h
def zdn{sl:Addr}{U J:Value}{lo hi:Option Int}{n:Nat}{Q:Int×Int×Nat->Shared->Prop}(hs:s.heap.IsSliceOf sl U J .none)(pl:IsPart U lo)(pu:IsPart J hi)
  (h:Q (((sIx n 0 lo:Nat):Int),1,sIx n n hi-sIx n 0 lo) s):wpAny (model prog w) A (Builtin.Slice.sliceApplied (.ref sl) (pure (n:Int))) Q E s:=by
 obtain⟨os,a,c,b⟩:=id hs;unfold Builtin.Slice.sliceApplied Builtin.Slice.sliceFields;refine yaa (yaa (ybk a b (x:=U) rfl (yaa (ybk a b (x:=J) rfl (yaa (ybk a b (x:=.none) rfl (yaf ?_)))))));refine yaa (slicePart_none ?_);show wpAny _ _ (if((1:Int)==0)=true then _ else _) _ _ s;rw[if_neg (by decide)];refine yaa (zgE pl (yaa (zgE pu (yaa (yaf ?_)))));show wpAny _ _ (match Builtin.Slice.sliceAdjust lo hi 1 (n:Int)with|(lo,hi)=>pure (lo,(1:Int),Builtin.Slice.slicePlaces lo hi 1)) _ _ s;rw[zl0 lo hi n];show wpAny _ _ (pure (((sIx n 0 lo:Nat):Int),(1:Int),Builtin.Slice.slicePlaces ((sIx n 0 lo:Nat):Int) ((sIx n n hi:Nat):Int) 1)) _ _ s;rw[zlC];exact yaf h
theorem zpi(xs:Array Value)(i k:Nat):((List.range k).filterMap fun(m:Nat)=>xs[((i:Int)+(m:Int)*1).toNat]?).toArray=((xs.toList.drop i).take k).toArray:=by
 have e:(fun(m:Nat)=>xs[((i:Int)+(m:Int)*1).toNat]?)=fun m=>xs[i+m]?:=by
  funext m
  have:((i:Int)+(m:Int)*1).toNat=i+m:=by omega
  rw[this]
 rw[e];have:=pick_run xs i k;rw[List.filterMap_map]at this;have e2:((fun x=>xs[x]?)∘fun x=>i+x)=fun m=>xs[i+m]?:=rfl
 rw[e2]at this;rw[this]
theorem zeX{t sl:Addr}{items:Array Value}{U J:Value}{lo hi:Option Int}{Q:Z5}(ht:IsTup s.heap t items)(hs:s.heap.IsSliceOf sl U J .none)(pl:IsPart U lo)(pu:IsPart J hi)
  (hw:¬ (sIx items.size 0 lo=0/\sIx items.size items.size hi=items.size))
  (h:Q (.ref s.heap.objs.size) {s with heap:=s.heap.push {cls:=.type "tuple",data:=.seq ((items.toList.drop (sIx items.size 0 lo)).take (sIx items.size items.size hi-sIx items.size 0 lo)).toArray}})
  (hsz:items.size<=sizeLine):wpAny (model prog w) A (getItem (.ref t) (.ref sl)) Q E s:=by
 have a:sizeOk (.seq ((items.toList.drop (sIx items.size 0 lo)).take (sIx items.size items.size hi-sIx items.size 0 lo)).toArray):=by
  show((items.toList.drop (sIx items.size 0 lo)).take (sIx items.size items.size hi-sIx items.size 0 lo)).toArray.size<=sizeLine;rw[yai,List.length_take,List.length_drop,yaH];omega
 have j:sIx items.size items.size hi<=items.size:=zuq _ _ (yaj _) hi;obtain⟨os,b,d,f⟩:=id hs;have e:s.TypeIs (.ref sl) "slice":=⟨os,b,d⟩;unfold getItem
 try with_reducible refine yaZ ?_
 first|refine yaa (yaf ?_)|skip
 refine yaa (wpAny_sequenceKey ht.typeIs (by decide) ?_)
 refine yaa (yaU (name:=Str.ofString "__getitem__") ht.typeIs ya5
  (yaL ya5 ht.typeIs entry_tuple_getitem ?_ (args_tuple_getitem _ _)))
 show wpAny _ _ (Builtin.Tuple.tupleItemsOf (.ref t) >>= _) _ _ s;refine yaa (tupleItemsOf_ ht ?_);refine yaa (ycm e ?_);rw[if_pos (by decide)];refine yaa (zdn hs pl pu ?_)
 have c:¬ ((((sIx items.size 0 lo:Nat):Int)==0&&(1:Int)==1&&(sIx items.size items.size hi-sIx items.size 0 lo)==items.size)=true):=by
  intro q;rw[yab,yab]at q;have i:((sIx items.size 0 lo:Nat):Int)=0:=eq_of_beq q.1.1;have g:sIx items.size items.size hi-sIx items.size 0 lo=items.size:=eq_of_beq q.2;exact hw ⟨by omega,by omega⟩
 show wpAny _ _ (if(((sIx items.size 0 lo:Nat):Int)==0&&(1:Int)==1&&(sIx items.size items.size hi-sIx items.size 0 lo)==items.size)=true then _ else _) _ _ s;rw[if_neg c,zpi]
 first
  |exact yaa (m:=Builtin.Tuple.tupleExact _) (yaX (yaf ⟨_,rfl,yaf h⟩) a)
  |exact yaa (m:=Builtin.Tuple.tupleExact _) (yaX (yaa (yaf (yaf ⟨_,rfl,yaf h⟩))) a)
  |exact yaa (yaa (m:=Builtin.Tuple.tupleExact _) (yaX (yaf (yaf ⟨_,rfl,yaf h⟩)) a))
  |exact yaa (yaa (m:=Builtin.Tuple.tupleExact _) (yaX (yaf ⟨_,rfl,yaf h⟩) a))
end
end HT
namespace L2
open PySem PySem.Spec PyProof.Rows
noncomputable abbrev TO:=St->Hp->(Option Int->Hp->Prop)->Prop
noncomputable def PO(X:Cx)(e:Option Expr)(t:TO):Prop:=
 ∀(pins:Z3) (s:Shared) (σ:St) (H:Hp) (Q:Option Int->Hp->Prop),Inv X pins σ H s->t σ H Q →
  wpAny (model X.prog X.w) X.A (evalPart e X.env) (fun u s'=>∃o H',Inv X pins σ H' s'/\IsPart u o/\Q o H') X.xe s
noncomputable def zmp:TO:=fun _ H Q=>Q none H
noncomputable def ztJ(t:TE):TO:=fun σ H Q=>t σ H fun x H1=>∃i,x=.int i/\Q (some i) H1
section
variable{X:Cx}{e:Expr}{te:TE}{lo hi:Option Expr}{tl th:TO}{pos p2:Pos}
def zsi:PO X none zmp:=by
 intro pins s σ H Q I h;rw[evalPart_none];exact yaf ⟨none,H,I,.none,h⟩
def zsh(h:PE X e te):PO X (some e) (ztJ te):=by
 intro pins s σ H Q I b;rw[evalPart_some];refine thn (h pins s σ H _ I b) fun u s1 ⟨x,H1,c,r1,a⟩=>?_
 obtain⟨i,rfl,q⟩:=a;obtain⟨t,rfl⟩:=r1;exact⟨some i,H1,c,.int i t,q⟩
noncomputable def SlR(X:Cx)(r:V->Option Int->Option Int->Hp->VK->Prop):Prop:=
 ∀(pins:Z3) (s:Shared) (σ:St) (H:Hp) (x:V) (v b a:Value) (lo hi:Option Int) (c:Addr) (Q:VK),Inv X pins σ H s->zaV x v->s.heap.IsSliceOf c b a .none->IsPart b lo->IsPart a hi->r x lo hi H Q →
  ∃T id,typeLookup (.type T) "__getitem__"=pure (some (.builtin id))/\s.TypeIs v T/\wpAny (model X.prog X.w) X.A (getItem v (.ref c)) (EP X pins σ Q) X.xe s
noncomputable def tSl(r:V->Option Int->Option Int->Hp->VK->Prop)(te:TE)(tl th:TO):TE:=fun σ H Q=>te σ H fun x H1=>tl σ H1 fun l H2=>th σ H2 fun u a=>r x l u a Q
def zpk(U:SlR X r)(he:PE X e te)(hl:PO X lo tl)(J:PO X hi th):PE X (.Subscript e (.Slice lo hi none p2) pos) (tSl r te tl th):=by
 intro pins s σ H Q I h;refine Subscript_ (thn (he pins s σ H _ I h) fun v s1 ⟨x,H1,p,r1,j⟩=>?_);refine wpAny_Slice (thn (hl pins s1 σ H1 _ p j) fun d s2 ⟨l,H2,o,pl,i⟩=>thn (J pins s2 σ H2 _ o i) fun c a ⟨u,f,n,pu,g⟩=>?_);rw[evalPart_none];refine yaf ?_;have m:Inv X pins σ f {a with heap:=a.heap.push {cls:=.type "slice",data:=.fields #[d,c,.none]}}:=n.kept (t':=a.toks) fun b ob q=>yad _ q
 obtain⟨T,id,k,ht,hg⟩:=U pins {a with heap:=a.heap.push {cls:=.type "slice",data:=.fields #[d,c,.none]}} σ f x v d c l u a.heap.objs.size Q m r1 (Heap.IsSliceOf.new ..) pl pu g;show wpAny (model X.prog X.w) X.A (subscriptTail e (.Slice lo hi none p2) v (.ref a.heap.objs.size)) (EP X pins σ Q) X.xe {a with heap:=a.heap.push {cls:=.type "slice",data:=.fields #[d,c,.none]}};exact tail_any (ops:=[.ref a.heap.objs.size,v]) ht k hg (by with_unfolding_all rfl)
def zq9(xs:List V)(lo hi:Option Int):List V:=(xs.drop (HT.sIx xs.length 0 lo)).take (HT.sIx xs.length xs.length hi-HT.sIx xs.length 0 lo)
theorem zgi(xs:List V)(lo hi:Option Int):(zq9 xs lo hi).length<=xs.length:=by
 unfold zq9;rw[List.length_take,List.length_drop];omega
noncomputable def zBe(K:PySem.W.Frag):V->Option Int->Option Int->Hp->VK->Prop:=fun x lo hi H Q=>∃a xs,x=.ref a/\SqT K H a xs ∧
 ¬ (HT.sIx xs.length 0 lo=0/\HT.sIx xs.length xs.length hi=xs.length)/\∀p,H p=none->Q (.ref p) (upd H p (.tup (zq9 xs lo hi)))
def zt7:SlR X (zBe X.K):=by
 intro pins s σ H x v i g lo hi j Q I d hs pl pu h;obtain⟨a,xs,rfl,e,f,q⟩:=h;cases d;obtain⟨aa,r,ht,c⟩:=I.tuple e
 have hlen:aa.toArray.size=xs.length:=by rw[yai];exact r.length.symm
 refine⟨"tuple",_,ya5.lookup,ht.typeIs,?_⟩;refine HT.zeX ht hs pl pu (by rw[hlen];exact f) ?_ (by rw[hlen];exact c);rw[hlen];refine⟨.ref s.heap.objs.size,_,I.laid (t':=s.toks) (o:=.tup (zq9 xs lo hi)) (fun b ob q=>yad _ q) (yaj _) ?_,rfl,q _ (I.hok.fresh (yaj _))⟩;exact⟨yas (zgi xs lo hi) c,_,(r.drop (HT.sIx xs.length 0 lo)).take (HT.sIx xs.length xs.length hi-HT.sIx xs.length 0 lo),zoK.new _ _⟩
noncomputable def zxD(K:PySem.W.Frag):R2:=fun x y H Q=>∃a b xs ys,x=.ref a/\y=.ref b/\SqT K H a xs/\SqT K H b ys/\xs≠[]/\xs.length+ys.length<=sizeLine ∧
 (ys=[]->Q (.ref a) H)/\(ys≠[]->∀p,H p=none->Q (.ref p) (upd H p (.tup (xs++ys))))
def Vals.nil_iff(r:Vals xs us):us=[]↔xs=[]:=by
 cases r with
 |nil=>simp|cons _ _=>simp
def zsx:OpR X (binaryOp .Add) (zxD X.K):=by
 intro pins s σ H x y v u Q I g f h;obtain⟨a,b,xs,ys,rfl,rfl,m,hb,l,e,j,i⟩:=h;cases g;cases f;obtain⟨aa,r1,k,_⟩:=I.tuple m;obtain⟨d,c,p2,_⟩:=I.tuple hb;refine HT.ztf k p2 (fun z=>l (r1.nil_iff.mp z)) (fun z=>⟨.ref a,H,I,rfl,j (c.nil_iff.mp z)⟩) (fun z=>?_) (by rw[<-r1.length,<-c.length];exact e);refine⟨.ref s.heap.objs.size,_,I.laid (t':=s.toks) (o:=.tup (xs++ys)) (fun b ob q=>yad _ q) (yaj _) ?_,rfl,i (fun w=>z (c.nil_iff.mpr w)) _ (I.hok.fresh (yaj _))⟩;exact⟨by rw[yak];exact e,_,r1.append c,zoK.new _ _⟩
end
noncomputable def ixN(n:Nat)(i:Int):Option Nat:=if 0<=i then(if i<n then some i.toNat else none)else if -(n:Int)<=i then some (i+n).toNat else none
def atI{α:Type}(xs:List α)(i:Int):Option α:=(ixN xs.length i).bind fun j=>xs[j]?
theorem zsW(h:ixN n i=some j):seqIndex? i n=some j/\j<n/\-(n:Int)<=i/\i<n:=by
 unfold ixN at h
 by_cases h0:0<=i
 ·rw[if_pos h0]at h
  by_cases h1:i<n
  ·rw[if_pos h1]at h;have e:i.toNat=j:=Option.some.inj h;exact⟨by rw[seqIndex_of h0 h1,e],by omega,by omega,h1⟩
  ·rw[if_neg h1]at h;cases h
 ·rw[if_neg h0]at h
  by_cases h1:-(n:Int)<=i
  ·rw[if_pos h1]at h;have e:(i+n).toNat=j:=Option.some.inj h;exact⟨by rw[seqIndex_neg (by omega) h1,e],by omega,h1,by omega⟩
  ·rw[if_neg h1]at h;cases h
def zjX{α:Type}{xs:List α}{v:α}(h:atI xs i=some v):∃j,seqIndex? i xs.length=some j/\xs[j]?=some v/\j<xs.length/\-(xs.length:Int)<=i/\i<xs.length:=by
 unfold atI at h
 cases e:ixN xs.length i with
 |none=>rw[e]at h;cases h|some j=>
  rw[e]at h;obtain⟨h1,h2,b,a⟩:=zsW e;exact⟨j,h1,h,h2,b,a⟩
noncomputable def zj0(b:Expr):Prop:=∀o i,subscripted b false o i=operate [o,i] (getItem o i)
noncomputable def IxR(X:Cx)(r:R2):Prop:=
 ∀(value slice:Expr) (pins:Z3) (s:Shared) (σ:St) (H:Hp) (x y:V) (v u:Value) (Q:VK),Inv X pins σ H s->zaV x v->zaV y u->r x y H Q →
  subscripted slice false v u=operate [v,u] (getItem v u)->wpAny (model X.prog X.w) X.A (subscriptTail value slice v u) (EP X pins σ Q) X.xe s
noncomputable def MtR(X:Cx)(id:String)(r:V->List V->Hp->VK->Prop):Prop:=
 ∀(pins:Z3) (s:Shared) (σ:St) (H:Hp) (x:V) (xs:List V) (v:Value) (us:List Value) (Q:VK),Inv X pins σ H s->zaV x v->Vals xs us->r x xs H Q →
  wpAny (model X.prog X.w) X.A (call (.builtin id) (v::us)) (EP X pins σ Q) X.xe s
section
variable{X:Cx}{a b:Expr}{ta tb:TE}{pos:Pos}
def zxK(J:IxR X r)(U:PE X a ta)(hb:PE X b tb)(hs:zj0 b):PE X (.Subscript a b pos) (tOp r ta tb):=by
 intro pins s σ H Q I h;exact Subscript_ (zyC U hb I h fun v u s2 x y H2 e d c q=>J a b pins s2 σ H2 x y v u Q e d c q (hs _ _))
noncomputable def zBj(K:PySem.W.Frag):R2:=fun x y H Q=>∃p xs i v,x=.ref p/\y=.int i/\SqL K H p xs/\atI xs i=some v/\Q v H
noncomputable def zBh(K:PySem.W.Frag):R2:=fun x y H Q=>∃p xs i v,x=.ref p/\y=.int i/\SqT K H p xs/\atI xs i=some v/\Q v H
noncomputable def zBi:R2:=fun x y H Q=>∃z i c,x=.str z/\y=.int i/\z.length<=sizeLine/\atI z.cps.toList i=some c/\Q (.str ⟨#[c]⟩) H
theorem znN:IxR X (zBj X.K):=by
 intro value slice pins s σ H x y v u Q I e d h hs;obtain⟨p,xs,i,z,rfl,rfl,f,he,q⟩:=h;cases e;obtain⟨t,rfl⟩:=d;obtain⟨aa,r,pl,m⟩:=I.list f;obtain⟨j,h1,h2,o,l,k⟩:=zjX he;obtain⟨w,c,a⟩:=r.get h2;have g:=r.length;have n:=ziO;have fin:EP X pins σ Q w s:=⟨z,H,I,a,q⟩
 by_cases h0:0<=i
 ·have b:i.toNat=j:=by
   rw[seqIndex_of h0 k]at h1;exact Option.some.inj h1
  exact item_listR pl.isList h0 (by omega) (by rw[b];simpa using c) fin hs
 ·have b:(i+(aa.toArray.size:Int)).toNat=j:=by
   rw[seqIndex_neg (by omega) l]at h1;rw[yai,<-g];exact Option.some.inj h1
  exact subscriptTail_builtinR (x:=w) pl.isList.typeIs slot_list_getitem.lookup
   (wpAny_getItem_list_neg (Q:=fun r s'=>r=w/\EP X pins σ Q r s') pl.isList (by omega) (by rw[yai]<;>omega) (by omega) (by rw[b];simpa using c) ⟨rfl,fin⟩) hs
theorem zvI:IxR X (zBh X.K):=by
 intro value slice pins s σ H x y v u Q I c b h hs;obtain⟨p,xs,i,z,rfl,rfl,d,he,q⟩:=h;cases c;obtain⟨t,rfl⟩:=b;obtain⟨aa,r,pl,g⟩:=I.tuple d;obtain⟨j,h1,h2,n,m,l⟩:=zjX he;obtain⟨w,f,a⟩:=r.get h2;have e:=r.length;have k:=ziO;have fin:EP X pins σ Q w s:=⟨z,H,I,a,q⟩
 exact subscriptTail_builtinR (x:=w) pl.typeIs slot_tuple_getitem.lookup
  (getItem_tuple (j:=j) (Q:=fun r s'=>r=w/\EP X pins σ Q r s') pl (by omega) (by omega) (by rw[yai,<-e];exact h1) (by simpa using f) ⟨rfl,fin⟩) hs
def zvJ:IxR X zBi:=by
 intro value slice pins s σ H x y v u Q I b a h hs;obtain⟨z,i,c,rfl,rfl,k,he,q⟩:=h;obtain⟨t,rfl⟩:=b;obtain⟨t',rfl⟩:=a;obtain⟨j,h1,h2,m,f,e⟩:=zjX he
 have d:z.cps.toList.length=z.length:=by simp[Str.length]
 rw[d]at h1 f e;have l:=ziO
 exact tail_any (ycq s z t) slot_str_getitem.lookup (getItem_str (c:=c) (by
  have g:decide (i < -(2 ^ 63:Int))=false:=yaB (by omega);have e2:decide (i ≥ 2 ^ 63)=false:=yaB (by omega)
  rw[g,e2,Bool.or_false]) (by rw[h1];simpa using h2) ⟨.str ⟨#[c]⟩,H,I.tok _,⟨_,rfl⟩,q⟩) hs
theorem zig(lo hi:Option Int)(n:Nat):(sliceBounds lo hi none n).1=((HT.sIx n 0 lo:Nat):Int)/\(sliceBounds lo hi none n).2.1=((HT.sIx n n hi:Nat):Int)/\(sliceBounds lo hi none n).2.2=1:=by
 refine⟨?_,?_,rfl⟩
 ·cases lo with
  |none=>simp[sliceBounds,HT.sIx]|some i=>
   simp only[sliceBounds,HT.sIx,Option.getD_none,show(1:Int) > 0 by decide,yb2]
   by_cases h:i<0
   ·simp only[h,yb2]<;>omega
   ·simp only[h,ybL]<;>omega
 ·cases hi with
  |none=>simp[sliceBounds,HT.sIx]|some i=>
   simp only[sliceBounds,HT.sIx,Option.getD_none,show(1:Int) > 0 by decide,yb2]
   by_cases h:i<0
   ·simp only[h,yb2]<;>omega
   ·simp only[h,ybL]<;>omega
def zhf(aa:List Value)(lo hi:Option Int):slicePick aa.toArray lo hi none=((aa.drop (HT.sIx aa.length 0 lo)).take (HT.sIx aa.length aa.length hi-HT.sIx aa.length 0 lo)).toArray:=by
 obtain⟨h1,h2,a⟩:=zig lo hi aa.toArray.size;unfold slicePick;rw[h1,h2,a]
 simp only[sliceRange_one,pick_run,yai]<;>rfl
noncomputable def zBf(K:PySem.W.Frag):V->Option Int->Option Int->Hp->VK->Prop:=fun x lo hi H Q=>∃a xs,x=.ref a/\SqL K H a xs/\∀p,H p=none->Q (.ref p) (upd H p (.lst (zq9 xs lo hi)))
theorem zrN:SlR X (zBf X.K):=by
 intro pins s σ H x v g f lo hi i Q I c hs pl pu h;obtain⟨a,xs,rfl,e,q⟩:=h;cases c;obtain⟨aa,r,ht,d⟩:=I.list e;have hlen:=r.length;refine⟨"list",_,slot_list_getitem.lookup,ht.isList.typeIs,?_⟩;refine wpAny_getItem_list_slice ht.isList hs pl pu .none (by simp) ?_ (by rw[yai]<;>omega);rw[zhf,<-hlen];refine⟨.ref s.heap.objs.size,_,I.laid (t':=s.toks) (o:=.lst (zq9 xs lo hi)) (fun b ob q=>yad _ q) (yaj _) ?_,rfl,q _ (I.hok.fresh (yaj _))⟩;exact⟨yas (zgi xs lo hi) d,_,0,(r.drop (HT.sIx xs.length 0 lo)).take (HT.sIx xs.length xs.length hi-HT.sIx xs.length 0 lo),yam _ rfl⟩
theorem zcD:zdl X (.builtin "len") (fun xs H Q=>∃p ys,xs=[.ref p]/\(SqL X.K H p ys\/SqT X.K H p ys)/\Q (.int ys.length) H):=by
 intro pins s σ H xs us Q I r h;obtain⟨p,ys,rfl,a,q⟩:=h;obtain⟨u,rfl,b⟩:=zeN r;cases b;have d:=ziO
 rcases a with a|a
 ·obtain⟨aa,r',pl,c⟩:=I.list a;have hlen:=r'.length;exact Calls.call_len_list pl.isList (by simp only[yai]<;>omega) ⟨.int ys.length,H,I.tok _,⟨s.toks+1,by rw[yai,hlen]⟩,q⟩
 ·obtain⟨aa,r',pl,c⟩:=I.tuple a;have hlen:=r'.length;exact len_tuple pl (by simp only[yai]<;>omega) ⟨.int ys.length,H,I.tok _,⟨s.toks+1,by rw[yai,hlen]⟩,q⟩
theorem zi7:zdl X (.builtin "len") (fun xs H Q=>∃z,xs=[.str z]/\z.length<=sizeLine/\Q (.int z.length) H):=by
 intro pins s σ H xs us Q I r h;obtain⟨z,rfl,a,q⟩:=h;obtain⟨u,rfl,t,rfl⟩:=zeN r;have b:=ziO;exact len_str (by omega) ⟨.int z.length,H,I.tok _,⟨_,rfl⟩,q⟩
theorem zeI:zdl X (.type "tuple") (fun xs H Q=>∃p ys,xs=[.ref p]/\((SqL X.K H p ys/\∀l,H l=none->Q (.ref l) (upd H l (.tup ys)))\/(SqT X.K H p ys/\Q (.ref p) H))):=by
 intro pins s σ H xs us Q I r h;obtain⟨p,ys,rfl,h⟩:=h;obtain⟨u,rfl,f⟩:=zeN r;cases f
 rcases h with⟨a,q⟩|⟨a,q⟩
 ·obtain⟨aa,r',pl,c⟩:=I.list a;have hlen:=r'.length;refine call_tuple_list pl.isList (fun h' kp=>?_) (by simp only[yai]<;>omega);have d:Inv X pins σ H {s with heap:=h'}:=I.kept (t':=s.toks) kp
  have g:Inv X pins σ (upd H h'.objs.size (.tup ys)) {s with heap:=h'.push {cls:=.type "tuple",data:=.seq aa.toArray}}:=
   d.laid (t':=s.toks) (fun b o e=>yad _ e) (yaj _) (show zba X.prog X.w _ _ _ (.tup ys)from⟨c,aa,r',zoK.new _ _⟩)
  exact⟨.ref h'.objs.size,_,g,rfl,q _ (d.hok.fresh (yaj _))⟩
 ·obtain⟨aa,r',pl,c⟩:=I.tuple a;exact call_tuple_same pl ⟨.ref p,H,I,rfl,q⟩
noncomputable def tyV(K:PySem.W.Frag)(T:String)(x:V)(H:Hp):Prop:=match x with
 |.str _=>T="str"|.int _=>T="int"|.ref p=>(T="list" /\ ∃xs,SqL K H p xs)\/(T="tuple" /\ ∃o,K.lookup p=some o/\o.cls=.type "tuple" /\ o.dict=none) ∨
   (T="dict" /\ ((∃kvs,H p=some (.dK kvs))\/∃kvs,H p=some (.dT kvs)))\/(T="set" /\ ∃S n,H p=some (.set S n))
 |_=>False
def zqw(I:Inv X pins σ H s)(r:zaV x v)(ty:tyV X.K T x H):
  s.TypeIs v T/\∀a,v=.ref a->∃ob,s.heap.get? a=some ob/\ob.dict=none:=by
 cases x with
 |str z=>
  obtain⟨t,rfl⟩:=r;cases (show T="str"from ty);exact⟨ycq s z t,fun _ e=>nomatch e⟩
 |int i=>
  obtain⟨t,rfl⟩:=r;cases (show T="int"from ty);exact⟨ydH s i t,fun _ e=>nomatch e⟩
 |ref p=>
  cases r
  rcases ty with⟨rfl,xs,b⟩|⟨rfl,o,hk,d,hd⟩|⟨rfl,hk⟩|⟨rfl,S,n,hk⟩
  ·obtain⟨aa,_,pl,_⟩:=I.list b;refine⟨pl.isList.typeIs,fun a e=>?_⟩;cases e;obtain⟨o,n,e,c,hd,_⟩:=pl;exact⟨o,e,hd⟩
  ·refine⟨⟨o,I.kIn p o hk,d⟩,fun a e=>?_⟩;cases e;exact⟨o,I.kIn _ o hk,hd⟩
  ·have z:∃o,s.heap.get? p=some o/\o.ExactDict:=by
    rcases hk with⟨kvs,hk⟩|⟨kvs,hk⟩
    ·obtain⟨_,_,_,_,o,_,_,e,ex,_⟩:=I.hok p _ hk;exact⟨o,e,ex⟩
    ·obtain⟨_,_,_,_,o,_,_,e,ex,_⟩:=I.hok p _ hk;exact⟨o,e,ex⟩
   obtain⟨o,e,ex⟩:=z;refine⟨⟨o,e,ex.1⟩,fun a e2=>?_⟩;cases e2;exact⟨o,e,ex.2.1⟩
  ·obtain⟨o,_,_,_,e,ex,_⟩:=I.hok p _ hk;refine⟨⟨o,e,ex.1⟩,fun a e2=>?_⟩;cases e2;exact⟨o,e,ex.2.1⟩
 |_=>exact False.elim ty
noncomputable def zA4(K:PySem.W.Frag)(T:String)(r:V->List V->Hp->VK->Prop)(to:TE):TE:=fun σ H Q=>to σ H fun x H1=>tyV K T x H1/\r x [] H1 Q
noncomputable def tBM(K:PySem.W.Frag)(T:String)(r:V->List V->Hp->VK->Prop)(to:TE)(t:TA):TE:=fun σ H Q=>to σ H fun x H1=>tyV K T x H1/\t σ H1 fun xs H2=>r x xs H2 Q
variable{o e:Expr}{es:List Expr}{to:TE}{t:TA}{name:Str}{apos cpos:Pos}{T id:String}{r:V->List V->Hp->VK->Prop}
def zuT(U:PlainAttrs T)(slot:Slot T name id)(J:typeOf (.builtin id)=pure (.type "method_descriptor"))(hm:MtR X id r)(ho:PE X o to)
  (ae:autoParam (attributeBase o name X.env (eval o X.env)=eval o X.env) yAW) (ai:autoParam ((apos.endLine==cpos.line)=true) yAW):PE X (.Call (.Attribute o name apos) [] [] cpos) (zA4 X.K T r to):=by
 intro pins s σ H Q I h;refine wpAny_Call_method0_late ae ai (thn (ho pins s σ H _ I h) fun v s1 ⟨x,H1,a,r1,ty,b⟩=>?_);obtain⟨h1,h2⟩:=zqw a r1 ty;exact⟨T,id,U,slot,J,h1,h2,ybw rfl (PySem.evalArgs_none (hm pins s1 σ H1 x [] v [] Q a r1 .nil b))⟩
def znh(U:PlainAttrs T)(slot:Slot T name id)(J:typeOf (.builtin id)=pure (.type "method_descriptor"))(hm:MtR X id r)(ho:PE X o to)(ha:PA X (e::es) t)
  (ae:autoParam (attributeBase o name X.env (eval o X.env)=eval o X.env) yAW)
  (hfew:autoParam (((backTo cpos (starEach (e::es) X.env)).all (fun x=>!x.1)&&(backToKw cpos (keywordEach [] X.env)).all (fun x=>x.1.isSome)
   && decide ((e::es).length+([]:List Keyword).length+(if([]:List Keyword).isEmpty then 0 else 1)<30))=true) yAW)
  (ai:autoParam ((apos.endLine==cpos.line)=true) yAW) (hs:autoParam (starEach (e::es) X.env=(false,eval e X.env)::starEach es X.env) yAW) (ao:autoParam ((backTo cpos (starEach es X.env)).any (·.1)=false) yAW):
  PE X (.Call (.Attribute o name apos) (e::es) [] cpos) (tBM X.K T r to t):=by
 intro pins s σ H Q I h;refine wpAny_Call_method_late ae hfew ai rfl (thn (ho pins s σ H _ I h) fun v s1 ⟨x,H1,b,r1,ty,f⟩=>?_);obtain⟨h1,h2⟩:=zqw b r1 ty;refine⟨T,id,U,slot,J,h1,h2,?_⟩;have a:=ha cpos pins s1 σ H1 _ b f;rw[hs]at a ⊢;refine ybw (by show(false||(backTo cpos (starEach es X.env)).any (·.1))=false;rw[ao]<;>rfl) (yb6 ?_);exact thn a fun us s2 ⟨vs,H2,g,c,d⟩=>hm pins s2 σ H2 x vs v us Q g r1 c d
end
noncomputable def MtM(X:Cx)(id:String)(r:V->List V->Hp->VK->Prop):Prop:=
 ∀(pins:Z3) (s:Shared) (σ:St) (H:Hp) (x:V) (xs:List V) (v:Value) (us:List Value) (Q:VK),Inv X pins σ H s->zaV x v->Vals xs us->r x xs H Q →
  wpAny (model X.prog X.w) X.A (call (.builtin id) (v::us)) (EP X pins σ Q) X.xe s
theorem Vals.one:∀{x:V}{us:List Value},Vals [x] us->∃u,us=[u]/\zaV x u
 |_,_,.cons r .nil=>⟨_,rfl,r⟩
theorem Vals.zero:∀{us:List Value},Vals [] us->us=[]
 |_,.nil=>rfl
theorem Vals.dropLast(h:Vals xs us):Vals xs.dropLast us.dropLast:=by
 induction h with
 |nil=>exact .nil|cons r t a=>
  cases t with
  |nil=>exact .nil|cons q t'=>exact .cons r a
theorem Vals.rep(h:Vals xs us):∀k:Nat,Vals (List.replicate k xs).flatten (List.replicate k us).flatten
 |0=>.nil|k+1=>by
  rw[ybA,ybA,ya9,ya9];exact Vals.append h (Vals.rep h k)
def zlM{α:Type}(l:List α):l.eraseIdx (l.length-1)=l.dropLast:=by
 induction l with
 |nil=>rfl|cons a r c=>
  cases r with
  |nil=>rfl|cons b r=>
   have e:(a::b::r).length-1=((b::r).length-1)+1:=by
    have h1:(a::b::r).length=r.length+2:=rfl;have h2:(b::r).length=r.length+1:=rfl;omega
   rw[e,List.eraseIdx_cons_succ,c]
   all_goals rfl
theorem ziU(aa:List Value):∀(k:Nat) (acc:List Value),
  List.foldl (fun U J=>U++J) acc.toArray (List.replicate k aa.toArray)=(acc++(List.replicate k aa).flatten).toArray
 |0,acc=>by simp
 |k+1,acc=>by
  have e:acc.toArray++aa.toArray=(acc++aa).toArray:=by simp
  have e2:(acc++aa)++(List.replicate k aa).flatten=acc++(List.replicate (k+1) aa).flatten:=by
   rw[ybA,ya9,ybB]
  rw[<-e2,<-ziU aa k (acc++aa),<-e,ybA,ycN]
section
variable{X:Cx}{pins:Z3}{σ:St}{H:Hp}{s:Shared}{l b:Addr}{xs ys zs:List V}
def Inv.lset{aa aq:List Value}{n:Nat}{f:Array Value->Array Value}{t':Nat}(I:Inv X pins σ H s)(U:H l=some (.lst xs))
  (e:s.heap.get? l=some {cls:=.type "list",data:=.seq aa.toArray n}) (hf:f aa.toArray=aq.toArray) (hv:Vals ys aq) (J:ys.length<=sizeLine):
  Inv X pins σ (upd H l (.lst ys)) {s with heap:=s.heap.update l (Obj.mapSeq f),toks:=t'}:=by
 have q:=PySem.IsL.update e f;rw[hf]at q;refine I.write (x:=l) (e:=l) (by rw[U];exact trivial) (.inl rfl) (fun b u hb a=>(Heap.get?_update_other s.heap (Obj.mapSeq f) (Ne.symm hb)).trans a) ⟨_,q⟩ ?_;exact⟨J,aq,_,hv,q⟩
def Inv.lnew(I:Inv X pins σ H s)(hv:Vals ys aa)(J:ys.length<=sizeLine):
  Inv X pins σ (upd H s.heap.objs.size (.lst ys)) {s with heap:=s.heap.push {cls:=.type "list",data:=.seq aa.toArray},toks:=t'}:=
 I.laid (fun _ _ q=>yad _ q) (yaj _) ⟨J,aa,0,hv,yam _ rfl⟩
theorem Inv.fresh(I:Inv X pins σ H s):H s.heap.objs.size=none:=I.hok.fresh (yaj _)
def Inv.lstM(I:Inv X pins σ H s)(J:H l=some (.lst xs)):xs.length<=sizeLine/\∃(aa:List Value) (n:Nat),Vals xs aa/\xs.length=aa.length/\s.heap.get? l=some {cls:=.type "list",data:=.seq aa.toArray n}:=by
 obtain⟨z,aa,n,r,e⟩:=I.hok l _ J;exact⟨z,aa,n,r,r.length,e⟩
end
section
variable{X:Cx}
noncomputable def zr5:V->List V->Hp->VK->Prop:=fun x vs H Q=>∃l xs y,x=.ref l/\vs=[y]/\H l=some (.lst xs)/\xs.length<sizeLine/\Q .non (upd H l (.lst (xs++[y])))
theorem zfQ:MtM X "list.append" zr5:=by
 intro pins s σ H x vs v us Q I b c h;obtain⟨l,xs,y,rfl,rfl,a,f,q⟩:=h;cases b;obtain⟨u,rfl,d⟩:=c.one;obtain⟨z,aa,n,r,g,e⟩:=I.lstM a;refine yce F.slot_list_append ⟨_,e,rfl⟩ F.entry_list_append (F.args_list_append_2 _ _) (PySem.list_append l aa.toArray n u (by rw[yai];omega)) ⟨e,?_⟩;refine⟨.non,_,I.lset (aq:=aa++[u]) a e (by simp) (r.append (.cons d .nil)) ?_,rfl,q⟩;rw[yak,yc7];omega
noncomputable def zBg:V->List V->Hp->VK->Prop:=fun x vs H Q=>∃l xs y,x=.ref l/\vs=[]/\H l=some (.lst xs)/\xs[xs.length-1]?=some y/\Q y (upd H l (.lst xs.dropLast))
theorem zvi:MtM X "list.pop" zBg:=by
 intro pins s σ H x vs v us Q I d f h;obtain⟨l,xs,y,rfl,rfl,c,i,q⟩:=h;cases d;have b:=f.zero;subst b;obtain⟨z,aa,n,r,k,e⟩:=I.lstM c;obtain⟨u,j,g⟩:=r.get i
 have a:aa.toArray[aa.toArray.size-1]?=some u:=by
  show aa.toArray[aa.length-1]?=some u;rw[<-ybl,<-k];exact j
 refine yce F.slot_list_pop ⟨_,e,rfl⟩ F.entry_list_pop (F.args_list_pop_1 _) (MeetsSeq.list_pop_last l aa.toArray n u a (by rw[yai];omega)) ⟨e,?_⟩;refine⟨y,_,I.lset (aq:=aa.dropLast) c e ?_ r.dropLast ?_,g,q⟩
 ·show aa.toArray.eraseIdxIfInBounds (aa.toArray.size-1)=aa.dropLast.toArray;rw[yai,List.eraseIdxIfInBounds_toArray,zlM]
 ·rw[List.length_dropLast];omega
noncomputable def zBk:R2:=fun x y H Q=>∃l b xs zs,x=.ref l/\y=.ref b/\H l=some (.lst xs)/\H b=some (.lst zs)/\xs.length+zs.length<=sizeLine/\∀p,H p=none->Q (.ref p) (upd H p (.lst (xs++zs)))
theorem zu1:OpR X (binaryOp .Add) zBk:=by
 intro pins s σ H x y v u Q I d c h;obtain⟨l,b,xs,zs,rfl,rfl,i,j,p,q⟩:=h;cases d;cases c;obtain⟨z,aa,n,r,t,e⟩:=I.lstM i;obtain⟨m,a,o,f,g,e2⟩:=I.lstM j;refine PySem.P.add_list e e2 ?_ (by rw[yai,yai];omega)
 have k:aa.toArray++a.toArray=(aa++a).toArray:=by simp
 rw[k];exact⟨.ref _,_,I.lnew (t':=s.toks) (r.append f) (by rw[yak];omega),rfl,q _ I.fresh⟩
def znz{α:Type}(xs:List α)(k:Nat):(List.replicate k xs).flatten.length=k*xs.length:=by
 induction k with
 |zero=>simp|succ k a=>rw[ybA,ya9,yak,a,ycD,Nat.add_comm]
end
end L2
namespace Att
open PySem PySem.W PySem.Calls PyProof.Rows
def zf5:∀(ns:List Int) (vs:List Value),WellAll P h vs (ns.map WData.int)->IntsAre vs ns:=by
 intro ns
 induction ns with
 |nil=>
  intro vs w;rw[ycE]at w;cases w;exact .nil
 |cons n ns c=>
  intro vs w;rw[yaw]at w
  cases w with
  |cons a b=>
   cases a;exact .cons _ _ (c _ b)
theorem zmH{l:OpenLaw}(hn:l.most=some n){P:Params}{h:Heap}
  (J:l.row.toRowW.claim.pre args=true) (U:WellAll P h vals args):
  ∃a vs ns,vals=[Value.ref a]/\args=[WData.list (ns.map WData.int)]/\h.get? a=some {cls:=.type "list",data:=.seq vs.toArray}/\IntsAre vs ns/\ns.length<=n:=by
 have e:WShape.hasAll [] args [.list .int]=true:=(pre_splitW J).1;have g:l.pre.holds [] {args:=args}=true:=(pre_splitW J).2;obtain⟨d,r,rfl,h1,h2⟩:=hasAllW_cons e;obtain rfl:=hasAllW_nil h2;obtain⟨xs,rfl,o⟩:=hasW_list h1;obtain⟨ns,rfl⟩:=items_int o
 have hlen:ns.length<=n:=by
  unfold OpenLaw.pre at g
  have f:(WTm.not (.lt (.lit (.int (n:Int))) (.len (.arg 0)))).holds [] {args:=[.list (ns.map .int)]}=true:=by
   have f:=(holds_andW g).1;rwa[hn]at f
  have c:=condW_of f (w_not (w_lt w_lit (w_len_list (w_arg rfl))));rw[yae]at c;refine Nat.le_of_not_lt fun q=>?_
  have k:(n:Int)<((ns.length:Nat):Int):=by omega
  first
   |(rw[yaz k]at c;exact absurd c (by decide))
   |(simp at c;omega)
 cases U with
 |cons j i=>
  cases i
  cases j with
  |list m b=>exact⟨_,_,ns,rfl,rfl,m,zf5 ns _ b,hlen⟩
def zm7(l:OpenLaw)(args:List WData):l.row.toRowW.claim.post args (.bool true) args=true:=
 postW_of (r:=l.row.toRowW) (X:=(true==true))
  (show WShape.has [] (.bool true) .bool=true by first|rfl|decide|simp[WShape.has,WShape.arms,WShape.armsAll])
  (show(WTm.eq .res (.lit (.bool true))).value [] {args:=args,res:=some (.bool true),after:=args}=some (.bool (true==true))from w_eq_bool (w_res rfl) w_lit) rfl
def zjV{l:OpenLaw}{n:Nat}{q:Program}{loose:List Str}{XP:(Str->Option Value)->Heap->Prop}{YP:World->Heap->Prop}{d:DefRec}
  (hn:l.most=some n) (a3:d.params.defaults=[])
  (call:∀(w:World) (s₀ J:Shared) (mg U:Z6) (fa:Addr) (o:Obj) (pm cd doc:Value) (a:Addr) (vs:List Value) (ns:List Int),
   Ground q loose [] XP w s₀ mg U J.heap->YP w J.heap →
   J.heap.get? fa=some o->o.data=.func (docDef d.name d.params d.body d.scope pm cd doc)->J.heap.CodeRec cd d.name->mg d.name=some (.ref fa) →
   J.heap.get? a=some {cls:=.type "list",data:=.seq vs.toArray}->IntsAre vs ns->ns.length<=n->J.gens=#[] →
   codeAny (model l.prog w) callerA (.call (.ref fa) ⟨[.ref a],[]⟩) (fun r s'=>r=.ok (.ret (.bool true))/\OldK J.heap s'.heap/\s'.os=J.os/\AllBare s'.gens) J):
  WalkO q loose XP YP l.row.toRowW d [] (fun f vs=>PySem.call f vs):=by
 intro w s₀ J mg U G Y fa o pm cd doc u kV m hd hcd i g hg args vals as b h j e p;obtain rfl:u=.none:=Dflts.none i a3;obtain rfl:kV=.none:=Dflts.noKw i;obtain⟨a,vs,ns,rfl,rfl,c,hints,hlen⟩:=zmH hn b e;refine enter_call (yc8 (call w s₀ J mg U fa o pm cd doc a vs ns G Y m (fd_plain hd) hcd g c hints hlen hg) fun r s' k=>?_);obtain⟨rfl,h2,t,s⟩:=k;exact⟨.inl ⟨.bool true,.bool true,[],rfl,fun _=>rfl,.bool true,zm7 l _,fun _=>⟨List.Pairwise.nil,fun _ hm=>(nomatch hm)⟩⟩,h2,t,s⟩
end Att
namespace L2
open PySem PySem.Spec PyProof.Rows
theorem zh4:∀{vs:List Value}{ns:List Int},IntsAre vs ns->Vals (ns.map V.int) vs
 |_,_,.nil=>.nil|_,_,.cons n t h=>.cons ⟨t,rfl⟩ (zh4 h)
noncomputable def zwT(H:Hp):Prop:=∀b,H b=none\/∃o xs,H b=some (.frz o (.lst xs))
def zpK{P:Program}{w:World}{K:PySem.W.Frag}{mg mb:Z6}{CX:CXT}{k:Nat}{fa a:Addr}{fd:FuncData}{x:Str}{sp:Sp}{J:Shared}{vs:List Value}{ns:List Int}
  (KX:K.In J.heap) (a3:J.heap.Ns mainGlobals mg) (hb:J.heap.Ns builtinsNs mb) (aa:∀x:Str,x ≠ "__name__" -> mb x=bootBuiltins x) (a4:J.heap.NoLimit) (hg:J.gens=#[])
  (ha:J.heap.get? a=some {cls:=.type "list",data:=.seq vs.toArray}) (hi:IntsAre vs ns) (hl:ns.length<=sizeLine) (hr:Room k callerA)
  (F:∀base:Heap,K.In base->base.Ns mainGlobals mg->FnOk P w K mg base CX k fa fd [x] sp) (U:∀(s:Shared) (u:Value),BindsTo s fd ⟨[u],[]⟩ [(x,u)])
  (a5:∀H:Hp,zwT H->SqL K H a (ns.map V.int)->sp [.ref a] H (fun v _=>v=.bl true) fun _ _ _=>False)
  (ab:∀H e s',CX [] H J (fun _ _ _=>False) e s'->False):
  codeAny (model P w) callerA (.call (.ref fa) ⟨[.ref a],[]⟩) (fun r s'=>r=.ok (.ret (.bool true))/\OldK J.heap s'.heap/\s'.os=J.os/\AllBare s'.gens) J:=by
 have t:=zh4 hi;have g:=hi.length
 have core:∀H:Hp,zwT H->SqL K H a (ns.map V.int)->HOk P w H J.heap->(∀b,H b≠none->b=a)->(H a≠none->K.lookup a=none) →
   codeAny (model P w) callerA (.call (.ref fa) ⟨[.ref a],[]⟩) (fun r s'=>r=.ok (.ret (.bool true))/\OldK J.heap s'.heap/\s'.os=J.os/\AllBare s'.gens) J:=by
  intro H y G hok A L;have zeh:∀{b:Addr}{o:Obj},J.heap.get? b=some o->H b=none->(zpU J.heap H).get? b=some o:=fun e n=>zpT e n
  have l:∀{b:Addr}{o:Obj}{es:Array DictEntry}{ep:Nat},J.heap.get? b=some o->o.data=.dict es ep->H b=none:=fun {b o es ep} e d=>by
   cases q:H b with
   |none=>rfl|some u=>
    have p:b=a:=A b (by rw[q];simp);subst p;rw[ha]at e;cases e;have d':Data.seq vs.toArray _=Data.dict es ep:=d;cases d'
  have c:∀{b:Addr}{m:Z6},J.heap.Ns b m->(zpU J.heap H).Ns b m:=fun {b m} ⟨o,es,ep,e,d,r⟩=>⟨o,es,ep,zeh e (l e d),d,r⟩
  have j:K.In (zpU J.heap H):=fun b o e=>zeh (KX b o e) (by
   cases q:H b with
   |none=>rfl|some u=>
    have p:b=a:=A b (by rw[q];simp);subst p
    rw[L (by rw[q];simp)]at e;cases e)
  have I:Mod K mg (zpU J.heap H):=⟨j,c a3,⟨mb,c hb,aa⟩,let ⟨E,h1,h2⟩:=a4;⟨E,c h1,h2⟩⟩;have M:Env0 P w K mg (zpU J.heap H) callerA [] J H:=⟨rfl,I,fun b o e=>zsy e,ydt (znY _ _),trivial,fun b hb=>absurd (show b∈([]:List Addr)from hb) (by simp),hok,.of_eq hg⟩;refine yc8 ((F _ j (c a3)).run callerA [] J H ⟨[.ref a],[]⟩ [.ref a] [.ref a] _ _ hr M (U J (.ref a)) (.cons rfl .nil) (a5 H y G)) fun r s' h=>?_
  cases r with
  |error e=>exact(ab H e s' h).elim|ok fl=>
   cases fl with
   |next=>exact False.elim h|brk=>exact False.elim h|cont=>exact False.elim h|ret u=>
    obtain⟨v,H',os,bare,un,i,r',q⟩:=h;have D:v=.bl true:=q;subst D;obtain rfl:u=Value.bool true:=r';refine⟨rfl,OldK.of_keep fun b o e=>?_,os,bare⟩
    cases q:H b with
    |none=>exact un.keep b o e q (by intro z;exact absurd (show b∈([]:List Addr)from z) (by simp)) (by simp)
    |some u=>
     rcases y b with z|⟨ob,xs,z⟩
     ·rw[q]at z;cases z
     ·have C:=un.frzs b ob _ z;obtain⟨B,_⟩:=hok b _ z;obtain⟨e2,_⟩:=i b _ C;rw[e]at B;cases B;exact e2
 cases hk:K.lookup a with
 |some o=>
  have e:=KX a o hk;rw[ha]at e;cases e;refine core (fun _=>none) (fun _=>.inl rfl) (.inr ⟨_,vs.toArray,_,hk,rfl,rfl,rfl,by rw[yai,g];exact hl,by simpa using t⟩) (fun b u z=>by have f:(none:Option HO)=some u:=z;cases f) (fun b z=>absurd rfl z) fun z=>absurd rfl z
 |none=>
  refine core (fun b=>if b=a then some (.frz {cls:=.type "list",data:=.seq vs.toArray} (.lst (ns.map V.int)))else none) (fun b=>?_) (.inl (.inr ⟨{cls:=.type "list",data:=.seq vs.toArray},if_pos rfl⟩)) (fun b u z=>?_) (fun b z=>?_) fun _=>hk
  ·by_cases hb:b=a
   ·exact .inr ⟨_,_,if_pos hb⟩
   ·exact .inl (if_neg hb)
  ·by_cases hb:b=a
   ·have f:=(if_pos hb).symm.trans z;cases f;subst hb;exact⟨ha,by rw[yae];exact hl,vs,_,t,ha⟩
   ·have f:=(if_neg hb).symm.trans z;cases f
  ·by_cases hb:b=a
   ·exact hb
   ·exact absurd (if_neg hb) z
def zri{l:PySem.W.OpenLaw}{n k:Nat}{d:DefRec}{K:Params->PySem.W.Frag}{CX:World->CXT}{sp:World->Sp}
  (hn:l.most=some n) (U:n<=sizeLine) (a3:d.params.defaults=[]) (hr:Room k callerA)
  (hY:∀(w:World) (h:Heap),YP w h->(K w.params).In h)
  (F:∀(w:World) (mg:Z6) (fa:Addr) (h:Heap),(K w.params).In h->h.Ns mainGlobals mg->mg d.name=some (.ref fa) →
   ∃fd:FuncData,(∀(s:Shared) (u:Value),BindsTo s fd ⟨[u],[]⟩ [(x,u)]) ∧
    ∀base:Heap,(K w.params).In base->base.Ns mainGlobals mg->FnOk l.prog w (K w.params) mg base (CX w) k fa fd [x] (sp w))
  (J:∀(w:World) (H:Hp) (a:Addr) (ns:List Int),ns.length<=n->zwT H->SqL (K w.params) H a (ns.map V.int)->sp w [.ref a] H (fun v _=>v=.bl true) fun _ _ _=>False)
  (a4:∀(w:World) (H:Hp) (s:Shared) (e:Value) (s':Shared),CX w [] H s (fun _ _ _=>False) e s'->False):
  PySem.W.WalkO q loose XP YP l.row.toRowW d [] (fun f vs=>PySem.call f vs):=by
 refine Att.zjV hn a3 fun w s₀ c mg y fa o pm cd doc a vs ns G Y z hd hcd j i hints hlen hg=>?_
 have m:=hY w _ Y;obtain⟨fd,hb,t⟩:=F w mg fa _ m G.T.g j;exact zpK m G.T.g G.T.b G.T.builtins G.T.nolimit hg i hints (yas hlen U) hr t hb (fun H r p=>J w H a ns hlen r p) fun H e s'=>a4 w H c e s'
noncomputable def zcL(s:Stmt):Arguments:=match s with
 |.FunctionDef _ a _ _ _ _ _ _ _ _=>a|_=>{posonlyargs:=[],args:=[],vararg:=none,kwonlyargs:=[],kw_defaults:=[],kwarg:=none,defaults:=[]}
noncomputable def zbX(s:Stmt):List Stmt:=match s with
 |.FunctionDef _ _ b _ _ _ _ _ _ _=>b|_=>[]
noncomputable def zaL(s:Stmt):Scope:=match s with
 |.FunctionDef _ _ _ _ _ _ sc _ _ _=>sc|_=>{kind:=.function,names:=[],isGenerator:=false,isCoroutine:=false}
structure Fun(K:PySem.W.Frag)(x qual:Str)(st:Stmt)(f:Addr)(fd:FuncData):Prop where
 ex:∃(oc:Value) (od:Option Addr) (kV doc pm:Value) (an:Option Addr) (cdv ct:Value) (osl:Array (Option Value)),
  fd=PySem.W.fnOf x qual (zcL st) (zbX st) (zaL st) .none kV doc pm an cdv ct/\K.lookup f=some ⟨oc,od,.func fd,osl⟩/\PySem.W.codeIn K cdv qual=true
 kp:PySem.W.keepIn K (.ref f)=true
section
variable{P:Program}{w:World}{K:PySem.W.Frag}{mg:Z6}{base:Heap}
def Fun.binds{x qual:Str}{st:Stmt}{f:Addr}{fd:FuncData}{ps:List Str}(F:Fun K x qual st f fd)
  (h:∀(kV doc pm:Value) (an:Option Addr) (J ct:Value) (us:List Value),us.length=ps.length->bindArgs (PySem.W.fnOf x qual (zcL st) (zbX st) (zaL st) .none kV doc pm an J ct) ⟨us,[]⟩=pure (ps.zip us)):zdm K fd ps []:=by
 obtain⟨oc,b,kV,doc,pm,an,J,ct,a,rfl,c,hcd⟩:=F.ex;exact .all (h kV doc pm an J ct)
def zq4{x qual:Str}{st:Stmt}{f:Addr}{oc:Value}{od an:Option Addr}{U:Array (Option Value)}{kV doc pm J ct:Value}(l:K.lookup f=some ⟨oc,od,.func (PySem.W.fnOf x qual (zcL st) (zbX st) (zaL st) .none kV doc pm an J ct),U⟩)
  (c:PySem.W.codeIn K J qual=true) (k:PySem.W.keepIn K (.ref f)=true):Fun K x qual st f (PySem.W.fnOf x qual (zcL st) (zbX st) (zaL st) .none kV doc pm an J ct):=⟨⟨oc,od,kV,doc,pm,an,J,ct,U,rfl,l,c⟩,k⟩
end
def zq3{A B:Prop}(h:B):if false=true then A else B:=by
 rw[if_neg ybg];exact h
def zq2{A B:Prop}(h:A):if true=true then A else B:=by
 rw[if_pos rfl];exact h
noncomputable def Its(x:Str):It:=⟨fun i _=>i<x.cps.size,fun i H v H'=>H'=H/\∃c,x.cps[i]?=some c/\v=.str ⟨#[c]⟩,fun i _=>i=x.cps.size⟩
def zj4{P:Program}{w:World}{K:PySem.W.Frag}{tg:Expr}(it:Addr)(x:Str)(t:Tok)(ty:String)(ht:["enumerate","zip","dict_itemiterator","dict_reverseitemiterator","odict_iterator","itertools.zip_longest","itertools.pairwise"].contains ty=false)
  (W:∀A:Around,A.handled=none->Walks P w A it [it] [it] x.cps.size (SignAt x) (fun i h=>h.IsStrIter it ty x t i))
  (J:∀(A:Around) (i:Nat) (s:Shared) (Q:Z5) (E:Z5),s.heap.IsStrIter it ty x t i->Q (.ref it) s->wpAny (model P w) A (pyIter (.ref it)) Q E s):Turn P w K tg (Its x) [it] it (fun i h=>h.IsStrIter it ty x t i)where
 mem:=by simp
 obj:=fun i h st b hb=>by
  have e:b=it:=by simpa using hb
  subst e;obtain⟨o,e,c,d⟩:=st;exact⟨o,e,fun v z=>by rw[d]at z;cases z⟩
 keep:=fun i h h' st k=>by
  obtain⟨o,e,r⟩:=st;exact⟨o,k it (by simp) o e,r⟩
 item:=by
  intro X j f l g i pins s σ H E I hf st hg;subst j f l;obtain⟨q,f1,f2,p,n,m⟩:=hf it (by simp);refine(W X.A (I.ok.hd g)).item i s _ _ hg st fun v h' tk hv a kk=>?_
  obtain⟨c,u,y,rfl⟩:=hv;have B:Inv X pins σ H {s with heap:=h',toks:=tk}:=I.turned (fun b o hb e=>kk b o (by simpa using hb) e) q f1 p n m;obtain⟨o,e,c',d⟩:=id a;exact⟨_,rfl,zn0 (s:={s with heap:=h',toks:=tk}) e c' d ht ⟨.str ⟨#[c]⟩,H,B,⟨u,rfl⟩,⟨rfl,c,y,rfl⟩,a,fun b hb=>(hf b hb).1⟩⟩
 done:=by
  intro X j f l g i pins s σ H E I hf st hg;subst j f l;obtain⟨q,f1,f2,p,n,m⟩:=hf it (by simp);have hi:i=x.cps.size:=hg;subst hi;exact(W X.A (I.ok.hd g)).done s _ _ st fun h' tk kk=>⟨rfl,I.turned (fun b o hb e=>kk b o (by simpa using hb) e) q f1 p n m⟩
 self:=fun A i s Q E st h=>J A i s Q E st h
noncomputable def zB4(tl:TE):TI:=fun σ H R=>tl σ H fun v H1=>∃x,v=.str x/\R (Its x) H1
def zuM(J:PE X l tl):PI X tg l (zB4 tl):=by
 intro pins s σ H R I h;refine thn (J pins s σ H _ I h) fun v s1 ⟨x,H1,a,r1,f⟩=>?_
 obtain⟨z,e,q⟩:=f;subst e;obtain⟨t,rfl⟩:=r1
 have fp:∀b∈[s1.heap.objs.size],zoG X pins H1 b:=fun b hb=>by
  have e:b=s1.heap.objs.size:=by simpa using hb
  subst e;exact a.fpOk (yaj _) (a.hok.fresh (yaj _))
 cases d:z.cps.all (·<128)
 ·exact wpAny_pyIter_wide d ⟨s1.heap.objs.size,[s1.heap.objs.size],_,_,H1,rfl,a.kept (t':=s1.toks) fun b o e=>yad _ e,zj4 _ z t "str_iterator" (by decide) (fun A c=>Walks.strWide c _ z t) (fun A i s Q E st h=>wpAny_pyIter_striter_wide st h),⟨_,yam _ rfl,rfl,rfl⟩,fp,q⟩
 ·exact wpAny_pyIter_ascii d ⟨s1.heap.objs.size,[s1.heap.objs.size],_,_,H1,rfl,a.kept (t':=s1.toks) fun b o e=>yad _ e,zj4 _ z t "str_ascii_iterator" (by decide) (fun A c=>Walks.strAscii c _ z t) (fun A i s Q E st h=>wpAny_pyIter_striter_ascii st h),⟨_,yam _ rfl,rfl,rfl⟩,fp,q⟩
def zuZ:OpR X (compareOp .LtE) (fun x y H Q=>∃a b,x=.str a/\y=.str b/\Q (.bl (!decide (b.cps.toList<a.cps.toList))) H):=by
 intro pins s σ H x y v u Q I d c h;obtain⟨a,b,rfl,rfl,q⟩:=h;obtain⟨t,rfl⟩:=d;obtain⟨t',rfl⟩:=c;exact PySem.P.le_str ⟨.bl (!decide (b.cps.toList<a.cps.toList)),H,I,rfl,q⟩
def zlW(h:∀y∈scope.names,y.2=.free->∃c,env.cells.lookup y.1=some c):
  ∃cl,closureFor scope env=pure cl/\(∀y c,cl.lookup y=some c->env.cells.lookup y=some c)/\∀y,(y,NameKind.free)∈scope.names->∃c,cl.lookup y=some c:=by
 unfold closureFor
 have key:∀(l:List (Str×NameKind)) (cs:List (Str×Addr)),(∀y∈l,y.2=.free->∃c,env.cells.lookup y.1=some c)->(∀y c,cs.lookup y=some c->env.cells.lookup y=some c) →
   ∃cl,(forIn l cs fun(x:Str×NameKind) (r:List (Str×Addr))=>(if(x.2==NameKind.free)=true then(do let c ← cellOf env x.1;pure (ForInStep.yield ((x.1,c)::r)))else pure (ForInStep.yield r):Sem (ForInStep (List (Str×Addr)))))=pure cl ∧
    (∀y c,cl.lookup y=some c->env.cells.lookup y=some c)/\(∀y,(y,NameKind.free)∈l->∃c,cl.lookup y=some c)/\(∀y c,cs.lookup y=some c->∃c',cl.lookup y=some c'):=by
  intro l
  induction l with
  |nil=>intro cs _ j;exact⟨cs,rfl,j,fun y a=>by simp at a,fun y c e=>⟨c,e⟩⟩
  |cons p l q=>
   intro cs o j;obtain⟨n,k⟩:=p
   by_cases hk:(k==NameKind.free)=true
   ·have t:k=.free:=eq_of_beq hk;obtain⟨c,s⟩:=o (n,k) yan t
    obtain⟨cl,f,e2,i,g⟩:=q ((n,c)::cs) (fun y a=>o y (yal _ a)) (fun y c' e=>by
     rw[yaM]at e
     cases d:y==n with
     |true=>rw[d]at e;cases e;rw[eq_of_beq d];exact s|false=>rw[d]at e;exact j y c' e)
    refine⟨cl,?_,e2,fun y a=>?_,fun y c' e=>?_⟩
    ·rw[ydj];show((if(k==NameKind.free)=true then _ else _) >>= _)=_;rw[if_pos hk]
     have b:cellOf env n=pure c:=by unfold cellOf;rw[s]
     show(cellOf env n >>= _) >>= _=_;rw[b];simpa using f
    ·rcases yau.mp a with z|a
     ·cases z;exact g n c (by rw[yaM];simp)
     ·exact i y a
    ·cases d:y==n with
     |true=>exact g y c (by rw[yaM,d])
     |false=>exact g y c' (by rw[yaM,d];exact e)
   ·obtain⟨cl,f,e2,i,g⟩:=q cs (fun y a=>o y (yal _ a)) j;refine⟨cl,?_,e2,fun y a=>?_,g⟩
    ·rw[ydj];show((if(k==NameKind.free)=true then _ else _) >>= _)=_;rw[if_neg hk];simpa using f
    ·rcases yau.mp a with z|a
     ·cases z;exact absurd rfl hk
     ·exact i y a
 obtain⟨cl,f,e2,i,_⟩:=key scope.names [] h (fun y c e=>by simp at e);refine⟨cl,?_,e2,i⟩;show((forIn scope.names [] _:Sem (List (Str×Addr))) >>= _)=_;have u:=congrArg (fun m=>m >>= (pure:List (Str×Addr)->Sem (List (Str×Addr)))) f;simpa using f
noncomputable def PIf(X:Cx)(ifs:List Expr)(t:TT):Prop:=
 ∀(pins:Z3) (s:Shared) (σ:St) (H:Hp) (Q:Bool->Hp->Prop),Inv X pins σ H s->t σ H Q →
  wpAny (model X.prog X.w) X.A (forIn ifs true fun c r=>if r=true then do let ok ← isTrue c X.env (eval c X.env);pure (ForInStep.yield ok)else pure (ForInStep.yield r)) (TP X pins σ Q) X.xe s
noncomputable def zAW:TT:=fun _ H Q=>Q true H
def zsl:PIf X [] zAW:=fun _ _ _ H _ I h=>wpAny_tests_nil ⟨H,I,h⟩
def zsk(h:PT X c t):PIf X [c] t:=fun pins s σ H Q I a=>wpAny_tests_one (h pins s σ H Q I a)
theorem zfd{scope:Scope}{env:Env}:∀{names:List (Str×NameKind)}{y:Str},(y,NameKind.free)∈names->(∀z∈names,z.1=y->z.2=.free) →
  (names.map fun(n,k)=>if(k==NameKind.free&&env.scope.kind==.function&&env.kindOf n==some .cell)then(n,NameKind.cell)else(n,k)).lookup y=some .cell ∨
  (names.map fun(n,k)=>if(k==NameKind.free&&env.scope.kind==.function&&env.kindOf n==some .cell)then(n,NameKind.cell)else(n,k)).lookup y=some .free
 |[],_,h,_=>by simp at h
 |(n,k)::r,y,h,u=>by
  rw[yaw];show List.lookup y ((if(k==NameKind.free&&env.scope.kind==.function&&env.kindOf n==some .cell)=true then(n,NameKind.cell)else(n,k))::_)=_\/List.lookup y ((if(k==NameKind.free&&env.scope.kind==.function&&env.kindOf n==some .cell)=true then(n,NameKind.cell)else(n,k))::_)=_
  cases a:y==n with
  |true=>
   have e:n=y:=(eq_of_beq a).symm;have g:k=.free:=u (n,k) yan e
   by_cases b:(k==NameKind.free&&env.scope.kind==.function&&env.kindOf n==some .cell)=true
   ·rw[if_pos b];left;simp[yaM,a]
   ·rw[if_neg b];right;simp[yaM,a,g]
  |false=>
   have f:(y,NameKind.free)∈r:=by
    rcases yau.mp h with z|z
    ·cases z;simp at a
    ·exact z
   have c:=zfd (scope:=scope) (env:=env) f fun z d=>u z (yal _ d)
   by_cases b:(k==NameKind.free&&env.scope.kind==.function&&env.kindOf n==some .cell)=true
   ·rw[if_pos b];simpa[yaM,a]using c
   ·rw[if_neg b];simpa[yaM,a]using c
def Inv.track(I:Inv X pins σ H s)(J:H D=none)(h1:X.s₀.heap.objs.size<=D)(h2:D≠X.env.locals)(h3:∀x c,X.env.cells.lookup x=some c->c≠D)(U:∀p∈X.pn++pins,p.1≠D)
  (new:zba X.prog X.w (upd H D o) s.heap D o):Inv X pins σ (upd H D o) s:=by
 have a:∀b u,H b=some u->b≠D:=fun b u e=>zam e J
 obtain⟨h',g',d',t',o'⟩:=s;refine I.step (h':=h') (g':=g') (d':=d') (t':=t') (ch:=[D]) (fun b hb=>?_) (fun b o _ _ _ e _=>e) (fun b o _ _ _ e _=>⟨o.slots,e⟩) (fun b o d e n=>?_) (fun b o _ e=>⟨o,e⟩) (fun b xs e=>?_) (fun b o u e=>?_) (fun b ps e=>?_) (fun m hm=>hm) (fun b u e=>?_) I.bare
 ·have e:b=D:=by simpa using hb
  subst e;exact⟨.inr h1,h2,h3,U⟩
 ·rw[zai (fun z=>d (by simp[z]))];exact n
 ·rw[zai (a _ _ e)];exact e
 ·rw[zai (a _ _ e)];exact e
 ·exact⟨#[],by rw[zai (a _ _ e),e];simp⟩
 ·by_cases hb:b=D
  ·subst hb;rw[zat]at e;cases e;exact new
  ·rw[zai hb]at e
   exact(I.hok b u e).stay (fun _ _ _ q=>q) (fun c q=>by rw[zai (a _ _ q)];exact q) fun c xs q=>by rw[zai (a _ _ q)];exact q
section
variable{X:Cx}{elt iter:Expr}{x:Str}{px pos:Pos}{ifs:List Expr}{scope:Scope}{caps:List (Str×Nat)}{wi:TI}{tt:TT}{te:TE}
noncomputable abbrev lob(aa:List Value)(k:Nat):Obj:={cls:=.type "list",data:=.seq aa.toArray k}
end
section
variable{prog:Program}{w:World}{A:Around}{R:Result->Shared->Prop}{s:Shared}
theorem zpG(I:Nat->Shared->Prop)
  (aa:∀n s,I n s->wpAny (model prog w) A (pyNext it) (fun r U=>match r with
   |none=>R (.ok .next) U|some v=>wpAny (model prog w) A (letOwnedTupleGo target it v) (fun _ s₀=>wpAny (model prog w) A (assign target env v) (fun _ a5=>
     wpAny (model prog w) A (forIn ifs true fun c r=>if r=true then do let ok ← isTrue c env (eval c env);pure (ForInStep.yield ok)else pure (ForInStep.yield r)) (fun ok J=>
      if ok=true then wpAny (model prog w) A (eval elt env) (fun x a4=>
       wpAny (model prog w) A (call (.builtin "list.append") [acc,x]) (fun _ a3=>∃m,m<n/\I m a3) (notedBy (model prog w) A env fun e s'=>R (.error e) s') a4) (notedBy (model prog w) A env fun e s'=>R (.error e) s') J
      else ∃m,m<n/\I m J) (notedBy (model prog w) A env fun e s'=>R (.error e) s') a5) (notedBy (model prog w) A env fun e s'=>R (.error e) s') s₀) (notedBy (model prog w) A env fun e s'=>R (.error e) s') U) (notedBy (model prog w) A env fun e s'=>R (.error e) s') s)
  (n:Nat) (h:I n s):codeAny (model prog w) A (.compLoop (.ListComp elt [⟨target,iter,ifs,0⟩] scope pos) 0 it acc env) R s:=by
 refine codeAny_loop rfl I (fun n s i=>?_) n h;show wpAny _ A ((compTurn (.ListComp elt [⟨target,iter,ifs,0⟩] scope pos) 0 it acc env).onRaise (fun x=>do noteFrame x env;theTreesLotGoes x)) _ _ s;refine wpAny_noted ?_;rw[compTurn_list];refine yaa (ydD (yaa (ybr (aa n s i) (fun r U b=>?_) fun _ _ h'=>h')))
 cases r with
 |none=>exact yaf b|some v=>
  refine yaa (ybr b (fun _ s₀ h₀=>?_) fun _ _ h'=>h');refine yaa (ybr h₀ (fun _ a5 g=>yaa (ybr g (fun ok J a=>?_) fun _ _ h'=>h')) fun _ _ h'=>h')
  cases ok with
  |false=>exact yaf ⟨rfl,a⟩|true=>
   exact yaa (yaa (ybr a (fun x a4 f=>yaa (ybr f (fun _ a3 d=>yaf (yaf ⟨rfl,d⟩)) fun _ _ h'=>h')) fun _ _ h'=>h'))
end
theorem za8:∀(names:List (Str×NameKind)) (n:Nat) (acc:List (Str×Addr)),cellsFrom n names acc=cellsFrom n names []++acc
 |[],_,_=>rfl|(x,k)::r,n,acc=>by
  unfold cellsFrom;split
  ·rw[za8 r (n+1) ((x,n)::acc),za8 r (n+1) [(x,n)]];simp
  ·exact za8 r n acc
theorem zdg:∀(names:List (Str×NameKind)) (n:Nat) {x:Str}{c:Addr},(x,c)∈cellsFrom n names []->(x,NameKind.cell)∈names
 |[],_,_,_,h=>by cases h
 |(y,k)::r,n,x,c,h=>by
  unfold cellsFrom at h;split at h
  ·rename_i hk;rw[za8]at h
   rcases ybb.mp h with h|h
   ·exact yal _ (zdg r _ h)
   ·rw[yaD]at h;cases h;rw[ycB.mp hk];exact yan
  ·exact yal _ (zdg r _ h)
theorem zca{α:Type}:∀{l m:List (Str×α)},(l++m).lookup x=(l.lookup x).or (m.lookup x)
 |[],m=>rfl|(y,a)::l,m=>by
  rw[List.cons_append,yaM,yaM]
  cases x==y with
  |true=>rfl|false=>exact zca
theorem zb4:∀(names:List (Str×NameKind)) (n:Nat) {x:Str},(x,NameKind.cell)∈names->∃c,(cellsFrom n names []).lookup x=some c
 |[],_,_,h=>by cases h
 |(y,k)::r,n,x,h=>by
  unfold cellsFrom;split
  ·rename_i hk;rw[za8,zca]
   rcases yau.mp h with e|h
   ·cases e
    cases a:(cellsFrom (n+1) r []).lookup y with
    |some c=>exact⟨c,rfl⟩|none=>exact⟨n,by simp[yaM]⟩
   ·obtain⟨c,e⟩:=zb4 r (n+1) h;rw[e];exact⟨c,rfl⟩
  ·rename_i hk
   rcases yau.mp h with e|h
   ·cases e;exact absurd rfl hk
   ·exact zb4 r n h
def zcF{M:Model}{A:Around}{E:Z5}{s:Shared}{scope:Scope}{globals:Addr}{closure:List (Str×Addr)}{qual:Str}{func:Option Addr}{code:Value}{outer:Env}{builtins:Addr}{Q:Env->Shared->Prop}
  (J:∀h',h'.Ns s.heap.objs.size (fun _=>none)->(∀b o,s.heap.get? b=some o->h'.get? b=some o)->CellsOk h' (s.heap.objs.size+1) (cellsFrom (s.heap.objs.size+1) scope.names []) →
   Q (newEnv scope s.heap.objs.size globals (cellsFrom (s.heap.objs.size+1) scope.names []++closure) qual func code (some outer) builtins) {s with heap:=h'}):
  wpAny M A (newFunctionEnv scope globals closure [] qual func code (some outer) builtins) Q E s:=by
 simp only[newFunctionEnv,ydu,yb2];refine yaa (wpAny_alloc ?_);refine yaa (wpAny_layCells _ (fun name kind cells=>by cases a:kind==NameKind.cell<;>simp[a]) _ _ _ _ ?_);have ok:=cellsFrom_ok scope.names (s.heap.push {cls:=.type "dict",data:=.dict #[]}) (s.heap.objs.size+1) [] ⟨fun _ _ hm=>(nomatch hm),List.Pairwise.nil⟩ (by rw[ybc];exact yaj _);rw[ybc]at ok;rw[show({s with heap:=s.heap.push {cls:=.type "dict",data:=.dict #[]}}:Shared).heap.objs.size=s.heap.objs.size+1 from ybc ..];rw[za8];simp only[List.forIn_nil];refine yaa (yaf (yaf ?_));exact J _ ((Heap.Ns.new s.heap (.type "dict")).keeps (pushCells_keeps _ _)) (fun b o e=>pushCells_keeps _ _ b o (yad _ e)) ok
structure CompScopeG(sc scope:Scope)(N:List Str)(xs:List Str)(caps:List (Str×Nat)):Prop where
 nd:(scope.names.map (·.1)).Nodup
 kind:scope.kind=.function
 names:∀y∈scope.names,y.2=.local->scope.names.lookup y.1=some .local
 free:∀y∈scope.names,y.2=.free->sc.names.lookup y.1=some .cell\/sc.names.lookup y.1=some .free
 cap:∀p∈caps,N[p.2]?=some p.1/\(p.1,NameKind.free)∈scope.names/\sc.names.lookup p.1≠some .local
 uniq:∀p∈caps,∀z∈scope.names,z.1=p.1->z.2=.free
noncomputable def za9(X:Cx)(xs:List Str)(caps:List (Str×Nat))(scope:Scope)(cl:List (Str×Addr))(C:Addr)(s:Shared)(H:Hp)(ex:List Addr):Cx:=
 {X with N:=xs++caps.map (·.1),s₀:=s,H₀:=H,env:=compEnvC scope cl C X.env,outer:=X.stack,ex:=ex,fn:=fun x=>decide (scope.names.lookup x=some .cell),pn:=[],xe:=fun _ _=>False}
noncomputable abbrev capσ(σ:St)(n:Nat)(caps:List (Str×Nat)):St:=List.replicate n none++caps.map fun p=>(σ[p.2]?).join
noncomputable def zkd(wi:TI)(g:TG)(tt:TT)(te:TE)(n:Nat)(caps:List (Str×Nat)):TE:=fun σ H Q=>wi σ H fun J H1=>∃W:Nat->Nat->List V->St->Hp->Prop,(∃m,W 0 m [] (capσ σ n caps) H1)/\∀i m ys b H,W i m ys b H →
 ys.length<=sizeLine/\((J.stop i H/\∀p,H p=none->Q (.ref p) (upd H p (.lst ys))) ∨
 (J.go i H/\∀x H',J.yld i H x H'->g x b H' fun a H2=>tt a H2 fun ok d=>if ok=true then te a d fun y e=>∃c,c<m/\W (i+1) c (ys++[y]) a e else ∃c,c<m/\W (i+1) c ys a d))
section
variable{X:Cx}{elt iter tg:Expr}{xs:List Str}{pos:Pos}{ifs:List Expr}{scope:Scope}{caps:List (Str×Nat)}{wi:TI}{g:TG}{tt:TT}{te:TE}
structure OwnC(X:Cx)(scope:Scope)(lo:Nat)(h:Heap)(cl:List (Str×Addr)):Prop where
 sort:∀y c,cl.lookup y=some c->X.env.cells.lookup y=some c\/(h.IsCell c none/\lo<=c)
 inj:∀y z c,cl.lookup y=some c->cl.lookup z=some c->y=z
 has:∀y,((y,NameKind.free)∈scope.names\/(y,NameKind.cell)∈scope.names)->∃c,cl.lookup y=some c
 own:∀y c,scope.names.lookup y=some .cell->cl.lookup y=some c->lo<=c
 free:∀y,(y,NameKind.free)∈scope.names->∃c,cl.lookup y=some c/\X.env.cells.lookup y=some c
def zix(h:(relabel scope env).names.lookup y=some .cell\/(relabel scope env).names.lookup y=some .free):(y,NameKind.free)∈scope.names\/(y,NameKind.cell)∈scope.names:=by
 have go:∀k,(relabel scope env).names.lookup y=some k->(k=.cell\/k=.free)->(y,NameKind.free)∈scope.names\/(y,NameKind.cell)∈scope.names:=fun k e hk=>by
  have hm:=yaP e;obtain⟨⟨n,k0⟩,b,e2⟩:=yah.mp hm
  by_cases a:(k0==.free&&env.scope.kind==.function&&env.kindOf n==some .cell)=true
  ·have c:(n,NameKind.cell)=(y,k):=by rw[<-e2];show _=if _ then _ else _;rw[if_pos a]
   cases c
   have:k0=.free:=by simp only[yab]at a;exact eq_of_beq a.1.1
   subst this;exact .inl b
  ·have c:(n,k0)=(y,k):=by rw[<-e2];show _=if _ then _ else _;rw[if_neg a]
   cases c
   rcases hk with rfl|rfl
   ·exact .inr b
   ·exact .inl b
 rcases h with h|h
 ·exact go _ h (.inl rfl)
 ·exact go _ h (.inr rfl)
theorem ziJ:∀{l:List (Str×NameKind)},(l.map (·.1)).Nodup->∀{x:Str}{a b:NameKind},(x,a)∈l->(x,b)∈l->a=b
 |[],_,_,_,_,h,_=>by cases h
 |p::l,nd,x,a,b,h,h'=>by
  rw[yaw,ybp]at nd
  rcases yau.mp h with h|h<;>rcases yau.mp h' with h'|h'
  ·rw[<-h']at h;exact(Prod.mk.inj h).2
  ·exact absurd (yah.mpr ⟨_,h',by rw[<-h]⟩) nd.1
  ·exact absurd (yah.mpr ⟨_,h,by rw[<-h']⟩) nd.1
  ·exact ziJ nd.2 h h'
def znj{X:Cx}{scope:Scope}{lo n:Nat}{h:Heap}{cl:List (Str×Addr)}(nd:(scope.names.map (·.1)).Nodup)(hn:lo<=n)(a4:∀x y c,X.env.cells.lookup x=some c->X.env.cells.lookup y=some c->x=y)
  (J:∀y c,cl.lookup y=some c->X.env.cells.lookup y=some c) (a3:∀y c,X.env.cells.lookup y=some c->c<lo) (U:∀y,(y,NameKind.free)∈scope.names->∃c,cl.lookup y=some c) (ok:CellsOk h n (cellsFrom n scope.names [])):
  OwnC X scope lo h (cellsFrom n scope.names []++cl):=by
 have sort:∀y c,(cellsFrom n scope.names []++cl).lookup y=some c->((cellsFrom n scope.names []).lookup y=some c)\/((cellsFrom n scope.names []).lookup y=none/\cl.lookup y=some c):=fun y c e=>by
  rw[zca]at e
  cases f:(cellsFrom n scope.names []).lookup y with
  |some c'=>rw[f]at e;exact .inl e|none=>rw[f]at e;exact .inr ⟨rfl,e⟩
 refine⟨fun y c e=>?_,fun y z c e g=>?_,fun y d=>?_,fun y c d e=>?_,fun y d=>?_⟩
 ·rcases sort y c e with z|⟨_,z⟩
  ·have:=ok.empty y c (yaP z);exact .inr ⟨this.1,yas hn this.2⟩
  ·exact .inl (J y c z)
 ·rcases sort y c e with a|⟨_,a⟩<;>rcases sort z c g with b|⟨_,b⟩
  ·exact name_of_addr ok.apart (yaP a) (yaP b)
  ·have h1:=(ok.empty y c (yaP a)).2;have h2:=a3 z c (J z c b);exact absurd (yat h2 (yas hn h1)) (ybi _)
  ·have h1:=(ok.empty z c (yaP b)).2;have h2:=a3 y c (J y c a);exact absurd (yat h2 (yas hn h1)) (ybi _)
  ·exact a4 y z c (J y c a) (J z c b)
 ·rw[zca]
  cases f:(cellsFrom n scope.names []).lookup y with
  |some c=>exact⟨c,rfl⟩|none=>
   rcases d with d|d
   ·exact U y d
   ·obtain⟨c,e⟩:=zb4 scope.names n d;rw[f]at e;cases e
 ·obtain⟨c',g⟩:=zb4 scope.names n (yaP d);rw[zca,g]at e;have:c'=c:=Option.some.inj e;subst this;exact yas hn (ok.empty y c' (yaP g)).2
 ·obtain⟨c,e⟩:=U y d;refine⟨c,?_,J y c e⟩;rw[zca]
  cases f:(cellsFrom n scope.names []).lookup y with
  |some c'=>
   have:=zdg scope.names n (yaP f);cases ziJ nd d this
  |none=>exact e
theorem zon(S:CompScopeG X.env.scope scope X.N xs caps)(hu:∀p∈caps,∀z∈scope.names,z.1=p.1->z.2=.free)
  (I:Inv X pins σ H s) (J:OwnC X scope s.heap.objs.size s'.heap cl)
  (hf:∀b∈fp,zoG X pins H b) (U:∀b∈fp,b<s.heap.objs.size) (hC:s.heap.objs.size<=C) (ho:s'.os=s.os) (hg:s'.gens=s.gens) (hk:∀b o,s.heap.get? b=some o->s'.heap.get? b=some o) (hn:s'.heap.Ns C (fun _=>none)):
  Inv (za9 X xs caps scope cl C s H fp) [] (capσ σ xs.length caps) H s':=by
 have j:∀y c,cl.lookup y=some c->∃v,s'.heap.IsCell c v:=fun y c e=>by
  rcases J.sort y c e with z|z
  ·obtain⟨v,o,q,d⟩:=I.cell y c z;exact⟨v,o,hk _ _ q,d⟩
  ·exact⟨none,z.1⟩
 refine⟨⟨I.ok.mod,S.kind,I.ok.glob,I.ok.blt,hC,J.inj,fun y B=>J.has y (zix B),fun y c z e=>J.own y c (yag z) e,I.ok.hd,I.ok.frames,.inl rfl,fun b hb=>⟨yav (yat (U b hb) hC),fun y c e=>(J.sort y c e).elim (fun z=>(hf b hb).2.2.2.2.1 y c z) fun z=>ya6 (yat (U b hb) z.2)⟩,
  I.bs,yas I.ok.bsz I.sz,fun b o e hb=>?_,fun b hb hm=>?_,I.stack,I.stkFree⟩,ho,by rw[hg];exact I.bare,Un.kept hk,⟨_,hn,fun i y v h1 h2 K=>?_⟩,fun y c e=>j y c e,I.hok.fresh hC,fun y c e=>(J.sort y c e).elim (I.freeC y c) fun z=>I.hok.fresh z.2,fun p k=>absurd (show p∈([]:Z3)from k) (by simp),I.hok.kept hk,?_⟩
 ·rcases(hf b hb).2.2.2.1 with z|z
  ·exact I.ok.noex b o e z
  ·exact absurd (yat (yao e) (yas I.ok.bsz z)) (ybi _)
 ·rcases yau.mp (I.stkSub b hm)with z|z
  ·exact(hf b hb).2.1 z
  ·exact(hf b hb).2.2.1 z
 ·have hi:¬ i<xs.length:=fun hi=>by
   have a:(capσ σ xs.length caps)[i]?=some (some v):=h2;rw[yaF (by rw[ya2];exact hi),ycb]at a
   split at a<;>cases a
  ·have f:(caps.map (·.1))[i-xs.length]?=some y:=by
    have f:(xs++caps.map (·.1))[i]?=some y:=h1;rwa[yaA (by omega)]at f
   rw[yax]at f
   have a:(caps.map fun p=>(σ[p.2]?).join)[i-xs.length]?=some (some v):=by
    have a:(capσ σ xs.length caps)[i]?=some (some v):=h2;rw[yaA (by rw[ya2];omega),ya2]at a;exact a
   rw[yax]at a
   cases k:caps[i-xs.length]? with
   |none=>rw[k]at f;cases f|some p=>
    rw[k]at f a;have E:p.1=y:=Option.some.inj f;have ev:(σ[p.2]?).join=some v:=Option.some.inj a;subst E;have g:p∈caps:=ybt k;obtain⟨c1,c2,G⟩:=S.cap p g
    have x:σ[p.2]?=some (some v):=by
     cases q:σ[p.2]? with
     |none=>rw[q]at ev;cases ev|some w=>rw[q]at ev;have:w=some v:=ev;rw[this]
    have t:=S.free _ c2 rfl;have hv:Vis X.env.scope p.1:=t.elim (fun z=>.inr (.inl z)) (fun z=>.inr (.inr z));obtain⟨m,_,D⟩:=I.loc;obtain⟨u,r,l⟩:=D p.2 p.1 v c1 x hv;refine⟨u,r,.inr ⟨zfd (scope:=scope) (env:=X.env) c2 (hu p g),?_⟩⟩;obtain⟨c,F,A⟩:=J.free p.1 c2;refine⟨c,F,?_⟩
    rcases l with⟨z,_⟩|⟨_,c',n,h⟩
    ·exact absurd z G
    ·have:c'=c:=by rw[A]at n;exact(Option.some.inj n).symm
     subst this;obtain⟨o,q,d⟩:=h;exact⟨o,hk _ _ q,d⟩
 ·simp[za9,capσ]
theorem zi5{use:Option (Value->Sem Unit)}{Qf:Z5}{R:VK}{pins:Z3}{s:Shared}{σ:St}{H:Hp}(hc:X.calm=true)(S:CompScopeG X.env.scope scope X.N xs caps)(hi:PI X tg iter wi)(hg:∀cl C s H fp,PG (za9 X xs caps scope cl C s H fp) tg g)
  (ht:∀cl C s H fp,PIf (za9 X xs caps scope cl C s H fp) ifs tt) (he:∀cl C s H fp,PE (za9 X xs caps scope cl C s H fp) elt te)
  (hs:∀v,foldedSetIterable iter X.env v=pure v) (I:Inv X pins σ H s) (h:zkd wi g tt te xs.length caps σ H R)
  (fin:∀(D C:Addr) (s4:Shared) (m4:Z6) (H6:Hp) (r:Flow),s4.heap.Ns C m4->(∀{U:St}{H7:Hp}{s5:Shared}{h':Heap},Inv X pins U H7 s5->Heap.SameBut C s5.heap h'->H7 C=none->Inv X pins U H7 {s5 with heap:=h'})->H6 C=none->C≠X.env.locals->(∀y c,X.env.cells.lookup y=some c->C≠c)->Inv X pins σ H6 s4->R (.ref D) H6->compPost (model X.prog X.w) X.A X.xe use Qf (.ref D) C (.ok r) s4):
  wpAny (model X.prog X.w) X.A (comprehension (.ListComp elt [⟨tg,iter,ifs,0⟩] scope pos) scope X.env (firstIterPos [⟨tg,iter,ifs,0⟩] pos) (newList []) false (eval iter X.env) use) Qf X.xe s:=by
 obtain⟨cl,ax,aY,aK⟩:=zlW (scope:=scope) (env:=X.env) fun y hy hf=>I.ok.has y.1 (S.free y hy hf)
 refine wpAny_comprehension_free (use:=use) rfl hs ax S.kind S.names (thn (hi pins s σ H _ I h) fun v s1 h1=>thn h1 fun bb s2 h2=>?_);obtain⟨it,fp,tn,J,H2,rfl,V,T,aq,f2,W,⟨m0,w0⟩,aE⟩:=h2;refine yaX (zcF (fun G B j x=>?_));dsimp only at B j x ⊢;generalize az:s2.heap.push {cls:=.type "list",dict:=none,data:=.seq ([]:List Value).toArray}=F at B j x ⊢
 have aB:F.objs.size=s2.heap.objs.size+1:=by rw[<-az,ybc]
 have aA:s2.heap.objs.size≠F.objs.size:=by rw[aB];exact yav (ycd _)
 have hC:s2.heap.objs.size<=F.objs.size:=by rw[aB];exact yb3 _
 have old:∀b o,s2.heap.get? b=some o->G.get? b=some o:=fun b o e=>j b o (az ▸ yad _ e)
 have aM:G.get? s2.heap.objs.size=some (lob [] 0):=j _ _ (az ▸ yam _ rfl)
 have t:∀y c,X.env.cells.lookup y=some c->c<s2.heap.objs.size:=fun y c e=>by obtain⟨v,q⟩:=V.cell y c e;exact q.lt
 have oc:=znj (X:=X) (lo:=s2.heap.objs.size+1) S.nd (by rw[aB];exact yb3 _) I.ok.inj aY (fun y c e=>ybe (t y c e)) aK x;generalize ba:cellsFrom (F.objs.size+1) scope.names []++cl=E at oc ⊢;have aU:OwnC X scope s2.heap.objs.size G E:=⟨fun y c e=>(oc.sort y c e).imp id fun z=>⟨z.1,ydy z.2⟩,oc.inj,oc.has,fun y c a e=>ydy (oc.own y c a e),oc.free⟩
 have a3:∀b∈fp,b<s2.heap.objs.size:=fun b hb=>by obtain⟨o,e,_⟩:=T.obj 0 _ aq b hb;exact yao e
 generalize L:za9 X xs caps scope E F.objs.size s2 H2 fp=Y;have b6:PE Y elt te:=L ▸ he E _ s2 H2 fp;have b4:PIf Y ifs tt:=L ▸ ht E _ s2 H2 fp;have b5:PG Y tg g:=L ▸ hg E _ s2 H2 fp
 have I3:Inv Y [] (capσ σ xs.length caps) H2 {s2 with heap:=G}:=by
  rw[<-L];exact zon S S.uniq V aU f2 a3 hC rfl rfl old B
 have m:Y.env=compEnvC scope E F.objs.size X.env:=by rw[<-L];rfl
 have l:Y.env.locals=F.objs.size:=by rw[m];rfl
 have ab:Y.fs=frs X.stack:=by rw[<-L];rfl
 have f:Y.prog=X.prog:=by rw[<-L];rfl
 have Q:Y.w=X.w:=by rw[<-L];rfl
 have aQ:Y.K=X.K:=by rw[<-L];rfl
 have ae:Y.A=X.A:=by rw[<-L];rfl
 have aP:Y.calm=true:=by rw[<-L];exact hc
 have aj:Y.ex=fp:=by rw[<-L];rfl
 have aD:Y.s₀=s2:=by rw[<-L];rfl
 have b3:Y.H₀=H2:=by rw[<-L];rfl
 have ai:Y.pn=[]:=by rw[<-L];rfl
 have O:∀y c,Y.env.cells.lookup y=some c->X.env.cells.lookup y=some c\/s2.heap.objs.size+1<=c:=fun y c e=>(oc.sort y c (by rwa[m]at e)).imp id (·.2)
 have a5:∀e s',¬ Y.xe e s':=fun e s' z=>by rwa[<-L]at z
 have aF:∀b∈frs X.stack,b<s2.heap.objs.size:=fun b hb=>by
  rcases yau.mp (V.stkSub b hb)with z|z
  ·rw[z];exact V.lt
  ·refine Nat.not_le.mp fun hle=>V.nofs hle z
 have af:∀p∈X.pn++pins,p.1<s2.heap.objs.size:=fun p M=>yao (V.pin p M).1
 have aC:∀{H':Hp}{aa:List Value}{k:Nat},(∀b∈fp,H' b=none)->∀b∈fp,zoG Y [(s2.heap.objs.size,lob aa k)] H' b:=fun {H' aa k} hn b hb=>by
  refine⟨hn b hb,by rw[l];exact yav (yat (a3 b hb) hC),?_,.inl (by rw[aj];exact hb),fun y c e=>(O y c e).elim (fun z=>(f2 b hb).2.2.2.2.1 y c z) fun z=>ya6 (yat (a3 b hb) (ydy z)),fun p M=>?_⟩
  ·rw[ab];intro hm
   rcases yau.mp (V.stkSub b hm)with z|z
   ·exact(f2 b hb).2.1 z
   ·exact(f2 b hb).2.2.1 z
  ·rw[ai]at M
   have e:p=(s2.heap.objs.size,lob aa k):=by simpa using M
   rw[e];exact ya6 (a3 b hb)
 have ah:∀{H':Hp}{U:St}{s':Shared}{aa:List Value}{k:Nat},Inv Y [] U H' s'->s'.heap.get? s2.heap.objs.size=some (lob aa k)->H' s2.heap.objs.size=none->Inv Y [(s2.heap.objs.size,lob aa k)] U H' s':=fun {H' U s' aa k} I' e n=>
  I'.pins_of fun p M=>by
   have ep:p=(s2.heap.objs.size,lob aa k):=by simpa using M
   subst ep;refine⟨e,n,by rw[l];exact aA,?_,fun v z=>?_⟩
   ·rw[ab];exact fun hm=>ybi _ (aF _ hm)
   ·have z':Data.seq aa.toArray k=Data.cell v:=z;cases z'
 have loop:codeAny (model X.prog X.w) X.A (.compLoop (.ListComp elt [⟨tg,iter,ifs,0⟩] scope pos) 0 (.ref it) (.ref s2.heap.objs.size) (compEnvC scope E F.objs.size X.env))
   (compPost (model X.prog X.w) X.A X.xe use Qf (.ref s2.heap.objs.size) F.objs.size) {s2 with heap:=G}:=by
  refine zpG (fun n s'=>∃i Z H' ys aa k,Inv Y [(s2.heap.objs.size,lob aa k)] Z H' s'/\tn i s'.heap/\(∀b∈fp,H' b=none)/\Vals ys aa/\W i n ys Z H') ?_ m0
   ⟨0,capσ σ xs.length caps,H2,[],[],0,ah I3 aM (V.hok.fresh (yaj _)),T.keep _ _ _ aq fun b hb o e=>old b o e,fun b hb=>(f2 b hb).1,.nil,w0⟩
  rintro n s3 ⟨i,Z,H3,ys,aa,k,J3,aG,aO,rv,w3⟩;obtain⟨hz,ay⟩:=aE i n ys Z H3 w3
  rcases ay with⟨stop,q⟩|⟨go,step⟩
  ·have hd:=T.done Y f Q aQ aP i _ s3 _ H3 (notedBy (model X.prog X.w) X.A (compEnvC scope E F.objs.size X.env) fun e s'=>compPost (model X.prog X.w) X.A X.xe use Qf (.ref s2.heap.objs.size) F.objs.size (.error e) s') J3 (aC aO) aG stop;rw[ae]at hd;refine thn hd fun r s4 ⟨hr,J4⟩=>?_
   subst hr;obtain⟨m4,aW,_⟩:=J4.loc
   have aJ:s4.heap.Ns F.objs.size m4:=by rw[<-l];exact aW
   have aV:H3 F.objs.size=none:=by rw[<-l];exact J4.free
   have aX:HOk X.prog X.w H3 s4.heap:=by rw[<-f,<-Q];exact J4.hok
   have u5:Un (frs X.stack) fp H2 H3 s2.heap s4.heap:=by
    have ub:=J4.base;rwa[ab,aj,b3,aD]at ub
   have J5:Inv X pins σ H3 s4:=V.call' (s':=s4) (ch:=fp) (by have:=J4.os;rwa[aD]at this) u5 aX J4.bare fun b hb=>⟨(f2 b hb).2.2.2.1,(f2 b hb).2.1,(f2 b hb).2.2.2.2.1,(f2 b hb).2.2.2.2.2⟩
   have av:=J4.pin (s2.heap.objs.size,lob aa k) (yaK _ yan);have b0:s4.heap.get? s2.heap.objs.size=some (lob aa k):=av.1;have J6:Inv X pins σ (upd H3 s2.heap.objs.size (.lst ys)) s4:=J5.track av.2.1 V.sz (ya6 V.lt) (fun y c e=>yav (t y c e)) (fun p M=>yav (af p M)) (show zba X.prog X.w _ s4.heap _ (.lst ys)from⟨hz,aa,k,rv,b0⟩);have a4:F.objs.size≠X.env.locals:=ya6 (yat V.lt hC);exact fin _ F.objs.size s4 m4 _ _ aJ (fun {U}{H7}{s5}{h'} J aS hn=>J.turned (t':=s5.toks) (it:=F.objs.size) (fun b o hb e=>(aS.2 b hb).trans e) hn a4 (.inr (yas V.sz hC)) (fun y c e=>yav (yat (t y c e) hC)) (fun p M=>yav (yat (af p M) hC))) (by rw[zai (Ne.symm aA)];exact aV) a4 (fun y c e=>ya6 (yat (t y c e) hC)) J6 (q _ av.2.1)
  ·have hd:=T.item Y f Q aQ aP i _ s3 _ H3 (notedBy (model X.prog X.w) X.A (compEnvC scope E F.objs.size X.env) fun e s'=>compPost (model X.prog X.w) X.A X.xe use Qf (.ref s2.heap.objs.size) F.objs.size (.error e) s') J3 (aC aO) aG go;rw[ae]at hd;refine thn hd fun r s4 ⟨u,hr,h4⟩=>?_
   subst hr;refine thn h4 fun _ s5 ⟨v4,H4,J4,r4,y4,ao,b2⟩=>?_
   have b9:=J4.pinned (fp:=fp) (aC b2) (T.obj _ _ ao);have ha:=b5 _ s5 Z H4 v4 u _ b9 r4 (step v4 H4 y4);rw[f,Q,ae,m]at ha;refine ybr ha (fun _ aT ⟨P,H5,b8,q5⟩=>?_) fun e s' z=>(a5 _ _ z).elim
   have aI:=b4 _ aT P H5 _ b8 q5;rw[f,Q,ae,m]at aI;refine ybr aI (fun ok s6 ⟨H6,J6,q6⟩=>?_) fun e s' z=>(a5 _ _ z).elim
   have back:∀{H7:Hp}{s7:Shared},Inv Y ([(s2.heap.objs.size,lob aa k)]++ziE fp s5.heap) P H7 s7->tn (i+1) s7.heap/\∀b∈fp,H7 b=none:=fun {H7 s7} J7=>
    ⟨T.keep _ _ _ ao fun b hb o e=>(J7.pin (b,o) (yaK _ (yaK _ (zdS hb e)))).1,fun b hb=>by
     obtain⟨o,e,d⟩:=T.obj _ _ ao b hb
     exact(J7.pin (b,o) (yaK _ (yaK _ (zdS hb e)))).2.1⟩
   cases ok with
   |false=>
    rw[if_neg ybg]at q6;rw[if_neg ybg];obtain⟨m',aw,w6⟩:=q6;exact⟨m',aw,i+1,P,H6,ys,aa,k,J6.unpinned,(back J6).1,(back J6).2,rv,w6⟩
   |true=>
    rw[if_pos rfl]at q6;rw[if_pos rfl];have aL:=b6 _ s6 _ H6 _ J6 q6;rw[f,Q,ae,m]at aL;refine ybr aL (fun u7 s7 ⟨v7,H7,J7,r7,m',aw,w7⟩=>?_) fun e s' z=>(a5 _ _ z).elim
    obtain⟨aR,b1⟩:=back J7;have au:=(J7.unpinned).pin (s2.heap.objs.size,lob aa k) (yaK _ yan);have hl:=rv.length;refine append_at (hsz:=by show aa.toArray.size<=sizeLine;rw[yai];omega) au.1 fun h8 aH aZ=>?_
    have b7:Inv Y [] P H7 s7:=J7.unpinned.pins_of fun p M=>absurd M (by simp)
    have J8:Inv Y [] P H7 {s7 with heap:=h8}:=b7.turned (t':=s7.toks) (it:=s2.heap.objs.size) (fun b o hb e=>(aH.2 b hb).trans e) au.2.1 (by rw[l];exact aA) (.inr (by rw[aD];exact yaj _)) (fun y c e=>(O y c e).elim (fun z=>yav (t y c z)) fun z=>ya6 z) (fun p M=>by rw[ai]at M;simp at M)
    have aN:h8.get? s2.heap.objs.size=some (lob (aa++[u7]) (k+1)):=by rw[aZ];simp[lob]
    exact⟨m',aw,i+1,P,H7,ys++[v7],aa++[u7],k+1,ah J8 aN au.2.1,T.keep _ _ _ aR fun b hb o e=>(aH.2 b (yav (a3 b hb))).trans e,b1,rv.append (.cons r7 .nil),w7⟩
 exact codeAny_compStart_list loop (T.self X.A 0 _ _ _ (T.keep _ _ _ aq fun b hb o e=>old b o e) loop)
def zpr(J:X.calm=true)(S:CompScopeG X.env.scope scope X.N xs caps)(hi:PI X tg iter wi)(hg:∀cl C s H fp,PG (za9 X xs caps scope cl C s H fp) tg g)
  (ht:∀cl C s H fp,PIf (za9 X xs caps scope cl C s H fp) ifs tt) (he:∀cl C s H fp,PE (za9 X xs caps scope cl C s H fp) elt te)
  (hs:autoParam (∀v,foldedSetIterable iter X.env v=pure v) yAU):PE X (.ListComp elt [⟨tg,iter,ifs,0⟩] scope pos) (zkd wi g tt te xs.length caps):=by
 intro pins s σ H Q I h;rw[eval_ListComp];exact zi5 (use:=none) J S hi hg ht he hs I h fun D C j c i r d a e _ _ f q=>⟨c,d,fun k b=>⟨.ref D,i,a f b e,rfl,q⟩⟩
def zpe(hc:X.calm=true)(S:CompScopeG X.env.scope scope X.N xs caps)(ab:X.N.Nodup)(a5:X.N[k0]?=some J)(a3:Loc X.env.scope J)(hi:PI X tg iter wi)(hg:∀cl C s H fp,PG (za9 X xs caps scope cl C s H fp) tg g)
  (ht:∀cl C s H fp,PIf (za9 X xs caps scope cl C s H fp) ifs tt) (he:∀cl C s H fp,PE (za9 X xs caps scope cl C s H fp) elt te)
  (a4:swapsWith (.ListComp elt [⟨tg,iter,ifs,0⟩] scope pos) (some (.Name J py)) U.line X.env=pure true)
  (aa:X.fn J=true\/X.env.scope.names.lookup J=some .local)
  (hs:∀v,foldedSetIterable iter X.env v=pure v):PS X (.Assign [.Name J py] (.ListComp elt [⟨tg,iter,ifs,0⟩] scope pos) U) (ztn (zkd wi g tt te xs.length caps) (zn1 k0)):=by
 intro pins s σ H x I h;rw[exec_Assign_Name_used _ _ _ _ a4];refine yaa (ydD (yaa ?_));show wpAny _ X.A (do let _ ← comprehension (.ListComp elt [⟨tg,iter,ifs,0⟩] scope pos) scope X.env _ (newList []) false (eval iter X.env) (some (assign (.Name J py) X.env))) _ _ s;refine yaa (ybr (zi5 (use:=some (assign (.Name J py) X.env)) (Qf:=fun _ s'=>SP X pins x .next s') hc S hi hg ht he hs I h fun D C k l B r n f t o c w q=>?_) (fun _ s' m=>yaf (yaf m)) fun _ _ e=>e);show wpAny _ X.A (assign (.Name J py) X.env (.ref D)) _ X.xe k;refine wpAny_assign_Name (zic (i:=k0) w ab a5 a3 (v:=.ref D) rfl (fun y u ⟨a,j,p⟩=>?_) aa);have d:C≠a:=p.elim (fun z=>by rw[z];exact o) fun z=>c _ _ z
 exact⟨l,n.sameBut j d,fun h' b=>⟨_,_,f u b t,q⟩⟩
end
section
variable{κ:Type}[DecidableEq κ]
noncomputable def zfo(kvs:List (κ×V))(k:κ):Option V:=(kvs.find? fun a=>decide (a.1=k)).map (·.2)
noncomputable def zfp(kvs:List (κ×V))(k:κ)(v:V):List (κ×V):=
 if(kvs.any fun a=>decide (a.1=k))=true then kvs.map (fun a=>if a.1=k then(a.1,v)else a)else kvs++[(k,v)]
noncomputable def zgg(kvs:List (κ×V))(k:κ):List (κ×V):=kvs.filter fun a=>decide (a.1≠k)
def zcZ{p:κ×V}{r:List (κ×V)}{k:κ}(e:p.1=k):zfo (p::r) k=some p.2:=by simp[zfo,ya3,e]
def zc0{p:κ×V}{r:List (κ×V)}{k:κ}(e:¬ p.1=k):zfo (p::r) k=zfo r k:=by simp[zfo,ya3,e]
theorem zfu(k:κ):∀kvs:List (κ×V),(kvs.any fun J=>decide (J.1=k))=(zfo kvs k).isSome
 |[]=>rfl|p::r=>by
  rw[ydE]
  by_cases e:p.1=k
  ·simp only[zcZ e,yaz e,Bool.true_or,ydu]
  ·rw[zc0 e,yaB e,Bool.false_or];exact zfu k r
theorem zc8(kvs:List (κ×V))(k:κ)(v:V):(zfp kvs k v).length<=kvs.length+1:=by
 unfold zfp;split
 ·rw[yae];omega
 ·rw[yak,yap,ybP];omega
def zpb{kvs:List (κ×V)}{k:κ}(v:V)(h:zfo kvs k=none):zfp kvs k v=kvs++[(k,v)]:=by
 unfold zfp;rw[zfu,h];exact if_neg (by decide)
def zg1.isSome_eq(r:zg1 o u):o.isSome=u.isSome:=by
 cases o with
 |none=>cases u with
  |none=>rfl|some _=>exact(show False from r).elim
 |some _=>cases u with
  |none=>exact(show False from r).elim|some _=>rfl
theorem zg1.getD(r:zg1 o u)(J:zaV d d'):zaV (o.getD d) (u.getD d'):=by
 cases o with
 |none=>cases u with
  |none=>exact J|some _=>exact(show False from r).elim
 |some _=>cases u with
  |none=>exact(show False from r).elim|some _=>exact r
def KV.val(r:KV kvs vs)(k:κ):zg1 (zfo kvs k) (valueAt vs k):=by
 unfold KV at r
 induction r with
 |nil=>exact True.intro| @cons p q ps qs h t c=>
  obtain⟨h1,h2⟩:=h
  by_cases e:p.1=k
  ·have a:q.1=k:=h1.symm.trans e
   have b:valueAt (q::qs) k=some q.2:=by simp[valueAt,ya3,a]
   rw[zcZ e,b];exact h2
  ·have a:¬ q.1=k:=fun z=>e (h1.trans z)
   have b:valueAt (q::qs) k=valueAt qs k:=by simp[valueAt,ya3,a]
   rw[zc0 e,b];exact c
theorem KV.any(r:KV kvs vs)(k:κ):(kvs.any fun J=>decide (J.1=k))=vs.any fun J=>decide (J.1=k):=by
 unfold KV at r
 induction r with
 |nil=>rfl|cons h t a=>rw[ydE,ydE,a,h.1]
def KV.repl(r:KV kvs vs)(k:κ)(U:zaV y u):
  KV (kvs.map fun J=>if J.1=k then(J.1,y)else J) (vs.map fun J=>if J.1=k then(J.1,u)else J):=by
 unfold KV at r ⊢
 induction r with
 |nil=>exact .nil| @cons p q ps qs h t a=>
  rw[yaw,yaw];refine .cons ?_ a;obtain⟨h1,h2⟩:=h
  by_cases e:p.1=k
  ·rw[if_pos e,if_pos (h1.symm.trans e)];exact⟨h1,U⟩
  ·rw[if_neg e,if_neg (fun z=>e (h1.trans z))];exact⟨h1,h2⟩
def KV.put(r:KV kvs vs)(k:κ)(J:zaV y u):KV (zfp kvs k y) (stored vs k u):=by
 unfold zfp stored;rw[r.any k]
 by_cases e:(vs.any fun a=>decide (a.1=k))=true
 ·rw[if_pos e,if_pos e];exact r.repl k J
 ·rw[if_neg e,if_neg e];exact Paired.snoc r ⟨rfl,J⟩
def KV.drop(r:KV kvs vs)(k:κ):KV (zgg kvs k) (without vs k):=by
 unfold KV at r ⊢;unfold zgg without
 induction r with
 |nil=>exact .nil| @cons p q ps qs h t c=>
  obtain⟨h1,h2⟩:=h;rw[ybI,ybI]
  by_cases e:p.1=k
  ·have a:¬ decide (p.1≠k)=true:=by simp[e]
   have b:¬ decide (q.1≠k)=true:=by simp[h1.symm.trans e]
   rw[if_neg a,if_neg b];exact c
  ·have d:¬ q.1=k:=fun z=>e (h1.trans z)
   have a:decide (p.1≠k)=true:=by simp[e]
   have b:decide (q.1≠k)=true:=by simp[d]
   rw[if_pos a,if_pos b];exact .cons ⟨h1,h2⟩ c
theorem KV.length{kvs:List (κ×V)}{vs:List (κ×Value)}(r:KV kvs vs):kvs.length=vs.length:=Paired.length r
def zp7(kvs:List (κ×V))(k:κ):(zgg kvs k).length<=kvs.length:=yaW _ _
end
def zfX(r:zaV (kV k) u):(zaz P w).is k u=true:=by
 cases k with
 |inl i=>obtain⟨t,e⟩:=(show ∃t,u=Value.int i t from r);subst e;exact zjH P w i t|inr x=>obtain⟨t,e⟩:=(show ∃t,u=Value.str x t from r);subst e;exact zjG P w x t
theorem ziQ:∀{ks:List Key}{us:List Value},Vals (ks.map kV) us->ItemsAre (zaz P w) ks us
 |[],_,r=>by rw[ycE]at r;cases r;exact .nil
 |k::ks,_,r=>by
  rw[yaw]at r
  cases r with
  |cons h t=>exact .cons (zfX h) (ziQ t)
noncomputable abbrev KT(H:Hp):List (List Key×V)->List (List Key×Addr×Value)->Prop:=Paired fun p q=>p.1=q.1/\H q.2.1=some (.tup (p.1.map kV))/\zaV p.2 q.2.2
def KT.val(r:KT H kvs xs)(k:List Key):zg1 (zfo kvs k) ((atKey xs k).map (·.2)):=by
 induction r with
 |nil=>exact True.intro| @cons p q ps qs h t c=>
  obtain⟨h1,_,h2⟩:=h
  by_cases e:p.1=k
  ·have a:q.1=k:=h1.symm.trans e
   have b:atKey (q::qs) k=some q.2:=by simp[atKey,ya3,a]
   rw[zcZ e,b];exact h2
  ·have a:¬ q.1=k:=fun z=>e (h1.trans z)
   have b:atKey (q::qs) k=atKey qs k:=by simp[atKey,ya3,a]
   rw[zc0 e,b];exact c
def KT.repl(r:KT H kvs xs)(k:List Key)(U:zaV y u):
  KT H (kvs.map fun J=>if J.1=k then(J.1,y)else J) (xs.map (putAt k u)):=by
 induction r with
 |nil=>exact .nil| @cons p q ps qs h t a=>
  rw[yaw,yaw];refine .cons ?_ a;obtain⟨h1,h2,b⟩:=h;unfold putAt
  by_cases e:p.1=k
  ·rw[if_pos e,if_pos (h1.symm.trans e)];exact⟨h1,h2,U⟩
  ·rw[if_neg e,if_neg (fun z=>e (h1.trans z))];exact⟨h1,h2,b⟩
def KT.put(r:KT H kvs xs)(k:List Key)(hb:H b=some (.tup (k.map kV)))(J:zaV y u):
  KT H (zfp kvs k y) (storedH xs k b u):=by
 have e:(kvs.any fun a=>decide (a.1=k))=(atKey xs k).isSome:=by
  rw[zfu,(r.val k).isSome_eq,ydz]
 unfold zfp storedH;rw[e]
 by_cases q:(atKey xs k).isSome=true
 ·rw[if_pos q,if_pos q];exact r.repl k J
 ·rw[if_neg q,if_neg q];exact Paired.snoc r ⟨rfl,hb,J⟩
def KT.keeps(r:KT H kvs xs)(ht:∀b ys,H b=some (.tup ys)->H' b=some (.tup ys)):KT H' kvs xs:=
 Paired.mapP r fun _ _ z=>⟨z.1,ht _ _ z.2.1,z.2.2⟩
section
variable{P:Program}{w:World}{H:Hp}{h:Heap}{a:Addr}
def zuw(ok:HOk P w H h)(e:Rd H a u):zba P w H h a u:=e.ok ok
def zgh(ok:HOk P w H h)(e:Rd H a (.dK kvs)):kvs.length<=sizeLine/\(a==sysModules)=false/\∃vs,KV kvs vs/\h.DictOf (zaz P w) a vs:=
 show zba P w H h a (.dK kvs)from zuw ok e
def zp8(ok:HOk P w H h)(e:H a=some (.dK kvs)):kvs.length<=sizeLine/\(a==sysModules)=false/\∃vs,KV kvs vs/\h.DictOf (zaz P w) a vs:=zgh ok (.inl e)
def zfW(ok:HOk P w H h)(e:H a=some (.tup (ks.map kV))):(tupleKind (zaz P w)).is h ks a:=by
 obtain⟨_,aa,r,o,h1,h2,n,b,_⟩:=(show zba P w H h a (.tup (ks.map kV))from ok a _ e);exact⟨o,aa.toArray,n,h1,h2,b,by simpa using ziQ r⟩
def ziZ(ok:HOk P w H h)(e:Rd H a (.dT kvs)):kvs.length<=sizeLine/\(a==sysModules)=false ∧
  ∃xs,KT H kvs xs/\h.DictOfH (tupleKind (zaz P w)) a xs:=by
 obtain⟨z,y,xs,r,o,es,ep,h1,h2,i,g,f⟩:=(show zba P w H h a (.dT kvs)from zuw ok e);refine⟨z,y,xs,r,o,es,ep,h1,h2,i,g,fun x b=>?_,f⟩
 have all:∀{l:List (List Key×V)}{m:List (List Key×Addr×Value)},KT H l m->∀x∈m,(tupleKind (zaz P w)).is h x.1 x.2.1:=by
  intro l m q
  induction q with
  |nil=>intro x b;exact nomatch b| @cons p q ps qs c t d=>
   intro x b
   rcases yau.mp b with e|b
   ·subst e;exact zfW ok (by rw[<-c.1];exact c.2.1)
   ·exact d x b
 exact all r x b
def zyq(ok:HOk P w H h)(e:H a=some (.dT kvs)):kvs.length<=sizeLine/\(a==sysModules)=false ∧
  ∃xs,KT H kvs xs/\h.DictOfH (tupleKind (zaz P w)) a xs:=ziZ ok (.inl e)
end
noncomputable def zj2(H:Hp)(a:Addr)(y:V)(r:Option V):Prop:=
 (∃kvs k,Rd H a (.dK kvs)/\y=kV k/\r=zfo kvs k)\/∃kvs k b,Rd H a (.dT kvs)/\y=.ref b/\H b=some (.tup (k.map kV))/\r=zfo kvs k
noncomputable def zre(H:Hp)(a:Addr)(y v:V)(H':Hp):Prop:=
 (∃kvs k,H a=some (.dK kvs)/\y=kV k/\kvs.length<sizeLine/\H'=upd H a (.dK (zfp kvs k v))) ∨
 ∃kvs k b,H a=some (.dT kvs)/\y=.ref b/\H b=some (.tup (k.map kV))/\kvs.length<sizeLine/\H'=upd H a (.dT (zfp kvs k v))
theorem zj2.k{H:Hp}{a:Addr}{kvs:List (Key×V)}{k:Key}(e:H a=some (.dK kvs)):zj2 H a (kV k) (zfo kvs k):=.inl ⟨kvs,k,.inl e,rfl,rfl⟩
theorem zre.k{H:Hp}{a:Addr}{kvs:List (Key×V)}{k:Key}{v:V}(e:H a=some (.dK kvs))(J:kvs.length<sizeLine):zre H a (kV k) v (upd H a (.dK (zfp kvs k v))):=.inl ⟨kvs,k,e,rfl,J,rfl⟩
section
variable{X:Cx}{pins:Z3}{σ:St}{H:Hp}{s:Shared}{a:Addr}{y v:V}{u r:Value}{o:Option V}{A:Around}{E:Z5}
def Inv.big(I:Inv X pins σ H s):sysModules<s.heap.objs.size:=by
 have h:mainGlobals<s.heap.objs.size:=(I.mod.glob.keeps I.bk).lt;exact Nat.lt_trans (by decide) h
def zok(U:A.units+1<cLine)(I:Inv X pins σ H s)(g:zj2 H a y (some v))(J:zaV y u)(h:∀w' s',Inv X pins σ H s'->zaV v w'->Q w' s'):
  wpAny (model X.prog X.w) A (getItem (.ref a) u) Q E s:=by
 rcases g with⟨kvs,k,e,f,l⟩|⟨kvs,k,b,e,f,j,l⟩
 ·subst f;obtain⟨z,hd,vs,rel,dd⟩:=zgh I.hok e;obtain⟨w',d,c⟩:=zg1.some_of (v:=v) (o:=valueAt vs k) (by rw[l];exact rel.val k);exact wpAny_getItem_of (zfX J) dd.mapOf d (h w' _ (I.tok _) c)
 ·subst f;cases (show u=Value.ref b from J);obtain⟨z,hd,xs,rel,dd⟩:=ziZ I.hok e;obtain⟨w',d,c⟩:=zg1.some_of (v:=v) (o:=(atKey xs k).map (·.2)) (by rw[l];exact rel.val k);obtain⟨p,i,hp2⟩:=ybx.mp d;refine wpAny_getItem_heap (ybY U) (zfW I.hok j) dd i ?_;rw[hp2];exact h w' _ (I.tok _) c
def zCg(U:A.units+1<cLine)(I:Inv X pins σ H s)(g:zj2 H a y o)(J:zaV y u)(h:∀s',Inv X pins σ H s'->Q (.bool o.isSome) s'):
  wpAny (model X.prog X.w) A (compareOp .In u (.ref a)) Q E s:=by
 rcases g with⟨kvs,k,e,c,l⟩|⟨kvs,k,b,e,c,d,l⟩
 ·subst c;obtain⟨z,hd,vs,rel,dd⟩:=zgh I.hok e;refine wpAny_in_of (zfX J) hd dd.mapOf ?_;rw[<-(rel.val k).isSome_eq,<-l];exact h _ (I.tok _)
 ·subst c;cases (show u=Value.ref b from J);obtain⟨z,hd,xs,rel,dd⟩:=ziZ I.hok e;refine wpAny_in_heap (ybY U) (zfW I.hok d) hd dd ?_;have q:=(rel.val k).isSome_eq;rw[ydz]at q;rw[<-q,<-l];exact h _ (I.tok _)
def ztc(U:A.units+1<cLine)(I:Inv X pins σ H s)(g:zj2 H a y o)(J:zaV y u)(h:∀s',Inv X pins σ H s'->Q (.bool (!o.isSome)) s'):
  wpAny (model X.prog X.w) A (compareOp .NotIn u (.ref a)) Q E s:=by
 rcases g with⟨kvs,k,e,c,l⟩|⟨kvs,k,b,e,c,d,l⟩
 ·subst c;obtain⟨z,hd,vs,rel,dd⟩:=zgh I.hok e;refine wpAny_notIn_of (zfX J) hd dd.mapOf ?_;rw[<-(rel.val k).isSome_eq,<-l];exact h _ (I.tok _)
 ·subst c;cases (show u=Value.ref b from J);obtain⟨z,hd,xs,rel,dd⟩:=ziZ I.hok e;refine wpAny_notIn_heap (ybY U) (zfW I.hok d) hd dd ?_;have q:=(rel.val k).isSome_eq;rw[ydz]at q;rw[<-q,<-l];exact h _ (I.tok _)
def zhQ(I:Inv X pins σ H s)(mu:Mut (H a))(hs:Heap.SameBut a s.heap h')(he:∃q,h'.get? a=some q)(new:zba X.prog X.w (upd H a ob) h' a ob):
  Inv X pins σ (upd H a ob) {s with heap:=h',toks:=t'}:=
 I.write (x:=a) (e:=a) mu (.inl rfl) (fun b q hb z=>(hs.2 b hb).trans z) he new
def zoh(z:kvs.length<=sizeLine)(hd:(a==sysModules)=false)(rel:KV kvs vs)(dd:h'.DictOf (zaz P w) a vs):
  zba P w H' h' a (.dK kvs):=⟨z,hd,vs,rel,dd⟩
def zi3(hu:A.units+1<cLine)(I:Inv X pins σ H s)(g:zre H a y v H')(J:zaV y u)(U:zaV v r)(h:∀s',Inv X pins σ H' s'->Q () s'):
  wpAny (model X.prog X.w) A (setItem (.ref a) u r) Q E s:=by
 rcases g with⟨kvs,k,e,m,l,n⟩|⟨kvs,k,b,e,m,p,l,n⟩
 ·subst m n;obtain⟨z,hd,vs,rel,dd⟩:=zp8 I.hok e
  have i:vs.length<=sizeLine:=by rw[<-rel.length];exact z
  have j:(zfp kvs k v).length<=sizeLine:=by have:=zc8 kvs k v;omega
  refine wpAny_setItem_pairs (hsz:=i) (zfX J) dd fun h' d hs=>h _ ?_
  have he:∃q,h'.get? a=some q:=let ⟨q,_,_,f,_⟩:=d;⟨q,f⟩
  exact zhQ I (by rw[e];exact True.intro) hs he (zoh j hd (rel.put k U) d)
 ·subst m n;cases (show u=Value.ref b from J);obtain⟨z,hd,xs,rel,dd⟩:=zyq I.hok e
  have i:xs.length<=sizeLine:=by rw[<-Paired.length rel];exact z
  have j:(zfp kvs k v).length<=sizeLine:=by have:=zc8 kvs k v;omega
  refine wpAny_setItem_heap (hsz:=i) (ybY hu) (zfW I.hok p) dd fun h' d hs=>h _ ?_
  obtain⟨q,es,ep,f,h2,B,x,_,t⟩:=d;refine zhQ I (by rw[e];exact True.intro) hs ⟨q,f⟩ ⟨j,hd,_,(rel.put k p U).keeps fun c ys o=>?_,q,es,ep,f,h2,B,x,t⟩;rw[zai (zxX o e (fun z=>nomatch z))];exact o
end
section
variable{X:Cx}{pins:Z3}{σ:St}{H:Hp}{s:Shared}{a:Addr}{kvs:List (Key×V)}{k:Key}{u:Value}{A:Around}{E:Z5}
def zyu(I:Inv X pins σ H s)(e:H a=some (.dK kvs))(J:zaV (kV k) u)(l:zfo kvs k=some v)(hm:more=[]\/∃x,more=[x])
  (h:∀w' s',Inv X pins σ (upd H a (.dK (zgg kvs k))) s'->zaV v w'->Q w' s'):wpAny (model X.prog X.w) A (call (.builtin "dict.pop") (.ref a::u::more)) Q E s:=by
 obtain⟨z,hd,vs,rel,dd⟩:=zp8 I.hok e;obtain⟨w',d,c⟩:=zg1.some_of (v:=v) (o:=valueAt vs k) (by rw[<-l];exact rel.val k)
 have g:(keyPart u).isSome=true:=by
  cases k with
  |inl i=>obtain⟨t,q⟩:=(show ∃t,u=Value.int i t from J);subst q;rfl|inr x=>obtain⟨t,q⟩:=(show ∃t,u=Value.str x t from J);subst q;rfl
 have j:argsOk "dict.pop" ⟨.ref a::u::more,[]⟩:=by
  rcases hm with q|⟨x,q⟩
  ·subst q;exact PySem.F.args_dict_pop_2 _ _
  ·subst q;exact PySem.F.args_dict_pop_3 _ _ _
 refine ycF yc9 dd.typeIs PySem.F.entry_dict_pop j (meets_dict_pop_there (zaz X.prog X.w) a (zfX J) more hm g)
  ⟨vs,w',dd,by rw[<-rel.length];exact z,d,fun h' b hs=>h w' _ ?_ c⟩
 have he:∃q,h'.get? a=some q:=let ⟨q,_,_,f,_⟩:=b;⟨q,f⟩
 exact zhQ I (by rw[e];exact True.intro) hs he (zoh (yas (zp7 kvs k) z) hd (rel.drop k) b)
def zv3(I:Inv X pins σ H s)(e:H a=some (.dK kvs))(J:zaV (kV k) u)(l:zfo kvs k=none)(h:∀s',Inv X pins σ H s'->Q r s'):
  wpAny (model X.prog X.w) A (call (.builtin "dict.pop") [.ref a,u,r]) Q E s:=by
 obtain⟨z,hd,vs,rel,dd⟩:=zp8 I.hok e;have c:valueAt vs k=none:=zg1.none_of (by rw[<-l];exact rel.val k)
 have b:(keyPart u).isSome=true:=by
  cases k with
  |inl i=>obtain⟨t,q⟩:=(show ∃t,u=Value.int i t from J);subst q;rfl|inr x=>obtain⟨t,q⟩:=(show ∃t,u=Value.str x t from J);subst q;rfl
 exact ycF yc9 dd.typeIs PySem.F.entry_dict_pop (PySem.F.args_dict_pop_3 _ _ _) (meets_dict_pop_default (zaz X.prog X.w) a (zfX J) hd b r) ⟨vs,dd,c,h _ (I.tok _)⟩
end
noncomputable def zyH(i:Expr):Prop:=∀ov a,subscripted i false ov a=operate [ov,a] (getItem ov a)
def zrw{prog:Program}{w:World}{A:Around}{E:Z5}{s:Shared}{env:Env}{value slice:Expr}{pos:Pos}{T id:String}{Q:Z5}
  (hl:typeLookup (.type T) "__getitem__"=pure (some (.builtin id))) (hs:zyH slice)
  (h:wpAny (model prog w) A (eval value env) (fun o U=>wpAny (model prog w) A (eval slice env) (fun i J=>J.TypeIs o T/\wpAny (model prog w) A (getItem o i) Q E J) E U) E s):
  wpAny (model prog w) A (eval (.Subscript value slice pos) env) Q E s:=by
 refine Subscript_ (ybr h (fun o U d=>ybr d (fun i J a=>?_) fun _ _ x=>x) fun _ _ x=>x);obtain⟨e,a⟩:=a;unfold subscriptTail;refine yaa ?_;rw[getitemInPython_of_ne e.not_modules];refine yaa (ycn e hl ?_)
 have fin:wpAny (model prog w) A (subscripted slice false o i) (fun r b=>wpAny (model prog w) A (letTemporaryGo value o r >>= fun _=>pure r) Q E b) E J:=by
  rw[hs o i];exact wpAny_operating (ybr a (fun r b c=>yaa (wpAny_letTemporaryGo (yaf c))) fun _ _ x=>x)
 first
  |exact yaf (yaa fin)
  |exact yaa (yaf (yaa fin))
  |exact yaa fin
def zjS(I:Inv X pins σ H s)(g:zj2 H a y o):s.TypeIs (.ref a) "dict":=by
 rcases g with⟨kvs,k,e,_,_⟩|⟨kvs,k,b,e,_,_,_⟩
 ·obtain⟨_,_,vs,_,dd⟩:=zgh I.hok e;exact dd.typeIs
 ·obtain⟨_,_,xs,_,dd⟩:=ziZ I.hok e;exact dd.typeIs
noncomputable def zxl(td ty:TE):TE:=fun σ H Q=>td σ H fun x H1=>ty σ H1 fun y H2=>∃a v,x=.ref a/\zj2 H2 a y (some v)/\Q v H2
noncomputable def zzo(ty td:TE):TE:=fun σ H Q=>ty σ H fun y H1=>td σ H1 fun x H2=>∃a o,x=.ref a/\zj2 H2 a y o/\Q (.bl o.isSome) H2
noncomputable def zmq(ty td:TE):TE:=fun σ H Q=>ty σ H fun y H1=>td σ H1 fun x H2=>∃a o,x=.ref a/\zj2 H2 a y o/\Q (.bl (!o.isSome)) H2
noncomputable def zxB(td ty tv:TE):TS:=fun D σ H=>tv σ H fun v H1=>td σ H1 fun x H2=>ty σ H2 fun y c=>∃a b,x=.ref a/\zre c a y v b/\D.nx σ b
section
variable{X:Cx}{o i e value:Expr}{pos pos' tpos:Pos}{td ty tv:TE}
def zsp(J:X.A.units+1<cLine)(ho:PE X o td)(hi:PE X i ty)(hs:zyH i):PE X (.Subscript o i pos) (zxl td ty):=by
 intro pins s σ H Q I h;refine zrw PySem.F.slot_dict_getitem.lookup hs (thn (ho pins s σ H _ I h) fun u s1 ⟨x,H1,l,e,j⟩=>thn (hi pins s1 σ H1 _ l j) fun n s2 ⟨y,H2,c,d,a,v,ex,g,f⟩=>?_);subst ex;obtain rfl:u=Value.ref a:=e;exact⟨zjS c g,zok J c g d fun w' m k b=>⟨v,H2,k,b,f⟩⟩
def zqR(J:X.A.units+1<cLine)(hi:PE X i ty)(ho:PE X o td):PC X .In i o (zzo ty td):=by
 intro pins s σ H Q I h;refine thn (hi pins s σ H _ I h) fun m s1 ⟨y,H1,k,b,e⟩=>thn (ho pins s1 σ H1 _ k e) fun u s2 ⟨x,H2,j,c,a,ov,ex,g,d⟩=>?_
 subst ex;obtain rfl:u=Value.ref a:=c;exact zCg J j g b fun l f=>⟨.bl ov.isSome,H2,f,rfl,d⟩
def ziF(J:X.A.units+1<cLine)(hi:PE X i ty)(ho:PE X o td):PC X .NotIn i o (zmq ty td):=by
 intro pins s σ H Q I h;refine thn (hi pins s σ H _ I h) fun m s1 ⟨y,H1,k,b,e⟩=>thn (ho pins s1 σ H1 _ k e) fun u s2 ⟨x,H2,j,c,a,ov,ex,g,d⟩=>?_
 subst ex;obtain rfl:u=Value.ref a:=c;exact ztc J j g b fun l f=>⟨.bl (!ov.isSome),H2,f,rfl,d⟩
def zsf(J:X.A.units+1<cLine)(ho:PE X o td)(hi:PE X i ty)(hv:PE X value tv)(hs:swapsWith value (some (.Subscript o i pos')) pos.line X.env=pure false):
  PS X (.Assign [.Subscript o i pos'] value pos) (zxB td ty tv):=by
 intro pins s σ H D I h;refine wpAny_Assign_Subscript (thn (hv pins s σ H _ I h) fun r s1 ⟨v,H1,n,d,j⟩=>thn (ho pins s1 σ H1 _ n j) fun u s2 ⟨x,H2,m,c,f⟩=>thn (hi pins s2 σ H2 _ m f) fun w t ⟨y,z,l,b,a,p,ex,g,e⟩=>?_) hs;subst ex;obtain rfl:u=Value.ref a:=c;exact zi3 J l g b d fun q k=>⟨σ,p,k,e⟩
end
def zk3(h:Heap)(hb:sysModules<h.objs.size):zba P w H (h.push {cls:=.type "dict",data:=.dict #[]}) h.objs.size (.dK []):=
 ⟨yaR _,ybz.mpr (Ne.symm (yav hb)),[],.nil,Heap.DictOf.new h⟩
noncomputable def ztN:TE:=fun _ H Q=>∀p,H p=none->Q (.ref p) (upd H p (.dK []))
section
variable{X:Cx}{pos:Pos}
def zkA:PE X (.Dict [] [] pos) ztN:=fun pins s σ H Q I h=>
 wpAny_Dict_empty ⟨.ref s.heap.objs.size,_,I.laid (a:=s.heap.objs.size) (o:=.dK []) (t':=s.toks) (fun _ _ q=>yad _ q) (yaj _) (zk3 s.heap I.big),rfl,h _ (I.hok.fresh (yaj _))⟩
end
noncomputable def zmo:List (TE×TE)->St->Hp->(List (V×V)->Hp->Prop)->Prop
 |[],_,H,Q=>Q [] H|(tk,tv)::r,σ,H,Q=>tk σ H fun x H1=>tv σ H1 fun y H2=>zmo r σ H2 fun ps a=>Q ((x,y)::ps) a
noncomputable abbrev VV:List (V×V)->List (Value×Value)->Prop:=Paired fun p q=>zaV p.1 q.1/\zaV p.2 q.2
noncomputable def PPs(X:Cx)(pos:Pos)(keys:List (Option Expr))(values:List Expr)(J:List (TE×TE)):Prop:=
 ∀(pins:Z3) (s:Shared) (σ:St) (H:Hp) (Q:List (V×V)->Hp->Prop),Inv X pins σ H s->zmo J σ H Q →
  wpAny (model X.prog X.w) X.A (evalPairs (pairTrees keys values X.env pos)) (fun vs s'=>∃ps H',Inv X pins σ H' s'/\VV ps vs/\Q ps H') X.xe s
def zsg:PPs X pos [] [] []:=fun pins s σ H Q I h=>pairTrees_nil_walk ⟨[],H,I,.nil,h⟩
def zpf(hk:PE X k tk)(hv:PE X v tv)(U:PPs X pos ks vs J):
  PPs X pos (some k::ks) (v::vs) ((tk,tv)::J):=fun pins s σ H Q I h=>
 pairTrees_cons_walk (thn (hk pins s σ H _ I h) fun u s1 ⟨x,H1,i,b,e⟩=>thn (hv pins s1 σ H1 _ i e) fun m s2 ⟨y,H2,g,a,d⟩=>
  thn (U pins s2 σ H2 _ g d) fun l n ⟨ps,j,f,rel,c⟩=>⟨(x,y)::ps,j,f,.cons ⟨b,a⟩ rel,c⟩)
noncomputable def zgL(kvs more:List (Key×V)):List (Key×V):=more.foldl (fun acc a=>zfp acc a.1 a.2) kvs
def KV.merge:∀{more:List (Key×V)}{rs:List (Key×Value)}{kvs:List (Key×V)}{vs:List (Key×Value)},KV more rs->KV kvs vs->KV (zgL kvs more) (merged vs rs):=by
 intro more rs kvs vs r;unfold KV at r
 induction r generalizing kvs vs with
 |nil=>intro q;exact q| @cons p q ps qs h t b=>
  intro a
  have e:KV (zfp kvs p.1 p.2) (stored vs q.1 q.2):=by
   have:=a.put p.1 h.2;rw[<-h.1];exact this
  exact b e
theorem zex:∀(more kvs:List (Key×V)),(zgL kvs more).length<=kvs.length+more.length
 |[],kvs=>by show kvs.length<=kvs.length+0;omega
 |p::r,kvs=>by
  have h1:=zex r (zfp kvs p.1 p.2);have h2:=zc8 kvs p.1 p.2;show(zgL (zfp kvs p.1 p.2) r).length<=_;rw[yap];omega
theorem zgY:∀{kvs:List (Key×V)}{J:List (Value×Value)},VV (kvs.map fun U=>(kV U.1,U.2)) J->∃rs,Carries (zaz P w) J rs/\KV kvs rs
 |[],_,r=>by rw[ycE]at r;cases r;exact⟨[],True.intro,.nil⟩
 |p::kvs,_,r=>by
  rw[yaw]at r
  cases r with
  | @cons a b as bs h t=>
   obtain⟨rs,c,q⟩:=zgY (P:=P) (w:=w) t;obtain⟨e,d⟩:=b;exact⟨(p.1,d)::rs,⟨zfX h.1,rfl,c⟩,.cons ⟨rfl,h.2⟩ q⟩
noncomputable def zxk(J:List (TE×TE)):TE:=fun σ H Q=>∀p,H p=none->zmo J σ (upd H p (.dK [])) fun ps H2=>H2 p=some (.dK [])/\∃kvs:List (Key×V),ps=kvs.map (fun a=>(kV a.1,a.2))/\kvs.length<=15/\Q (.ref p) (upd H2 p (.dK (zgL [] kvs)))
def zso(h:PPs X pos keys values U)(J:keys.all (·.isSome)=true)(hl:keys.length=values.length)(h0:keys≠[])
  (a3:keys.length<=15):PE X (.Dict keys values pos) (zxk U):=by
 intro pins s σ H Q I q;have m:=I.hok.fresh (yaj s.heap.objs.size);have n:=I.laid (a:=s.heap.objs.size) (o:=.dK []) (h':=s.heap.push {cls:=.type "dict",data:=.dict #[]}) (t':=s.toks) (fun _ _ q=>yad _ q) (yaj _) (zk3 s.heap I.big);refine wpAny_Dict_walk (knd:=zaz X.prog X.w) J hl h0 a3 (thn (h pins _ σ _ _ n (q _ m)) fun p s2 ⟨ps,H2,d,rel,e,kvs,ep,r,j⟩=>?_);subst ep;obtain⟨rs,c,g⟩:=zgY (P:=X.prog) (w:=X.w) rel;obtain⟨z,hd,f,i,dd⟩:=zp8 d.hok e;cases i;refine⟨rs,c,dd,fun h' b hs=>⟨.ref s.heap.objs.size,_,?_,rfl,j⟩⟩
 have k:(zgL [] kvs).length<=sizeLine:=by
  have h1:=zex kvs [];rw[ybP]at h1;rw[ybH];omega
 have he:∃q,h'.get? s.heap.objs.size=some q:=let ⟨q,_,_,l,_⟩:=b;⟨q,l⟩
 exact zhQ d (by rw[e];exact True.intro) hs he (zoh k hd (g.merge .nil) b)
structure M1(X:Cx)(o:Expr)(m:Str)(apos:Pos)(e:Expr)(cpos:Pos):Prop where
 base:attributeBase o m X.env (eval o X.env)=eval o X.env
 few:((backTo cpos (starEach [e] X.env)).all (fun x=>!x.1)&&(backToKw cpos (keywordEach [] X.env)).all (fun x=>x.1.isSome)
  && decide (([e]:List Expr).length+([]:List Keyword).length+(if([]:List Keyword).isEmpty then 0 else 1)<30))=true
 line:(apos.endLine==cpos.line)=true
 trees:backTo cpos (starEach [e] X.env)=[(false,eval e X.env)]
structure M2(X:Cx)(o:Expr)(m:Str)(apos:Pos)(e f:Expr)(cpos:Pos):Prop where
 base:attributeBase o m X.env (eval o X.env)=eval o X.env
 few:((backTo cpos (starEach [e,f] X.env)).all (fun x=>!x.1)&&(backToKw cpos (keywordEach [] X.env)).all (fun x=>x.1.isSome)
  && decide (([e,f]:List Expr).length+([]:List Keyword).length+(if([]:List Keyword).isEmpty then 0 else 1)<30))=true
 line:(apos.endLine==cpos.line)=true
 trees:backTo cpos (starEach [e,f] X.env)=[(false,eval e X.env),(false,eval f X.env)]
noncomputable def IsD(H:Hp)(a:Addr):Prop:=(∃kvs,Rd H a (.dK kvs))\/∃kvs,Rd H a (.dT kvs)
def znR(I:Inv X pins σ H s)(d:IsD H a):
  s.TypeIs (.ref a) "dict" /\ (∀b,Value.ref a=.ref b->∃ob,s.heap.get? b=some ob/\ob.dict=none)/\(a==sysModules)=false:=by
 rcases d with⟨kvs,e⟩|⟨kvs,e⟩
 ·obtain⟨_,hd,vs,_,dd⟩:=zgh I.hok e;refine⟨dd.typeIs,fun b q=>?_,hd⟩;cases q;obtain⟨ob,_,_,h1,h2,_⟩:=dd;exact⟨ob,h1,h2.2.1⟩
 ·obtain⟨_,hd,xs,_,dd⟩:=ziZ I.hok e;refine⟨dd.typeIs,fun b q=>?_,hd⟩;cases q;obtain⟨ob,_,_,h1,h2,_⟩:=dd;exact⟨ob,h1,h2.2.1⟩
section
variable{X:Cx}{pins:Z3}{σ:St}{H:Hp}{s:Shared}{a:Addr}{y d:V}{u r:Value}{o:Option V}{A:Around}{E:Z5}
def zv5(U:A.units+1<cLine)(I:Inv X pins σ H s)(g:zj2 H a y o)(J:zaV y u)(h:∀w' s',Inv X pins σ H s'->zaV (o.getD .non) w'->Q w' s'):
  wpAny (model X.prog X.w) A (call (.builtin "dict.get") [.ref a,u]) Q E s:=by
 rcases g with⟨kvs,k,e,c,l⟩|⟨kvs,k,b,e,c,d,l⟩
 ·subst c;obtain⟨z,hd,vs,rel,dd⟩:=zgh I.hok e;refine ycF ybD dd.typeIs ycf (PySem.F.args_dict_get_2 _ _) (meets_dict_get (zaz X.prog X.w) a (zfX J) hd) ⟨_,dd.mapOf,h _ _ (I.tok _) ?_⟩;rw[l];exact(rel.val k).getD rfl
 ·subst c;cases (show u=Value.ref b from J);obtain⟨z,hd,xs,rel,dd⟩:=ziZ I.hok e;refine ycF ybD dd.typeIs ycf (PySem.F.args_dict_get_2 _ _) (meetsH_dict_get (tupleKind (zaz X.prog X.w)) a b hd) ⟨ybY U,k,xs,zfW I.hok d,dd,h _ _ (I.tok _) ?_⟩;rw[l];exact(rel.val k).getD rfl
def zv4(hu:A.units+1<cLine)(I:Inv X pins σ H s)(g:zj2 H a y o)(J:zaV y u)(U:zaV d r)(h:∀w' s',Inv X pins σ H s'->zaV (o.getD d) w'->Q w' s'):
  wpAny (model X.prog X.w) A (call (.builtin "dict.get") [.ref a,u,r]) Q E s:=by
 rcases g with⟨kvs,k,e,c,l⟩|⟨kvs,k,b,e,c,f,l⟩
 ·subst c;obtain⟨z,hd,vs,rel,dd⟩:=zgh I.hok e;refine ycF ybD dd.typeIs ycf (PySem.F.args_dict_get_3 _ _ _) (meets_dict_get_default (zaz X.prog X.w) a (zfX J) hd r) ⟨_,dd.mapOf,h _ _ (I.tok _) ?_⟩;rw[l];exact(rel.val k).getD U
 ·subst c;cases (show u=Value.ref b from J);obtain⟨z,hd,xs,rel,dd⟩:=ziZ I.hok e;refine ycF ybD dd.typeIs ycf (PySem.F.args_dict_get_3 _ _ _) (meetsH_dict_get_default (tupleKind (zaz X.prog X.w)) a b hd r) ⟨ybY hu,k,xs,zfW I.hok f,dd,h _ _ (I.tok _) ?_⟩;rw[l];exact(rel.val k).getD U
end
noncomputable def ztP(td ty:TE):TE:=fun σ H Q=>td σ H fun x H1=>∃a,x=.ref a/\IsD H1 a/\ty σ H1 fun y H2=>∃o,zj2 H2 a y o/\Q (o.getD .non) H2
noncomputable def ztO(td ty tx:TE):TE:=fun σ H Q=>td σ H fun x H1=>∃a,x=.ref a/\IsD H1 a/\ty σ H1 fun y H2=>tx σ H2 fun z b=>∃o,zj2 b a y o/\Q (o.getD z) b
noncomputable def ztM(td ty tx:TE):TE:=fun σ H Q=>td σ H fun x H1=>∃a,x=.ref a/\IsD H1 a/\ty σ H1 fun y H2=>tx σ H2 fun z b=>∃kvs k,b a=some (.dK kvs)/\y=kV k ∧
 (∀v,zfo kvs k=some v->Q v (upd b a (.dK (zgg kvs k))))/\(zfo kvs k=none->Q z b)
section
variable{X:Cx}{o e f:Expr}{apos cpos:Pos}{td ty tx:TE}
def zpq(J:X.A.units+1<cLine)(ho:PE X o td)(he:PE X e ty)(m:M1 X o "get" apos e cpos):PE X (.Call (.Attribute o "get" apos) [e] [] cpos) (ztP td ty):=by
 intro pins s σ H Q I h;refine yc1 m.base m.few m.line ycc ybD PySem.F.type_dict_get (thn (ho pins s σ H _ I h) fun u s1 ⟨x,H1,c,i,a,ex,d,k⟩=>?_);subst ex;obtain rfl:u=Value.ref a:=i;obtain⟨t1,t2,_⟩:=znR c d;refine⟨t1,t2,?_⟩;rw[m.trees];refine ybw rfl (yb6 (ybX (thn (he pins s1 σ H1 _ c k) fun q s2 ⟨y,H2,n,f,ov,g,j⟩=>yc0 ?_)));exact zv5 J n g f fun w' p l b=>⟨_,H2,l,b,j⟩
def zkB(J:X.A.units+1<cLine)(ho:PE X o td)(he:PE X e ty)(hf:PE X f tx)(m:M2 X o "get" apos e f cpos):PE X (.Call (.Attribute o "get" apos) [e,f] [] cpos) (ztO td ty tx):=by
 intro pins s σ H Q I h;refine yc1 m.base m.few m.line ycc ybD PySem.F.type_dict_get (thn (ho pins s σ H _ I h) fun u s1 ⟨x,H1,c,j,a,ex,d,n⟩=>?_);subst ex;obtain rfl:u=Value.ref a:=j;obtain⟨t1,t2,_⟩:=znR c d;refine⟨t1,t2,?_⟩;rw[m.trees]
 refine ybw rfl (yb6 (ybX (thn (he pins s1 σ H1 _ c n) fun B s2 ⟨y,H2,r,i,l⟩=>
  ybX (thn (hf pins s2 σ H2 _ r l) fun C w ⟨z,t,q,rz,ov,g,k⟩=>yc0 ?_))))
 exact zv4 J q g i rz fun w' v p b=>⟨_,t,p,b,k⟩
def zpp(ho:PE X o td)(he:PE X e ty)(hf:PE X f tx)(m:M2 X o "pop" apos e f cpos):PE X (.Call (.Attribute o "pop" apos) [e,f] [] cpos) (ztM td ty tx):=by
 intro pins s σ H Q I h;refine yc1 m.base m.few m.line ycc yc9 PySem.F.type_dict_pop (thn (ho pins s σ H _ I h) fun u s1 ⟨x,H1,n,q,a,ex,d,A⟩=>?_);subst ex;obtain rfl:u=Value.ref a:=q;obtain⟨t1,t2,_⟩:=znR n d;refine⟨t1,t2,?_⟩;rw[m.trees]
 refine ybw rfl (yb6 (ybX (thn (he pins s1 σ H1 _ n A) fun J s2 ⟨y,H2,D,g,w⟩=>
  ybX (thn (hf pins s2 σ H2 _ D w) fun B G ⟨z,E,j,rz,kvs,k,i,C,t,r⟩=>yc0 ?_))))
 subst C
 cases l:zfo kvs k with
 |some v=>exact zyu j i g l (.inr ⟨B,rfl⟩) fun w' p c b=>⟨v,_,c,b,t v l⟩|none=>exact zv3 j i g l fun p c=>⟨z,E,c,rz,r l⟩
end
noncomputable def zww(qual:Str)(oc:Obj):Prop:=∃us t,oc.data=.fields us/\us[1]?=some (.str qual t)
def zoL(h:H a=some o):upd H a o=H:=by
 funext b
 by_cases e:b=a
 ·rw[e,zat,h]
 ·rw[zai e]
def Inv.fz(I:Inv X pins σ H s)(e:H a=some (.dK kvs)):∃ob,Inv X pins σ (upd H a (.frz ob (.dK kvs))) s:=by
 have x:zba X.prog X.w H s.heap a (.dK kvs):=I.hok a _ e;obtain⟨z,y,vs,r,ob,es,ep,g,c⟩:=id x
 have ne:∀(b:Addr) (u:HO),H b=some u->u≠.dK kvs->upd H a (.frz ob (.dK kvs)) b=some u:=fun b u hb d=>by
  rw[zai (fun q=>d (by rw[q,e]at hb;cases hb;rfl))];exact hb
 refine⟨ob,I.un (t':=s.toks) ⟨fun _ _ g _ _ _=>g,fun _ o g _ _ _=>⟨o.slots,g⟩,fun b o _ n _=>?_,fun _ o g _=>⟨o,g⟩,fun b xs h=>ne b _ h (by simp),fun b o u h=>ne b _ h (by simp),fun b ps h=>⟨#[],by rw[Array.append_empty];exact ne b _ h (by simp)⟩⟩
  (HOk.write I.hok (x:=a) (by rw[e];trivial) (.inl rfl) (fun _ _ _ g=>g) ⟨ob,g⟩ ⟨g,?_⟩)⟩
 ·rw[zai (fun q=>by rw[q,e]at n;cases n)];exact n
 ·exact x.stay (fun _ _ _ g=>g) (fun b h=>ne b _ h (by simp)) fun b xs h=>ne b _ h (by simp)
end L2
namespace S2
open PySem PySem.Spec PyProof.Rows L2
noncomputable abbrev St:=L2.St
set_option genInjectivity true in
inductive D where
 |non|bl (b:Bool)|int (i:Int)|str (x:Str)|tup (l:List D)|lst (l:List D)|dic (l:List (D×D))|ref (n:Nat)|exc (c:Str)|scr (l:List Int)
set_option genInjectivity true in
inductive Root where
 |slot (i:Nat)|fld (n:Nat) (f:Str)|obj (n:Nat)|far|tab
 deriving DecidableEq
noncomputable abbrev Ow:=Addr->Option Root
structure Cf where
 ad:Str->Addr
 K:PySem.W.Frag
 P:Program
 wo:PySem.World
 tabs:Addr->Option Str:=fun _=>none
noncomputable instance:CoeFun Cf (fun _=>Str->Addr):=⟨Cf.ad⟩
structure Wd where
 H:Hp
 ow:Ow
 mu:List Addr
mutual
inductive Shd(cl:Cf)(w:Wd):V->D->Prop
 |non:Shd cl w .non .non
 |bl (b:Bool):Shd cl w (.bl b) (.bl b)
 |int (i:Int):Shd cl w (.int i) (.int i)
 |str (x:Str):Shd cl w (.str x) (.str x)
 |tup {a:Addr}{xs:List V}{ds:List D}:w.H a=some (.tup xs)->w.ow a=none->Shds cl w xs ds->Shd cl w (.ref a) (.tup ds)
 |lst {a:Addr}{xs:List V}{ds:List D}:w.H a=some (.lst xs)->w.ow a=none->Shds cl w xs ds->Shd cl w (.ref a) (.lst ds)
 |dicK {a:Addr}{ob:Obj}{kvs:List (Key×V)}{ds:List (D×D)}:w.H a=some (.frz ob (.dK kvs))->w.ow a=none->ShdK cl w kvs ds->Shd cl w (.ref a) (.dic ds)
 |ref {n:Nat}{a:Addr}:w.mu[n]?=some a->Shd cl w (.ref a) (.ref n)
 |scr {a:Addr}{o:Obj}{l:List Int}:w.H a=some (.frz o (.lst (l.map V.int)))->w.ow a=none->Shd cl w (.ref a) (.scr l)
 |scrK {a:Addr}{l:List Int}:(∀H:Hp,SqL cl.K H a (l.map V.int))->Shd cl w (.ref a) (.scr l)
 |exc {a:Addr}{c:Str}{ob:Obj}:w.H a=some (.frz ob (.own a))->w.ow a=none->ob.cls=.ref (cl c)->Shd cl w (.ref a) (.exc c)
inductive Shds(cl:Cf)(w:Wd):List V->List D->Prop
 |nil:Shds cl w [] []
 |cons {v:V}{d:D}{vs:List V}{ds:List D}:Shd cl w v d->Shds cl w vs ds->Shds cl w (v::vs) (d::ds)
inductive ShdK(cl:Cf)(w:Wd):List (Key×V)->List (D×D)->Prop
 |nil:ShdK cl w [] []
 |consI {i:Int}{v:V}{d:D}{vs:List (Key×V)}{ds:List (D×D)}:Shd cl w v d->ShdK cl w vs ds->ShdK cl w ((.inl i,v)::vs) ((.int i,d)::ds)
 |consS {x:Str}{v:V}{d:D}{vs:List (Key×V)}{ds:List (D×D)}:Shd cl w v d->ShdK cl w vs ds->ShdK cl w ((.inr x,v)::vs) ((.str x,d)::ds)
end
structure Fut(w w':Wd):Prop where
 keep:∀a o,w.H a=some o->w.ow a=none->w'.H a=some o/\w'.ow a=none
 mu:∀(n:Nat) (a:Addr),w.mu[n]?=some a->w'.mu[n]?=some a
def Fut.refl(w:Wd):Fut w w:=⟨fun _ _ h k=>⟨h,k⟩,fun _ _ h=>h⟩
def Fut.trans(a:Fut w U)(b:Fut U J):Fut w J:=⟨fun c o h k=>b.keep c o (a.keep c o h k).1 (a.keep c o h k).2,fun n c h=>b.mu n c (a.mu n c h)⟩
mutual
theorem Shd.up{cl:Cf}{w w':Wd}(f:Fut w w'):∀{v:V}{d:D},Shd cl w v d->Shd cl w' v d
 |_,_,.non=>.non|_,_,.bl b=>.bl b|_,_,.int i=>.int i|_,_,.str x=>.str x|_,_,.tup e k r=>.tup (f.keep _ _ e k).1 (f.keep _ _ e k).2 (Shds.up f r)|_,_,.lst e k r=>.lst (f.keep _ _ e k).1 (f.keep _ _ e k).2 (Shds.up f r)|_,_,.dicK e k r=>.dicK (f.keep _ _ e k).1 (f.keep _ _ e k).2 (ShdK.up f r)|_,_,.ref e=>.ref (f.mu _ _ e)|_,_,.scr e k=>.scr (f.keep _ _ e k).1 (f.keep _ _ e k).2|_,_,.scrK h=>.scrK h|_,_,.exc e k h=>.exc (f.keep _ _ e k).1 (f.keep _ _ e k).2 h
theorem Shds.up{cl:Cf}{w w':Wd}(f:Fut w w'):∀{vs:List V}{ds:List D},Shds cl w vs ds->Shds cl w' vs ds
 |_,_,.nil=>.nil|_,_,.cons r t=>.cons (Shd.up f r) (Shds.up f t)
theorem ShdK.up{cl:Cf}{w w':Wd}(f:Fut w w'):∀{vs:List (Key×V)}{ds:List (D×D)},ShdK cl w vs ds->ShdK cl w' vs ds
 |_,_,.nil=>.nil|_,_,.consI r t=>.consI (Shd.up f r) (ShdK.up f t)|_,_,.consS r t=>.consS (Shd.up f r) (ShdK.up f t)
end
section
variable{cl:Cf}{w:Wd}
theorem Shds.length:∀{vs:List V}{ds:List D},Shds cl w vs ds->vs.length=ds.length
 |_,_,.nil=>rfl|_,_,.cons _ t=>by rw[yap,yap,Shds.length t]
theorem Shds.get:∀{vs:List V}{ds:List D},Shds cl w vs ds->∀{i:Nat}{v:V},vs[i]?=some v->∃d,ds[i]?=some d/\Shd cl w v d
 |_,_,.nil,i,v,e=>by simp at e
 |_,_,.cons r _,0,v,e=>by simp at e;subst e;exact⟨_,rfl,r⟩
 |_,_,.cons _ t,i+1,v,e=>by
  obtain⟨d,h1,h2⟩:=Shds.get t (i:=i) (v:=v) (by simpa using e);exact⟨d,by simpa using h1,h2⟩
theorem Shds.at:∀{vs:List V}{ds:List D},Shds cl w vs ds->∀{i:Nat}{d:D},ds[i]?=some d->∃v,vs[i]?=some v/\Shd cl w v d
 |_,_,.nil,i,v,e=>by simp at e
 |_,_,.cons r _,0,v,e=>by simp at e;subst e;exact⟨_,rfl,r⟩
 |_,_,.cons _ t,i+1,v,e=>by
  obtain⟨d,h1,h2⟩:=Shds.at t (i:=i) (d:=v) (by simpa using e);exact⟨d,by simpa using h1,h2⟩
theorem Shds.append:∀{vs J:List V}{ds es:List D},Shds cl w vs ds->Shds cl w J es->Shds cl w (vs++J) (ds++es)
 |_,_,_,_,.nil,s=>s|_,_,_,_,.cons r t,s=>.cons r (Shds.append t s)
theorem Shds.take:∀{vs:List V}{ds:List D} (n:Nat),Shds cl w vs ds->Shds cl w (vs.take n) (ds.take n)
 |_,_,0,_=>.nil|_,_,_+1,.nil=>.nil|_,_,n+1,.cons r t=>.cons r (Shds.take n t)
theorem Shds.drop:∀{vs:List V}{ds:List D} (n:Nat),Shds cl w vs ds->Shds cl w (vs.drop n) (ds.drop n)
 |_,_,0,s=>s|_,_,_+1,.nil=>.nil|_,_,n+1,.cons _ t=>Shds.drop n t
theorem Shds.rev:∀{vs:List V}{ds:List D},Shds cl w vs ds->Shds cl w vs.reverse ds.reverse
 |_,_,.nil=>.nil|_,_,.cons r t=>by
  rw[List.reverse_cons,List.reverse_cons];exact Shds.append (Shds.rev t) (.cons r .nil)
theorem Shds.flat(h:Shds cl w vs ds):∀n:Nat,Shds cl w (List.replicate n vs).flatten (List.replicate n ds).flatten
 |0=>.nil|n+1=>by
  rw[ybA,ybA,ya9,ya9];exact Shds.append h (Shds.flat h n)
end
inductive Top(cl:Cf)(w:Wd):HO->D->Prop
 |lst {xs:List V}{ds:List D}:Shds cl w xs ds->Top cl w (.lst xs) (.lst ds)
 |dicK {kvs:List (Key×V)}{ds:List (D×D)}:ShdK cl w kvs ds->Top cl w (.dK kvs) (.dic ds)
theorem Top.up(f:Fut w w'):Top cl w o d->Top cl w' o d
 |.lst h=>.lst (h.up f)|.dicK h=>.dicK (h.up f)
noncomputable def zje(cl:Cf)(w:Wd)(r:Root):Bool->V->D->Prop
 |false,v,d=>Shd cl w v d|true,v,d=>∃a o,v=.ref a/\w.ow a=some r/\w.H a=some o/\Top cl w o d
theorem zje.keep(f:Fut w w')(k:∀a o,w.H a=some o->w.ow a=some r->w'.H a=some o/\w'.ow a=some r):∀{b:Bool}{v:V}{d:D},zje cl w r b v d->zje cl w' r b v d
 |false,_,_,h=>Shd.up f h|true,_,_,⟨a,o,e,h1,h2,t⟩=>⟨a,o,e,(k a o h2 h1).2,(k a o h2 h1).1,t.up f⟩
noncomputable def zj1(cl:Cf)(w:Wd)(r:Root)(own:Bool)(v:V)(d:D):Prop:=(own=false/\Shd cl w v d)\/(own=true/\∃d0,d=.tup [d0]/\zje cl w r true v d0)
theorem zj1.keep(f:Fut w w')(k:∀a o,w.H a=some o->w.ow a=some r->w'.H a=some o/\w'.ow a=some r)(h:zj1 cl w r b v d):zj1 cl w' r b v d:=by
 rcases h with⟨e,h⟩|⟨e,d0,c,h⟩
 ·exact .inl ⟨e,h.up f⟩
 ·exact .inr ⟨e,d0,c,h.keep f k⟩
structure Ob where
 cls:Str
 fs:List (Str×Bool×D)
noncomputable abbrev Sto:=List Ob
noncomputable def zdr(cl:Cf)(w:Wd)(n:Nat):List (Str×V)->List (Str×Bool×D)->Prop:=Paired fun p q=>p.1=q.1/\zj1 cl w (.fld n q.1) q.2.1 p.2 q.2.2
noncomputable def zwv(cl:Cf)(w:Wd)(n:Nat)(a:Addr)(ob:Ob):Prop:=w.ow a=some (.obj n)/\∃dx fs,w.H a=some (.ins (cl ob.cls) dx fs)/\zdr cl w n fs ob.fs
noncomputable def zu3(n:Nat):Option Root->Prop|some (.obj m)=>m=n|some (.fld m _)=>m=n|_=>False
theorem zdr.keep(f:Fut w w')(k:∀a o,w.H a=some o->zu3 n (w.ow a)->w'.H a=some o/\w'.ow a=w.ow a):∀{fs:List (Str×V)}{gs:List (Str×Bool×D)},zdr cl w n fs gs->zdr cl w' n fs gs
 |_,_,.nil=>.nil|_,_,.cons ⟨e,h⟩ t=>.cons ⟨e,h.keep f fun a o c b=>by
   have:=k a o c (by rw[b];rfl)
   exact⟨this.1,this.2.trans b⟩⟩ (zdr.keep f k t)
theorem zwv.keep(f:Fut w w')(k:∀a o,w.H a=some o->zu3 n (w.ow a)->w'.H a=some o/\w'.ow a=w.ow a)(h:zwv cl w n a ob):zwv cl w' n a ob:=by
 obtain⟨h1,dx,fs,h2,b⟩:=h;have:=k a _ h2 (by rw[h1];rfl);exact⟨this.2.trans h1,dx,fs,this.1,b.keep f k⟩
noncomputable def zqt(w:Wd)(qual:Str)(ps:Array Value):Prop:=TriplesOk ps.toList/\∀pos a,codeAmong pos ps.toList=some a->∃c oc,a=.ref c/\(w.H c=some (.frz oc (.own c))/\w.ow c=none)/\zww qual oc
def zqt.up(f:Fut w w')(h:zqt w q ps):zqt w' q ps:=
 ⟨h.1,fun pos b e=>let ⟨c,oc,h1,h2,a⟩:=h.2 pos b e;⟨c,oc,h1,f.keep _ _ h2.1 h2.2,a⟩⟩
noncomputable def zqu(cl:Cf)(w:Wd):Prop:=∀P q,cl.tabs P=some q->∃ps,w.H P=some (.tbl ps)/\w.ow P=some .tab/\zqt w q ps
def zqu.keep(h:zqu cl w)(f:Fut w w')(k:∀P ps,w.H P=some (.tbl ps)->w.ow P=some .tab->w'.H P=some (.tbl ps)/\w'.ow P=some .tab):zqu cl w':=fun P q e=>
 let ⟨ps,h1,h2,a⟩:=h P q e;⟨ps,(k P ps h1 h2).1,(k P ps h1 h2).2,a.up f⟩
structure Base where
 Fr:Hp
 fw:Ow
structure World'(cl:Cf)(B:Base)(w:Wd)(S:Sto):Prop where
 fr:∀a o,B.Fr a=some o->w.H a=some o/\w.ow a=B.fw a
 own:∀a r,w.ow a=some r->r=.far\/B.Fr a=none
 len:w.mu.length=S.length
 obj:∀(n:Nat) (ob:Ob),S[n]?=some ob->∃a,w.mu[n]?=some a/\zwv cl w n a ob
 tab:zqu cl w
noncomputable abbrev Env:=List (Option (Bool×D))
structure Rel(cl:Cf)(B:Base)(σ:St)(w:Wd)(ρ:Env)(S:Sto):Prop where
 wd:World' cl B w S
 len:σ.length=ρ.length
 slots:∀(i:Nat) (o:Bool) (d:D),ρ[i]?=some (some (o,d))->∃v,σ[i]?=some (some v)/\zje cl w (.slot i) o v d
structure Grow(w w':Wd):Prop where
 keep:∀a o,w.H a=some o->w'.H a=some o/\w'.ow a=w.ow a
 new:∀a r,w'.ow a=some r->w.H a=none->w.ow a=some r\/r=.far
 mu:w'.mu=w.mu
def Grow.refl(w:Wd):Grow w w:=⟨fun _ _ h=>⟨h,rfl⟩,fun _ _ h _=>.inl h,rfl⟩
def Grow.fut(g:Grow w w'):Fut w w':=⟨fun a o h k=>⟨(g.keep a o h).1,(g.keep a o h).2.trans k⟩,fun n a h=>by rw[g.mu];exact h⟩
def World'.grow(W:World' cl B w S)(g:Grow w w'):World' cl B w' S where
 fr:=fun a o h=>by
  obtain⟨h1,h2⟩:=W.fr a o h;exact⟨(g.keep a o h1).1,(g.keep a o h1).2.trans h2⟩
 own:=fun a r h=>by
  cases e:w.H a with
  |none=>exact(g.new a r h e).elim (W.own a r) .inl|some o=>exact W.own a r (by rw[<-(g.keep a o e).2];exact h)
 len:=by rw[g.mu];exact W.len
 obj:=fun n ob h=>by
  obtain⟨a,e,x⟩:=W.obj n ob h;exact⟨a,by rw[g.mu];exact e,x.keep g.fut fun a o b _=>g.keep a o b⟩
 tab:=W.tab.keep g.fut fun P ps h1 h2=>⟨(g.keep P _ h1).1,(g.keep P _ h1).2.trans h2⟩
theorem Rel.grow(R:Rel cl B σ w ρ S)(g:Grow w w'):Rel cl B σ w' ρ S where
 wd:=R.wd.grow g
 len:=R.len
 slots:=fun i o d h=>by
  obtain⟨v,e,x⟩:=R.slots i o d h;exact⟨v,e,x.keep g.fut fun a o b c=>⟨(g.keep a o b).1,(g.keep a o b).2.trans c⟩⟩
def Wd.add(w:Wd)(p:Addr)(o:HO):Wd:=⟨upd w.H p o,fun a=>if a=p then none else w.ow a,w.mu⟩
def zaq(h:w.H p=none)(o:HO):Grow w (w.add p o)where
 keep:=fun a u c=>by
  have n:a≠p:=zam c h;refine⟨?_,?_⟩
  ·show upd w.H p o a=_;rw[zai n];exact c
  ·show(if a=p then none else w.ow a)=_;rw[if_neg n]
 new:=fun a r h1 h2=>by
  have b:(if a=p then none else w.ow a)=some r:=h1;split at b
  ·cases b
  ·exact .inl b
 mu:=rfl
def zoD{w:Wd}:(w.add p o).ow p=none:=if_pos rfl
def ztk{w:Wd}:(w.add p o).H p=some o:=zat
def Shd.newT(h:w.H p=none)(r:Shds cl w xs ds):Shd cl (w.add p (.tup xs)) (.ref p) (.tup ds):=.tup ztk zoD (r.up (zaq h _).fut)
def Shd.newL(h:w.H p=none)(r:Shds cl w xs ds):Shd cl (w.add p (.lst xs)) (.ref p) (.lst ds):=.lst ztk zoD (r.up (zaq h _).fut)
theorem Top.fz(t:Top cl w o d)(I:Inv X pins σ H s)(h:H a=some o):∃o',Inv X pins σ (upd H a o') s/\∀w',Fut w w'->w'.H a=some o'->w'.ow a=none->Shd cl w' (.ref a) d:=by
 cases t with
 |lst t=>exact⟨_,by rw[zoL h];exact I,fun w' f e k=>.lst e k (t.up f)⟩
 |dicK t=>
  obtain⟨ob,b⟩:=I.fz h;exact⟨_,b,fun w' f e k=>.dicK e k (t.up f)⟩
set_option genInjectivity true in
inductive Out(α:Type)where
 |ok (a:α) (S:Sto)|exc (c:Str) (S:Sto)|bad
noncomputable abbrev Fe:=Env->Sto->Out D
set_option genInjectivity true in
inductive Fo where
 |nx (ρ:Env) (S:Sto)|rt (d:D) (S:Sto)|bk (ρ:Env) (S:Sto)|ct (ρ:Env) (S:Sto)|ex (c:Str) (ρ:Env) (S:Sto)|bad
noncomputable abbrev Fs:=Env->Sto->Fo
noncomputable def tE(cl:Cf)(E:St->XK)(f:Fe):TE:=fun σ H Q=>∃B w ρ S,w.H=H/\Rel cl B σ w ρ S/\match f ρ S with
 |.ok d S'=>∀v w',Rel cl B σ w' ρ S'->Fut w w'->Shd cl w' v d->Q v w'.H|.exc c S'=>∀w',Rel cl B σ w' ρ S'->Fut w w'->E σ (.ref (cl c)) none w'.H|.bad=>False
noncomputable def tN(cl:Cf)(E:St->XK)(f:Fe):TE:=fun σ H Q=>∃B w ρ S,w.H=H/\Rel cl B σ w ρ S/\match f ρ S with
 |.ok d S'=>∀p o w',Rel cl B σ w' ρ S'->Fut w w'->w'.H p=none->Top cl w' o d->Q (.ref p) (upd w'.H p o)|.exc c S'=>∀w',Rel cl B σ w' ρ S'->Fut w w'->E σ (.ref (cl c)) none w'.H|.bad=>False
noncomputable def Hd(cl:Cf)(σ:St)(ρ:Env)(w:Wd)(v:V)(d:D):Prop:=Shd cl w v d\/∃i:Nat,ρ[i]?=some (some (true,d))/\σ[i]?=some (some v)
noncomputable def tH(cl:Cf)(E:St->XK)(f:Fe):TE:=fun σ H Q=>∃B w ρ S,w.H=H/\Rel cl B σ w ρ S/\match f ρ S with
 |.ok d S'=>∀v w',Rel cl B σ w' ρ S'->Fut w w'->Hd cl σ ρ w' v d->Q v w'.H|.exc c S'=>∀w',Rel cl B σ w' ρ S'->Fut w w'->E σ (.ref (cl c)) none w'.H|.bad=>False
inductive TopV(cl:Cf)(w:Wd):V->D->Prop
 |sh {v:V}{d:D}:Shd cl w v d->TopV cl w v d
 |ow {a:Addr}{o:HO}{d:D}:w.H a=some o->Top cl w o d->TopV cl w (.ref a) d
def Hd.top(h:Hd cl σ ρ w v d)(R:Rel cl B σ w ρ S):TopV cl w v d:=by
 rcases h with h|⟨i,h1,h2⟩
 ·exact .sh h
 ·obtain⟨c,e,a,o,rfl,_,b,t⟩:=R.slots i true d h1;rw[h2]at e;cases e;exact .ow b t
theorem Hd.up(f:Fut w w')(h:Hd cl σ ρ w v d):Hd cl σ ρ w' v d:=by
 rcases h with h|h
 ·exact .inl (h.up f)
 ·exact .inr h
def PE.imp(h:PE X e t)(i:∀σ H Q,t' σ H Q->t σ H Q):PE X e t':=fun pins s σ H Q I q=>h pins s σ H Q I (i _ _ _ q)
def zxg(h:tH cl E f σ H Q):tE cl E f σ H Q:=by
 obtain⟨B,w,ρ,S,e,R,h⟩:=h;refine⟨B,w,ρ,S,e,R,?_⟩
 cases hf:f ρ S with
 |ok d S'=>
  rw[hf]at h;intro v w' a b t;exact h v w' a b (.inl t)
 |exc c S'=>rwa[hf]at h|bad=>rwa[hf]at h
noncomputable def Out.bind{α β:Type}(o:Out α)(k:α->Sto->Out β):Out β:=match o with|.ok a S=>k a S|.exc c S=>.exc c S|.bad=>.bad
noncomputable def Out.of{α:Type}(o:Option α)(S:Sto):Out α:=match o with|some a=>.ok a S|none=>.bad
@[simp] def Out.bind_ok{α β:Type}(a:α)(S:Sto)(k:α->Sto->Out β):(Out.ok a S).bind k=k a S:=rfl
@[simp] def Out.bind_exc{α β:Type}(c:Str)(S:Sto)(k:α->Sto->Out β):(Out.exc c S:Out α).bind k=.exc c S:=rfl
@[simp] def Out.bind_bad{α β:Type}(k:α->Sto->Out β):(Out.bad:Out α).bind k=.bad:=rfl
@[simp] def Out.of_some{α:Type}(a:α)(S:Sto):Out.of (some a) S=.ok a S:=rfl
noncomputable def zaa(i:Nat):Fe:=fun ρ S=>match ρ[i]? with|some (some (false,d))=>.ok d S|_=>.bad
noncomputable def zaf(i:Nat):Fe:=fun ρ S=>match ρ[i]? with|some (some (_,d))=>.ok d S|_=>.bad
noncomputable def zab(d:D):Fe:=fun _ S=>.ok d S
def eUn(g:D->Option D)(f:Fe):Fe:=fun ρ S=>(f ρ S).bind fun a S1=>Out.of (g a) S1
def zae(g:D->D->Option D)(f h:Fe):Fe:=fun ρ S=>(f ρ S).bind fun a S1=>(h ρ S1).bind fun b S2=>Out.of (g a b) S2
noncomputable def isB:D->Option Bool|.bl b=>some b|_=>none
def eIf(c f h:Fe):Fe:=fun ρ S=>(c ρ S).bind fun d S1=>match isB d with|some true=>f ρ S1|some false=>h ρ S1|none=>.bad
def zgV(f h:Fe):Fe:=fun ρ S=>(f ρ S).bind fun d S1=>match isB d with|some true=>h ρ S1|some false=>.ok (.bl false) S1|none=>.bad
def eOr(f h:Fe):Fe:=fun ρ S=>(f ρ S).bind fun d S1=>match isB d with|some true=>.ok (.bl true) S1|some false=>h ρ S1|none=>.bad
noncomputable def zcn:D->Option D|.bl b=>some (.bl (!b))|_=>none
def zah:List Fe->Env->Sto->Out (List D)
 |[],_,S=>.ok [] S|f::fs,ρ,S=>(f ρ S).bind fun d S1=>(zah fs ρ S1).bind fun ds S2=>.ok (d::ds) S2
noncomputable def zax(n:Nat):Bool:=decide (n<=100000)
def zgw(fs:List Fe):Fe:=fun ρ S=>(zah fs ρ S).bind fun ds S1=>if zax ds.length then .ok (.tup ds) S1 else .bad
def zk0(fs:List Fe):Fe:=fun ρ S=>(zah fs ρ S).bind fun ds S1=>if zax ds.length then .ok (.lst ds) S1 else .bad
def zal(g:List D->Option D)(fs:List Fe):Fe:=fun ρ S=>(zah fs ρ S).bind fun ds S1=>Out.of (g ds) S1
def zaM(h:zax n=true):n<=sizeLine:=yas (yag h) (by decide)
noncomputable def zbb:Expr->Bool|.Starred _ _=>false|_=>true
def zaG(h:zbb e=true):starEach (e::es) env=(false,eval e env)::starEach es env:=by
 cases e<;>first|rfl|cases h
theorem zbQ:∀{es:List Expr},es.all zbb=true->(backTo pos (starEach es env)).any (·.1)=false
 |[],_=>rfl|e::es,h=>by
  rw[ybZ,yab]at h;rw[zaG h.1];show(false||(backTo pos (starEach es env)).any (·.1))=false;rw[zbQ h.2];rfl
theorem ziD:∀{es:List Expr},es.all zbb=true->(backTo pos (starEach es env)).all (fun x=>!x.1)=true
 |[],_=>rfl|e::es,h=>by
  rw[ybZ,yab]at h;rw[zaG h.1];show(true&&(backTo pos (starEach es env)).all (fun x=>!x.1))=true;rw[ziD h.2];rfl
def zga(h:es.all zbb=true)(J:es.length<30):((backTo pos (starEach es env)).all (fun x=>!x.1)&&(backToKw pos (keywordEach [] env)).all (fun x=>x.1.isSome)
   && decide (es.length+([]:List Keyword).length+(if([]:List Keyword).isEmpty then 0 else 1)<30))=true:=by
 rw[ziD h];show(true&&true&&decide (es.length+0+0<30))=true;simpa using J
noncomputable def Hds(cl:Cf)(σ:St)(ρ:Env)(w:Wd):List V->List D->Prop:=Paired (Hd cl σ ρ w)
noncomputable def zoE(cl:Cf)(w:Wd):List V->List D->Prop:=Paired (TopV cl w)
theorem Hds.top(R:Rel cl B σ w ρ S):∀{vs:List V}{ds:List D},Hds cl σ ρ w vs ds->zoE cl w vs ds
 |_,_,.nil=>.nil|_,_,.cons h t=>.cons (h.top R) (Hds.top R t)
noncomputable def tAs(cl:Cf)(E:St->XK)(fs:List Fe):TA:=fun σ H Q=>∃B w ρ S,w.H=H/\Rel cl B σ w ρ S/\match zah fs ρ S with
 |.ok ds S'=>∀vs w',Rel cl B σ w' ρ S'->Fut w w'->Shds cl w' vs ds->Q vs w'.H|.exc c S'=>∀w',Rel cl B σ w' ρ S'->Fut w w'->E σ (.ref (cl c)) none w'.H|.bad=>False
noncomputable def tHs(cl:Cf)(E:St->XK)(fs:List Fe):TA:=fun σ H Q=>∃B w ρ S,w.H=H/\Rel cl B σ w ρ S/\match zah fs ρ S with
 |.ok ds S'=>∀vs w',Rel cl B σ w' ρ S'->Fut w w'->Hds cl σ ρ w' vs ds->Q vs w'.H|.exc c S'=>∀w',Rel cl B σ w' ρ S'->Fut w w'->E σ (.ref (cl c)) none w'.H|.bad=>False
def PA.imp(h:PA X es t)(i:∀σ H Q,t' σ H Q->t σ H Q):PA X es t':=fun pos pins s σ H Q I q=>h pos pins s σ H Q I (i _ _ _ q)
def PT.imp(h:PT X e t)(i:∀σ H Q,t' σ H Q->t σ H Q):PT X e t':=fun pins s σ H Q I q=>h pins s σ H Q I (i _ _ _ q)
section
variable{X:Cx}{cl:Cf}{E:St->XK}{a b c e:Expr}{f h g:Fe}{pos:Pos}
def zug(hN:X.N[i]?=some x)(hv:Vis X.env.scope x)(hd:(x==("__debug__":Str))=false)(hcd:(x==("__classdict__":Str))=false):PE X (.Name x pos) (tE cl E (zaa i)):=by
 refine PE.imp (zaQ hN hv hd hcd) ?_;rintro σ H Q ⟨B,w,ρ,S,rfl,R,q⟩;unfold zaa at q;split at q
 ·rename_i o d S' hm;split at hm
  ·rename_i d' he;cases hm;obtain⟨v,e,r⟩:=R.slots i false d he;exact⟨v,e,q v w R (Fut.refl _) r⟩
  ·cases hm
 ·rename_i hm;split at hm<;>cases hm
 ·exact q.elim
def zun(hN:X.N[i]?=some x)(hv:Vis X.env.scope x)(hd:(x==("__debug__":Str))=false)(hcd:(x==("__classdict__":Str))=false):PE X (.Name x pos) (tH cl E (zaf i)):=by
 refine PE.imp (zaQ hN hv hd hcd) ?_;rintro σ H Q ⟨B,w,ρ,S,rfl,R,q⟩;unfold zaf at q;split at q
 ·rename_i o d S' hm;split at hm
  ·rename_i b d' he;cases hm;obtain⟨v,e,r⟩:=R.slots i b d he;refine⟨v,e,q v w R (Fut.refl _) ?_⟩
   cases b with
   |false=>exact .inl r|true=>exact .inr ⟨i,he,e⟩
  ·cases hm
 ·rename_i hm;split at hm<;>cases hm
 ·exact q.elim
def zmE(h:PE X e (tC v))(hd:∀w,Shd cl w v d):PE X e (tE cl E (zab d)):=by
 refine PE.imp h ?_;rintro σ H Q ⟨B,w,ρ,S,rfl,R,q⟩;exact q v w R (Fut.refl _) (hd w)
def zrZ(h:PE X e (tE cl E f)):PE X e (tH cl E f):=PE.imp h fun _ _ _=>zxg
def zen(h:PE X e (tN cl E f)):PE X e (tE cl E f):=by
 intro pins s σ H Q I q;obtain⟨B,w,ρ,S,rfl,R,q⟩:=q;refine ybr (h pins s σ w.H (fun v H'=>∀s',Inv X pins σ H' s'->∃a,Inv X pins σ a s'/\Q v a) I ⟨B,w,ρ,S,rfl,R,?_⟩) (fun v s' hv=>?_) (fun _ _ x=>x)
 ·cases hf:f ρ S with
  |ok d S'=>
   rw[hf]at q;intro p o w' l m g t s' i;obtain⟨o',b,hs⟩:=t.fz i zat;rw[zrk]at b;exact⟨_,b,q (.ref p) (w'.add p o') (l.grow (zaq g o')) (m.trans (zaq g o').fut) (hs _ (zaq g o').fut ztk zoD)⟩
  |exc c S'=>rwa[hf]at q|bad=>rwa[hf]at q
 ·obtain⟨x,H',i,r,k⟩:=hv;obtain⟨H2,b,j⟩:=k _ i;exact⟨x,H2,b,r,j⟩
noncomputable def OpD(X:Cx)(cl:Cf)(op:Value->Value->Sem Value)(g:D->D->Option D):Prop:=OpR X op fun x y H Q=>∃w d e r,w.H=H/\TopV cl w x d/\TopV cl w y e/\g d e=some r/\∀v w',Grow w w'->Shd cl w' v r->Q v w'.H
noncomputable def UnD(X:Cx)(cl:Cf)(op:Value->Sem Value)(g:D->Option D):Prop:=UnR X op fun x H Q=>∃w d r,w.H=H/\TopV cl w x d/\g d=some r/\∀v w',Grow w w'->Shd cl w' v r->Q v w'.H
noncomputable def zjg(X:Cx)(cl:Cf)(J:Value)(g:List D->Option D):Prop:=zdl X J fun xs H Q=>∃w ds r,w.H=H/\zoE cl w xs ds/\g ds=some r/\∀v w',Grow w w'->Shd cl w' v r->Q v w'.H
noncomputable def zwx(X:Cx)(cl:Cf)(J:Value)(g:List D->Option D):Prop:=zdl X J fun xs H Q=>∃w ds r,w.H=H/\zoE cl w xs ds/\g ds=some r/\∀p o w',Grow w w'->w'.H p=none->Top cl w' o r->Q (.ref p) (upd w'.H p o)
noncomputable def IxD(X:Cx)(cl:Cf)(g:D->D->Option D):Prop:=IxR X fun x y H Q=>∃w d e r,w.H=H/\TopV cl w x d/\TopV cl w y e/\g d e=some r/\∀v w',Grow w w'->Shd cl w' v r->Q v w'.H
def two(hr:∀x y H Q,(∃w d e r,w.H=H/\TopV cl w x d/\TopV cl w y e/\J d e=some r/\∀v w',Grow w w'->Shd cl w' v r->Q v w'.H)->U x y H Q)(σ:St)(H:Hp)(Q:VK)(q:tE cl E (zae J f h) σ H Q):tOp U (tH cl E f) (tH cl E h) σ H Q:=by
 obtain⟨B,w,ρ,S,rfl,R,q⟩:=q;refine⟨B,w,ρ,S,rfl,R,?_⟩;unfold zae at q
 cases hf:f ρ S with
 |bad=>rwa[hf]at q|exc c S1=>rwa[hf]at q|ok d S1=>
  rw[hf]at q;intro v j l i h1;refine⟨B,j,ρ,S1,rfl,l,?_⟩;dsimp only[Out.bind]at q
  cases hh:h ρ S1 with
  |bad=>rwa[hh]at q|exc c S2=>rw[hh]at q;exact fun b R2 a=>q b R2 (i.trans a)|ok e S2=>
   rw[hh]at q;intro y b R2 a h2;dsimp only at q
   cases hg:J d e with
   |none=>rw[hg]at q;exact q.elim|some r=>
    rw[hg]at q;exact hr _ _ _ _ ⟨b,d,e,r,rfl,(h1.up a).top R2,h2.top R2,hg,fun k w' g sh=>q k w' (R2.grow g) (i.trans (a.trans g.fut)) sh⟩
def zuo(ho:OpD X cl (binaryOp op) U)(J:PE X a (tH cl E f))(hb:PE X b (tH cl E h)):PE X (.BinOp a op b pos) (tE cl E (zae U f h)):=
 PE.imp (zxJ ho J hb) (two fun _ _ _ _ z=>z)
def zxx(ho:IxD X cl U)(J:PE X a (tH cl E f))(hb:PE X b (tH cl E h))(hs:zj0 b):PE X (.Subscript a b pos) (tE cl E (zae U f h)):=
 PE.imp (zxK ho J hb hs) (two fun _ _ _ _ z=>z)
def zum(ho:OpD X cl (compareOp op) U)(J:PE X a (tH cl E f))(hb:PE X b (tH cl E h))(hm:behindInMarks op b=false):PE X (.Compare a [op] [b] pos) (tE cl E (zae U f h)):=
 PE.imp (zsq ho J hb hm) (two fun _ _ _ _ z=>z)
def zxs(ho:UnD X cl (unaryOp op) J)(U:PE X a (tH cl E f)):PE X (.UnaryOp op a pos) (tE cl E (eUn J f)):=by
 refine PE.imp (zxH ho U) ?_;rintro σ H Q ⟨B,w,ρ,S,rfl,R,q⟩;refine⟨B,w,ρ,S,rfl,R,?_⟩;unfold eUn at q
 cases hf:f ρ S with
 |bad=>rwa[hf]at q|exc c S1=>rwa[hf]at q|ok d S1=>
  rw[hf]at q;intro v g e i h1;dsimp only[Out.bind]at q
  cases hg:J d with
  |none=>rw[hg]at q;exact q.elim|some r=>
   rw[hg]at q;exact⟨g,d,r,rfl,h1.top e,hg,fun h w' b sh=>q h w' (e.grow b) (i.trans b.fut) sh⟩
noncomputable def tTr(cl:Cf)(E:St->XK)(f:Fe):TT:=fun σ H Q=>∃B w ρ S,w.H=H/\Rel cl B σ w ρ S/\match f ρ S with
 |.ok d S'=>match isB d with
  |some b=>∀w',Rel cl B σ w' ρ S'->Fut w w'->Q b w'.H|none=>False
 |.exc c S'=>∀w',Rel cl B σ w' ρ S'->Fut w w'->E σ (.ref (cl c)) none w'.H|.bad=>False
def zdT{d:D}{b:Bool}(h:isB d=some b):d=.bl b:=by
 cases d<;>simp[isB]at h
 subst h;rfl
def zii{w:Wd}{v:V}{b:Bool}(h:Shd cl w v (.bl b)):v=.bl b:=by cases h;rfl
def zh8(q:tTr cl E f σ H Q):tB (tE cl E f) σ H Q:=by
 obtain⟨B,w,ρ,S,rfl,R,q⟩:=q;refine⟨B,w,ρ,S,rfl,R,?_⟩
 cases hf:f ρ S with
 |bad=>rwa[hf]at q|exc c S1=>rwa[hf]at q|ok d S1=>
  rw[hf]at q;intro v a e g h1;dsimp only at q
  cases hb:isB d with
  |none=>rw[hb]at q;exact q.elim|some b=>
   rw[hb]at q;rw[zdT hb]at h1;exact⟨b,zii h1,q a e g⟩
def zke(h:PE X e (tE cl E f))(he:∀whole,isTrue e X.env whole=(do let v ← whole;standAt e.pos;holding [v] (truthy v))):PT X e (tTr cl E f):=
 PT.imp (zuH h he) fun _ _ _ q=>zh8 q
def zmn(U:∀x y H Q,(∃w d e r,w.H=H/\TopV cl w x d/\TopV cl w y e/\gg d e=some r/\∀v w',Grow w w'->Shd cl w' v r->Q v w'.H)->J x y H Q)(q:tTr cl E (zae gg f h) σ H Q):zrs (tOp J (tH cl E f) (tH cl E h)) σ H Q:=
 two U σ H _ (zh8 q)
def ztX(ho:OpD X cl (compareOp op) U)(J:PE X a (tH cl E f))(hb:PE X b (tH cl E h))(hm:behindInMarks op b=false):PT X (.Compare a [op] [b] pos) (tTr cl E (zae U f h)):=
 PT.imp (zsd ho J hb hm) fun _ _ _ q=>zmn (fun _ _ _ _ z=>z) q
def PW.imp(h:PW X e t)(i:∀σ H Q,t' σ H Q->t σ H Q):PW X e t':=fun whole pins s σ H Q I q=>h whole pins s σ H Q I (i _ _ _ q)
def zrr(q:tTr cl E (zgV f h) σ H Q):zzp (tTr cl E f) (tTr cl E h) σ H Q:=by
 obtain⟨B,w,ρ,S,rfl,R,q⟩:=q;refine⟨B,w,ρ,S,rfl,R,?_⟩;unfold zgV at q
 cases hf:f ρ S with
 |bad=>rwa[hf]at q|exc c S1=>rwa[hf]at q|ok d S1=>
  rw[hf]at q;dsimp only[Out.bind]at q ⊢
  cases hb:isB d with
  |none=>rw[hb]at q;exact q.elim|some b=>
   rw[hb]at q;intro k l j
   cases b with
   |false=>exact zq3 (q k l j)|true=>
    refine zq2 ⟨B,k,ρ,S1,rfl,l,?_⟩;dsimp only at q
    cases hh:h ρ S1 with
    |bad=>rwa[hh]at q|exc c S2=>rw[hh]at q;exact fun g R2 i=>q g R2 (j.trans i)|ok e S2=>
     rw[hh]at q;dsimp only at q ⊢
     cases a:isB e with
     |none=>rw[a]at q;exact q.elim|some m=>rw[a]at q;exact fun g R2 i=>q g R2 (j.trans i)
def ztI(q:tTr cl E (eOr f h) σ H Q):tOr (tTr cl E f) (tTr cl E h) σ H Q:=by
 obtain⟨B,w,ρ,S,rfl,R,q⟩:=q;refine⟨B,w,ρ,S,rfl,R,?_⟩;unfold eOr at q
 cases hf:f ρ S with
 |bad=>rwa[hf]at q|exc c S1=>rwa[hf]at q|ok d S1=>
  rw[hf]at q;dsimp only[Out.bind]at q ⊢
  cases hb:isB d with
  |none=>rw[hb]at q;exact q.elim|some b=>
   rw[hb]at q;intro k l j
   cases b with
   |true=>exact zq2 (q k l j)|false=>
    refine zq3 ⟨B,k,ρ,S1,rfl,l,?_⟩;dsimp only at q
    cases hh:h ρ S1 with
    |bad=>rwa[hh]at q|exc c S2=>rw[hh]at q;exact fun g R2 i=>q g R2 (j.trans i)|ok e S2=>
     rw[hh]at q;dsimp only at q ⊢
     cases a:isB e with
     |none=>rw[a]at q;exact q.elim|some m=>rw[a]at q;exact fun g R2 i=>q g R2 (j.trans i)
def zrq(q:tTr cl E (eUn zcn f) σ H Q):zzn (tTr cl E f) σ H Q:=by
 obtain⟨B,w,ρ,S,rfl,R,q⟩:=q;refine⟨B,w,ρ,S,rfl,R,?_⟩;unfold eUn at q
 cases hf:f ρ S with
 |bad=>rwa[hf]at q|exc c S1=>rwa[hf]at q|ok d S1=>
  rw[hf]at q;dsimp only[Out.bind]at q ⊢
  cases hb:isB d with
  |none=>
   have:zcn d=none:=by cases d<;>simp[isB]at hb<;>rfl
   rw[this]at q;exact q.elim
  |some b=>
   rwa[zdT hb]at q
def ztW(J:PT X a (tTr cl E f)):PT X (.UnaryOp .Not a pos) (tTr cl E (eUn zcn f)):=PT.imp (zuI J) fun _ _ _ q=>zrq q
def ztT{zcY:List Expr}(J:PT X a (tTr cl E f))(hb:PW X (.BoolOp .And (b::zcY) pos) (tTr cl E h)):PW X (.BoolOp .And (a::b::zcY) pos) (tTr cl E (zgV f h)):=PW.imp (zuF J hb) fun _ _ _ q=>zrr q
def zxn{zcY:List Expr}(J:PT X a (tTr cl E f))(hb:PW X (.BoolOp .Or (b::zcY) pos) (tTr cl E h)):PW X (.BoolOp .Or (a::b::zcY) pos) (tTr cl E (eOr f h)):=PW.imp (zxE J hb) fun _ _ _ q=>ztI q
def zup{zcY:List Expr}(J:PE X a (tE cl E f))(hb:PE X (.BoolOp .And (b::zcY) pos) (tE cl E h)):PE X (.BoolOp .And (a::b::zcY) pos) (tE cl E (zgV f h)):=by
 refine PE.imp (zuU J hb) ?_;rintro σ H Q ⟨B,w,ρ,S,rfl,R,q⟩;refine⟨B,w,ρ,S,rfl,R,?_⟩;unfold zgV at q
 cases hf:f ρ S with
 |bad=>rwa[hf]at q|exc c S1=>rwa[hf]at q|ok d S1=>
  rw[hf]at q;intro v k l j h1;dsimp only[Out.bind]at q
  cases hb:isB d with
  |none=>rw[hb]at q;exact q.elim|some b=>
   rw[hb]at q;rw[zdT hb]at h1;refine⟨b,zii h1,?_⟩
   cases b with
   |false=>exact zq3 (q _ k l j (.bl false))|true=>
    refine zq2 ⟨B,k,ρ,S1,rfl,l,?_⟩;dsimp only at q
    cases hh:h ρ S1 with
    |bad=>rwa[hh]at q|exc c S2=>rw[hh]at q;exact fun g R2 i=>q g R2 (j.trans i)|ok e S2=>rw[hh]at q;exact fun v g R2 i=>q v g R2 (j.trans i)
def zxv{zcY:List Expr}(J:PE X a (tE cl E f))(hb:PE X (.BoolOp .Or (b::zcY) pos) (tE cl E h)):PE X (.BoolOp .Or (a::b::zcY) pos) (tE cl E (eOr f h)):=by
 refine PE.imp (zxI J hb) ?_;rintro σ H Q ⟨B,w,ρ,S,rfl,R,q⟩;refine⟨B,w,ρ,S,rfl,R,?_⟩;unfold eOr at q
 cases hf:f ρ S with
 |bad=>rwa[hf]at q|exc c S1=>rwa[hf]at q|ok d S1=>
  rw[hf]at q;intro v k l j h1;dsimp only[Out.bind]at q
  cases hb:isB d with
  |none=>rw[hb]at q;exact q.elim|some b=>
   rw[hb]at q;rw[zdT hb]at h1;refine⟨b,zii h1,?_⟩
   cases b with
   |true=>exact zq2 (q _ k l j (.bl true))|false=>
    refine zq3 ⟨B,k,ρ,S1,rfl,l,?_⟩;dsimp only at q
    cases hh:h ρ S1 with
    |bad=>rwa[hh]at q|exc c S2=>rw[hh]at q;exact fun g R2 i=>q g R2 (j.trans i)|ok e S2=>rw[hh]at q;exact fun v g R2 i=>q v g R2 (j.trans i)
def zui(J:PE X a (tE cl E f)):PE X (.UnaryOp .Not a pos) (tE cl E (eUn zcn f)):=by
 refine PE.imp (zuR J) ?_;rintro σ H Q ⟨B,w,ρ,S,rfl,R,q⟩;refine⟨B,w,ρ,S,rfl,R,?_⟩;unfold eUn at q
 cases hf:f ρ S with
 |bad=>rwa[hf]at q|exc c S1=>rwa[hf]at q|ok d S1=>
  rw[hf]at q;intro v e g h h1;dsimp only[Out.bind]at q
  cases hb:isB d with
  |none=>
   have:zcn d=none:=by cases d<;>simp[isB]at hb<;>rfl
   rw[this]at q;exact q.elim
  |some b=>
   rw[zdT hb]at q h1;exact⟨b,zii h1,q _ e g h (.bl _)⟩
def zxi(q:tE cl E (eIf g f h) σ H Q):tIf (tTr cl E g) (tE cl E f) (tE cl E h) σ H Q:=by
 obtain⟨B,w,ρ,S,rfl,R,q⟩:=q;refine⟨B,w,ρ,S,rfl,R,?_⟩;unfold eIf at q
 cases hg:g ρ S with
 |bad=>rwa[hg]at q|exc c S1=>rwa[hg]at q|ok d S1=>
  rw[hg]at q;dsimp only[Out.bind]at q ⊢
  cases hb:isB d with
  |none=>rw[hb]at q;exact q.elim|some b=>
   rw[hb]at q;intro k l j
   cases b with
   |true=>
    refine zq2 ⟨B,k,ρ,S1,rfl,l,?_⟩;dsimp only at q
    cases hh:f ρ S1 with
    |bad=>rwa[hh]at q|exc c S2=>rw[hh]at q;exact fun a R2 i=>q a R2 (j.trans i)|ok e S2=>rw[hh]at q;exact fun v a R2 i=>q v a R2 (j.trans i)
   |false=>
    refine zq3 ⟨B,k,ρ,S1,rfl,l,?_⟩;dsimp only at q
    cases hh:h ρ S1 with
    |bad=>rwa[hh]at q|exc c S2=>rw[hh]at q;exact fun a R2 i=>q a R2 (j.trans i)|ok e S2=>rw[hh]at q;exact fun v a R2 i=>q v a R2 (j.trans i)
def zxy(J:PT X c (tTr cl E g))(U:PE X a (tE cl E f))(hb:PE X b (tE cl E h)):PE X (.IfExp c a b pos) (tE cl E (eIf g f h)):=PE.imp (zpo J U hb) fun _ _ _ q=>zxi q
def zeo:PA X [] (tAs cl E []):=by
 refine PA.imp zcx ?_;rintro σ H Q ⟨B,w,ρ,S,rfl,R,q⟩;exact q [] w R (Fut.refl _) .nil
def zcb(U:PE X e (tE cl E f))(J:PA X es (tAs cl E fs))(hs:starEach (e::es) X.env=(false,eval e X.env)::starEach es X.env):PA X (e::es) (tAs cl E (f::fs)):=by
 refine PA.imp (zbg U J hs) ?_;rintro σ H Q ⟨B,w,ρ,S,rfl,R,q⟩;refine⟨B,w,ρ,S,rfl,R,?_⟩;unfold zah at q
 cases hf:f ρ S with
 |bad=>rwa[hf]at q|exc c S1=>rwa[hf]at q|ok d S1=>
  rw[hf]at q;intro v h i g h1;refine⟨B,h,ρ,S1,rfl,i,?_⟩;dsimp only[Out.bind]at q
  cases hh:zah fs ρ S1 with
  |bad=>rwa[hh]at q|exc c S2=>rw[hh]at q;exact fun b R2 a=>q b R2 (g.trans a)|ok ds S2=>
   rw[hh]at q;exact fun vs b R2 a h2=>q _ b R2 (g.trans a) (.cons (h1.up a) h2)
def zqE:PA X [] (tHs cl E []):=by
 refine PA.imp zcx ?_;rintro σ H Q ⟨B,w,ρ,S,rfl,R,q⟩;exact q [] w R (Fut.refl _) .nil
def zmA(U:PE X e (tH cl E f))(J:PA X es (tHs cl E fs))(hs:starEach (e::es) X.env=(false,eval e X.env)::starEach es X.env):PA X (e::es) (tHs cl E (f::fs)):=by
 refine PA.imp (zbg U J hs) ?_;rintro σ H Q ⟨B,w,ρ,S,rfl,R,q⟩;refine⟨B,w,ρ,S,rfl,R,?_⟩;unfold zah at q
 cases hf:f ρ S with
 |bad=>rwa[hf]at q|exc c S1=>rwa[hf]at q|ok d S1=>
  rw[hf]at q;intro v h i g h1;refine⟨B,h,ρ,S1,rfl,i,?_⟩;dsimp only[Out.bind]at q
  cases hh:zah fs ρ S1 with
  |bad=>rwa[hh]at q|exc c S2=>rw[hh]at q;exact fun b R2 a=>q b R2 (g.trans a)|ok ds S2=>
   rw[hh]at q;exact fun vs b R2 a h2=>q _ b R2 (g.trans a) (.cons (h1.up a) h2)
def zuh(h:PA X es (tAs cl E fs)):PE X (.Tuple es k pos) (tE cl E (zgw fs)):=by
 refine PE.imp (zqN h) ?_;rintro σ H Q ⟨B,w,ρ,S,rfl,R,q⟩;refine⟨B,w,ρ,S,rfl,R,?_⟩;unfold zgw at q
 cases hf:zah fs ρ S with
 |bad=>rwa[hf]at q|exc c S1=>rwa[hf]at q|ok ds S1=>
  rw[hf]at q;intro vs d e f h1;dsimp only[Out.bind]at q
  cases a:zax ds.length with
  |false=>rw[a,if_neg (by decide)]at q;exact q.elim
  |true=>
   rw[a,if_pos rfl]at q;refine⟨by rw[h1.length];exact zaM a,fun p b=>?_⟩;exact q _ (d.add p (.tup vs)) (e.grow (zaq b _)) (f.trans (zaq b _).fut) (Shd.newT b h1)
def zuj(h:PA X es (tAs cl E fs)):PE X (.List es pos) (tN cl E (zk0 fs)):=by
 refine PE.imp (zqP h) ?_;rintro σ H Q ⟨B,w,ρ,S,rfl,R,q⟩;refine⟨B,w,ρ,S,rfl,R,?_⟩;unfold zk0 at q
 cases hf:zah fs ρ S with
 |bad=>rwa[hf]at q|exc c S1=>rwa[hf]at q|ok ds S1=>
  rw[hf]at q;intro vs b e f h1;dsimp only[Out.bind]at q
  cases a:zax ds.length with
  |false=>rw[a,if_neg (by decide)]at q;exact q.elim
  |true=>
   rw[a,if_pos rfl]at q;refine⟨by rw[h1.length];exact zaM a,fun p d=>?_⟩;exact q _ (.lst vs) b e f d (.lst h1)
def ztR(U:∀xs H Q,(∃w ds r,w.H=H/\zoE cl w xs ds/\J ds=some r/\∀v w',Grow w w'->Shd cl w' v r->Q v w'.H)->r xs H Q)(q:tE cl E (zal J fs) σ H Q):tCB r (tHs cl E fs) σ H Q:=by
 obtain⟨B,w,ρ,S,rfl,R,q⟩:=q;refine⟨B,w,ρ,S,rfl,R,?_⟩;unfold zal at q
 cases hf:zah fs ρ S with
 |bad=>rwa[hf]at q|exc c S1=>rwa[hf]at q|ok ds S1=>
  rw[hf]at q;intro vs e b f h1;dsimp only[Out.bind]at q
  cases hg:J ds with
  |none=>rw[hg]at q;exact q.elim|some d=>
   rw[hg]at q;exact U _ _ _ ⟨e,ds,d,rfl,h1.top b,hg,fun v w' a sh=>q v w' (b.grow a) (f.trans a.fut) sh⟩
def ztQ(U:∀xs H Q,(∃w ds r,w.H=H/\zoE cl w xs ds/\J ds=some r/\∀p o w',Grow w w'->w'.H p=none->Top cl w' o r->Q (.ref p) (upd w'.H p o))->r xs H Q)(q:tN cl E (zal J fs) σ H Q):tCB r (tHs cl E fs) σ H Q:=by
 obtain⟨B,w,ρ,S,rfl,R,q⟩:=q;refine⟨B,w,ρ,S,rfl,R,?_⟩;unfold zal at q
 cases hf:zah fs ρ S with
 |bad=>rwa[hf]at q|exc c S1=>rwa[hf]at q|ok ds S1=>
  rw[hf]at q;intro vs e b g h1;dsimp only[Out.bind]at q
  cases hg:J ds with
  |none=>rw[hg]at q;exact q.elim|some d=>
   rw[hg]at q;exact U _ _ _ ⟨e,ds,d,rfl,h1.top b,hg,fun p o w' a f t=>q p o w' (b.grow a) (g.trans a.fut) f t⟩
end
noncomputable def Root.out:Option Root->Option Root|some (.slot _)=>some .far|o=>o
def Root.out_none:Root.out o=none↔o=none:=by
 cases o with
 |none=>exact⟨fun h=>h,fun h=>h⟩|some r=>cases r<;>simp[Root.out]
noncomputable def zez:Option Root->Bool|some (.fld _ _)=>true|some (.obj _)=>true|some .tab=>true|_=>false
def Wd.inn(w:Wd):Wd:=⟨w.H,fun a=>Root.out (w.ow a),w.mu⟩
def Wd.base(w:Wd):Base:=⟨fun a=>if zez (w.ow a)=true then none else w.H a,fun a=>Root.out (w.ow a)⟩
def Wd.back(w w':Wd):Wd:=⟨w'.H,fun a=>if(w.base.Fr a).isSome=true then w.ow a else Root.out (w'.ow a),w'.mu⟩
def zcj(w:Wd):Fut w w.inn:=⟨fun a o h k=>⟨h,by show Root.out (w.ow a)=none;rw[k];rfl⟩,fun _ _ h=>h⟩
def zjc{w:Wd}(h:w.H a=some o)(k:zez (w.ow a)=false):w.base.Fr a=some o:=by
 show(if zez (w.ow a)=true then none else w.H a)=_;rw[k,if_neg (by decide)];exact h
def zsz{w:Wd}(h:w.base.Fr a=some o):w.H a=some o/\zez (w.ow a)=false:=by
 have h':(if zez (w.ow a)=true then none else w.H a)=some o:=h;split at h'
 ·cases h'
 ·rename_i z;exact⟨h',by simpa using z⟩
section
variable{cl:Cf}{B:Base}{σ:St}{w w':Wd}{ρ:Env}{S S':Sto}
def World'.enter(W:World' cl B w S):World' cl w.base w.inn S where
 fr:=fun a o h=>⟨(zsz h).1,rfl⟩
 own:=fun a r h=>by
  have h':Root.out (w.ow a)=some r:=h
  cases e:w.ow a with
  |none=>rw[e]at h';cases h'|some q=>
   cases q with
   |slot i=>rw[e]at h';cases h';exact .inl rfl|far=>rw[e]at h';cases h';exact .inl rfl|fld n f=>exact .inr (by show(if zez (w.ow a)=true then none else w.H a)=none;rw[e];rfl)
   |obj n=>exact .inr (by show(if zez (w.ow a)=true then none else w.H a)=none;rw[e];rfl)
   |tab=>exact .inr (by show(if zez (w.ow a)=true then none else w.H a)=none;rw[e];rfl)
 len:=W.len
 obj:=fun n ob h=>by
  obtain⟨a,e,x⟩:=W.obj n ob h;refine⟨a,e,x.keep (zcj w) fun a o c b=>⟨c,?_⟩⟩;show Root.out (w.ow a)=w.ow a
  cases e:w.ow a with
  |none=>rfl|some q=>cases q with
   |slot i=>rw[e]at b;exact b.elim|_=>rfl
 tab:=W.tab.keep (zcj w) fun P ps h1 h2=>⟨h1,by show Root.out (w.ow P)=_;rw[h2];rfl⟩
def zeh(W:World' cl B w S)(h:B.Fr a=some o):w.base.Fr a=some o:=by
 refine zjc (W.fr a o h).1 ?_
 cases e:w.ow a with
 |none=>rfl|some q=>
  rcases W.own a q e with rfl|z
  ·rfl
  ·rw[h]at z;cases z
def zdV(J:World' cl w.base w' S'):Fut w' (w.back w')where
 keep:=fun a o h k=>by
  refine⟨h,?_⟩;show(if(w.base.Fr a).isSome=true then w.ow a else Root.out (w'.ow a))=none;split
  ·rename_i z;obtain⟨u,b⟩:=Option.isSome_iff_exists.mp z;have:=(J.fr a u b).2;rw[k]at this;exact Root.out_none.mp this.symm
  ·rw[k];rfl
 mu:=fun _ _ h=>h
def Rel.leave(R:Rel cl B σ w ρ S)(J:World' cl w.base w' S')(F:Fut w.inn w'):Rel cl B σ (w.back w') ρ S'/\Fut w (w.back w'):=by
 have fb:=zdV J;have g:Fut w (w.back w'):=(zcj w).trans (F.trans fb)
 have in_:∀a o,w.base.Fr a=some o->(w.back w').H a=some o/\(w.back w').ow a=w.ow a:=fun a o h=>by
  refine⟨(J.fr a o h).1,?_⟩;show(if(w.base.Fr a).isSome=true then w.ow a else _)=_;rw[h];rfl
 refine⟨⟨⟨fun a o h=>?_,fun a r h=>?_,J.len,fun n ob h=>?_,fun P q h=>?_⟩,R.len,fun i o d h=>?_⟩,g⟩
 ·have:=in_ a o (zeh R.wd h);exact⟨this.1,this.2.trans (R.wd.fr a o h).2⟩
 ·cases hb:B.Fr a with
  |none=>exact .inr rfl|some o=>
   have:=(in_ a o (zeh R.wd hb)).2;rw[h]at this
   rcases R.wd.own a r this.symm with z|z
   ·exact .inl z
   ·rw[hb]at z;cases z
 ·obtain⟨a,e,x⟩:=J.obj n ob h;refine⟨a,e,x.keep fb fun a o c b=>⟨c,?_⟩⟩;show(if(w.base.Fr a).isSome=true then w.ow a else Root.out (w'.ow a))=_
  cases e:w'.ow a with
  |none=>rw[e]at b;exact b.elim|some q=>
   rcases J.own a q e with rfl|z
   ·rw[e]at b;exact b.elim
   ·rw[z]
    cases q with
    |slot i=>rw[e]at b;exact b.elim|_=>rfl
 ·obtain⟨ps,h1,h2,j⟩:=J.tab P q h;obtain⟨_,_,g2,_⟩:=R.wd.tab P q h;refine⟨ps,h1,?_,j.up fb⟩
  have hb:w.base.Fr P=none:=by show(if zez (w.ow P)=true then none else w.H P)=none;rw[g2];rfl
  show(if(w.base.Fr P).isSome=true then w.ow P else Root.out (w'.ow P))=_;rw[hb,h2];rfl
 ·obtain⟨v,e,x⟩:=R.slots i o d h;refine⟨v,e,x.keep g fun a u c f=>?_⟩;have:=in_ a u (zjc c (by rw[f];rfl));exact⟨this.1,this.2.trans f⟩
noncomputable def Wd.del(w:Wd)(a:Addr):Wd:=⟨fun b=>if b=a then none else w.H b,w.ow,w.mu⟩
def zhG(k:w.ow a≠none):Fut w (w.del a)where
 keep:=fun b o h e=>⟨by
  show(if b=a then none else w.H b)=_
  rw[if_neg (fun z=>k (by rw[<-z];exact e))];exact h,e⟩
 mu:=fun _ _ h=>h
def zmd(h:w.H a=some o):upd (w.del a).H a o=w.H:=by
 funext b
 by_cases e:b=a
 ·rw[e,zat,h]
 ·rw[zai e];show(if b=a then none else w.H b)=_;rw[if_neg e]
theorem Rel.del(R:Rel cl B σ w ρ S)(k:w.ow a=some .far)(hb:B.Fr a=none):Rel cl B σ (w.del a) ρ S:=by
 have fd:Fut w (w.del a):=zhG (by rw[k];exact yaI _)
 have kp:∀b o,w.H b=some o->b≠a->(w.del a).H b=some o:=fun b o h n=>by
  show(if b=a then none else w.H b)=_;rw[if_neg n];exact h
 refine⟨⟨fun b o h=>⟨kp b o (R.wd.fr b o h).1 (fun z=>by rw[z,hb]at h;cases h),(R.wd.fr b o h).2⟩,R.wd.own,R.wd.len,fun n ob h=>?_,R.wd.tab.keep fd fun P ps h1 h2=>⟨kp P _ h1 (fun z=>by rw[z,k]at h2;cases h2),h2⟩⟩,R.len,fun i o d h=>?_⟩
 ·obtain⟨c,e,x⟩:=R.wd.obj n ob h;exact⟨c,e,x.keep fd fun b o f j=>⟨kp b o f (fun z=>by rw[z,k]at j;exact j.elim),rfl⟩⟩
 ·obtain⟨v,e,x⟩:=R.slots i o d h;exact⟨v,e,x.keep fd fun b o f g=>⟨kp b o f (fun z=>by rw[z,k]at g;cases g),g⟩⟩
end
noncomputable def zAl(cl:Cf)(w:Wd):Bool->V->D->Prop
 |false,v,d=>Shd cl w v d|true,v,d=>∃a o i,v=.ref a/\w.ow a=some (.slot i)/\w.H a=some o/\Top cl w o d
noncomputable def zjh(cl:Cf)(n:Nat)(own:Bool)(G:List D->Sto->Out D):Sp:=fun vs H Q E=>vs.length=n/\∃B w ds S,w.H=H/\World' cl B w S/\Shds cl w vs ds/\match G ds S with
 |.ok d S'=>∀v w',World' cl B w' S'->Fut w w'->zAl cl w' own v d->Q v w'.H|.exc c S'=>∀w',World' cl B w' S'->Fut w w'->E (.ref (cl c)) none w'.H|.bad=>False
noncomputable def zdL(CX:CXT)(X:Cx)(E:St->XK):Prop:=∀(pins:Z3) (σ:St) (H:Hp) (s:Shared) (e:Value) (s':Shared),Inv X pins σ H s->CX X.stack H s (E σ) e s'->X.xe e s'
noncomputable def zia(sp:Sp)(dvs:List V)(E:St->XK)(t:TA):TE:=fun σ H Q=>t σ H fun vs H1=>sp (vs++dvs) H1 Q (E σ)
section
variable{X:Cx}{CX:CXT}{k:Nat}{f C:Addr}{fd:FuncData}{ps:List Str}{sp:Sp}{dvs:List V}{ds:List Value}{E:St->XK}{x m:Str}{p pos apos:Pos}{e o:Expr}{es:List Expr}{ta:TE}{t:TA}
def zhj(F:FnOk X.prog X.w X.K X.mg X.base CX k f fd ps sp)(U:Room k X.A)(hb:zdm X.K fd ps ds)(hd:Vals dvs ds)(J:zdL CX X E)
  (I:Inv X pins σ H s) (r:Vals vs us) (h:sp (vs++dvs) H Q (E σ)):wpAny (model X.prog X.w) X.A (call (.ref f) us) (EP X pins σ Q) X.xe s:=by
 have b:Vals (vs++dvs) (us++ds):=r.append hd
 have c:(us++ds).length=ps.length:=by rw[<-b.length];exact F.len _ _ _ _ h
 refine wpAny_call (yc8 (F.run X.A X.stack s H ⟨us,[]⟩ (us++ds) (vs++dvs) Q (E σ) U I.env0 (hb s us I.kIn c) b h) fun r s' a=>?_)
 cases r with
 |error e=>exact J pins σ H s e s' I a|ok fl=>
  cases fl with
  |ret u=>exact I.after a|next=>exact False.elim a|brk=>exact False.elim a|cont=>exact False.elim a
def zpt(F:FnOk X.prog X.w X.K X.mg X.base CX k f fd ps sp)(hr:Room k X.A)(hg:Gl X x)(hm:X.mg x=some (.ref f))(hk:PySem.W.keepIn X.K (.ref f)=true)(hb:zdm X.K fd ps ds)(hd:Vals dvs ds)(U:zdL CX X E)
  (ha:PA X (e::es) t) (J:(x==("__debug__":Str))=false) (he:starEach (e::es) X.env=(false,eval e X.env)::starEach es X.env) (af:(backTo pos (starEach es X.env)).any (·.1)=false):
  PE X (.Call (.Name x p) (e::es) [] pos) (zia sp dvs E t):=by
 intro pins s σ H Q I h;refine ycj (zfT I hg hm ?_ J);refine ydv (h₀:=X.base) I.ok.mod.kin hk (thn (ha pos pins s σ H _ I h) fun us s1 ⟨vs,H1,a,r,q⟩=>⟨a.kIn,?_⟩) he af;exact zhj F hr hb hd U a r q
def zng(F:FnOk X.prog X.w X.K X.mg X.base CX k f fd ps sp)(hr:Room k X.A)(hg:Gl X x)(hm:X.mg x=some (.ref f))(hk:PySem.W.keepIn X.K (.ref f)=true)(hb:zdm X.K fd ps ds)(hd:Vals dvs ds)(U:zdL CX X E)
  (J:(x==("__debug__":Str))=false):PE X (.Call (.Name x p) [] [] pos) (zia sp dvs E zwE):=by
 intro pins s σ H Q I h;refine ycj (zfT I hg hm ?_ J);exact PySem.W.callWith_K0 I.kIn hk (zhj (us:=[]) F hr hb hd U I .nil h)
end
def eFn(G:List D->Sto->Out D)(fs:List Fe):Fe:=fun ρ S=>(zah fs ρ S).bind fun ds S1=>G ds S1
section
variable{cl:Cf}{E:St->XK}{fs:List Fe}{G:List D->Sto->Out D}{σ:St}{H:Hp}{Q:VK}{n:Nat}
def zwh(q:tE cl E (eFn G fs) σ H Q)(J:fs.length=n):zia (zjh cl n false G) [] E (tAs cl E fs) σ H Q:=by
 obtain⟨B,w,ρ,S,rfl,R,q⟩:=q;refine⟨B,w,ρ,S,rfl,R,?_⟩;unfold eFn at q
 cases hf:zah fs ρ S with
 |bad=>rwa[hf]at q|exc c S1=>rwa[hf]at q|ok ds S1=>
  rw[hf]at q;intro vs a i k h1;dsimp only[Out.bind]at q
  have o:∀(fs:List Fe) (S S1:Sto) (ds:List D),zah fs ρ S=.ok ds S1->ds.length=fs.length:=by
   intro fs
   induction fs with
   |nil=>intro S S1 ds h;cases h;rfl|cons f fs m=>
    intro S S1 ds h;unfold zah at h
    cases h1:f ρ S with
    |bad=>rw[h1]at h;cases h|exc c S2=>rw[h1]at h;cases h|ok d S2=>
     rw[h1]at h;dsimp only[Out.bind]at h
     cases h2:zah fs ρ S2 with
     |bad=>rw[h2]at h;cases h|exc c p=>rw[h2]at h;cases h|ok es p=>rw[h2]at h;cases h;rw[yap,yap,m S2 _ es h2]
  refine⟨by rw[yaO,h1.length,o fs S S1 ds hf];exact J,a.base,a.inn,ds,S1,rfl,i.wd.enter,by rw[yaO];exact h1.up (zcj a),?_⟩
  cases hg:G ds S1 with
  |bad=>rwa[hg]at q|exc c S2=>
   rw[hg]at q;intro e b j;obtain⟨g,F3⟩:=i.leave b j;exact q (a.back e) g (k.trans F3)
  |ok d S2=>
   rw[hg]at q;intro v e b j l;obtain⟨g,F3⟩:=i.leave b j;exact q v (a.back e) g (k.trans F3) (Shd.up (zdV b) l)
def zwg(q:tN cl E (eFn G fs) σ H Q)(J:fs.length=n):zia (zjh cl n true G) [] E (tAs cl E fs) σ H Q:=by
 obtain⟨B,w,ρ,S,rfl,R,q⟩:=q;refine⟨B,w,ρ,S,rfl,R,?_⟩;unfold eFn at q
 cases hf:zah fs ρ S with
 |bad=>rwa[hf]at q|exc c S1=>rwa[hf]at q|ok ds S1=>
  rw[hf]at q;intro vs b k p h1;dsimp only[Out.bind]at q
  have x:∀(fs:List Fe) (S S1:Sto) (ds:List D),zah fs ρ S=.ok ds S1->ds.length=fs.length:=by
   intro fs
   induction fs with
   |nil=>intro S S1 ds h;cases h;rfl|cons f fs s=>
    intro S S1 ds h;unfold zah at h
    cases h1:f ρ S with
    |bad=>rw[h1]at h;cases h|exc c S2=>rw[h1]at h;cases h|ok d S2=>
     rw[h1]at h;dsimp only[Out.bind]at h
     cases h2:zah fs ρ S2 with
     |bad=>rw[h2]at h;cases h|exc c y=>rw[h2]at h;cases h|ok es y=>rw[h2]at h;cases h;rw[yap,yap,s S2 _ es h2]
  refine⟨by rw[yaO,h1.length,x fs S S1 ds hf];exact J,b.base,b.inn,ds,S1,rfl,k.wd.enter,by rw[yaO];exact h1.up (zcj b),?_⟩
  cases hg:G ds S1 with
  |bad=>rwa[hg]at q|exc c S2=>
   rw[hg]at q;intro e j m;obtain⟨l,F3⟩:=k.leave j m;exact q (b.back e) l (p.trans F3)
  |ok d S2=>
   rw[hg]at q;intro v e j m r;obtain⟨l,F3⟩:=k.leave j m;obtain⟨a,o,i,rfl,k1,k2,t⟩:=r;have g:b.base.Fr a=none:=(j.own a _ k1).elim (fun z=>by cases z) fun z=>z
   have k3:(b.back e).ow a=some .far:=by
    show(if(b.base.Fr a).isSome=true then b.ow a else Root.out (e.ow a))=_;rw[g,k1];rfl
   have hb:B.Fr a=none:=by
    cases z:B.Fr a with
    |none=>rfl|some u=>rw[zeh k.wd z]at g;cases g
   have hd:=zhG (w:=b.back e) (a:=a) (by rw[k3];exact yaI _);have:=q a o ((b.back e).del a) (l.del k3 hb) (p.trans (F3.trans hd)) (if_pos rfl) ((t.up (zdV j)).up hd);rwa[zmd (w:=b.back e) k2]at this
end
noncomputable def frz1(ρ:Env)(i:Nat):Env:=match ρ[i]? with|some (some (true,d))=>ρ.set i (some (false,d))|_=>ρ
def frz(is:List Nat)(ρ:Env):Env:=is.foldl frz1 ρ
def sFz(is:List Nat)(f:Fs):Fs:=fun ρ S=>f (frz is ρ) S
noncomputable def sNx:Fs:=fun ρ S=>.nx ρ S
noncomputable def zac(f g:Fs):Fs:=fun ρ S=>match f ρ S with|.nx a S'=>g a S'|o=>o
noncomputable def zbM(i:Nat)(own:Bool)(f:Fe):Fs:=fun ρ S=>match f ρ S with|.ok d S'=>.nx (ρ.set i (some (own,d))) S'|.exc c S'=>.ex c ρ S'|.bad=>.bad
noncomputable def zkn(f:Fe):Fs:=fun ρ S=>match f ρ S with|.ok _ S'=>.nx ρ S'|.exc c S'=>.ex c ρ S'|.bad=>.bad
noncomputable def zaK(f:Fe):Fs:=fun ρ S=>match f ρ S with|.ok d S'=>.rt d S'|.exc c S'=>.ex c ρ S'|.bad=>.bad
noncomputable def zik(i:Nat):Fs:=fun ρ S=>match ρ[i]? with|some (some (true,d))=>.rt d S|_=>.bad
def sIf(c:Fe)(f g:Fs):Fs:=fun ρ S=>match c ρ S with|.ok d S'=>(match isB d with|some true=>f ρ S'|some false=>g ρ S'|none=>.bad)|.exc x S'=>.ex x ρ S'|.bad=>.bad
noncomputable def zjj(cl:Cf)(E:St->XK)(own:Bool)(B:Base)(w:Wd)(J:Ends):Fo->Prop
 |.nx b S'=>∀a w',Rel cl B a w' b S'->Fut w w'->J.nx a w'.H|.bk b S'=>∀a w',Rel cl B a w' b S'->Fut w w'->J.bk a w'.H|.ct b S'=>∀a w',Rel cl B a w' b S'->Fut w w'->J.ct a w'.H|.rt d S'=>∀v w',World' cl B w' S'->Fut w w'->zAl cl w' own v d->J.rt v w'.H|.ex c b S'=>∀a w',Rel cl B a w' b S'->Fut w w'->E a (.ref (cl c)) none w'.H|.bad=>False
theorem zjj.up(f:Fut w J):∀{o:Fo},zjj cl E own B w U o->zjj cl E own B J U o
 |.nx _ _,h=>fun a w' R F=>h a w' R (f.trans F)|.bk _ _,h=>fun a w' R F=>h a w' R (f.trans F)|.ct _ _,h=>fun a w' R F=>h a w' R (f.trans F)|.rt _ _,h=>fun v w' R F=>h v w' R (f.trans F)|.ex _ _ _,h=>fun a w' R F=>h a w' R (f.trans F)|.bad,h=>h
noncomputable def tS(cl:Cf)(E:St->XK)(own:Bool)(f:Fs):TS:=fun a σ H=>∃B w ρ S,w.H=H/\Rel cl B σ w ρ S/\zjj cl E own B w a (f ρ S)
def PS.imp{X:Cx}{st:Stmt}{t t':TS}(h:PS X st t)(i:∀J σ H,t' J σ H->t J σ H):PS X st t':=fun pins s σ H J I q=>h pins s σ H J I (i _ _ _ q)
def PSs.imp{X:Cx}{st:List Stmt}{t t':TS}(h:PSs X st t)(i:∀J σ H,t' J σ H->t J σ H):PSs X st t':=fun pins s σ H J I q=>h pins s σ H J I (i _ _ _ q)
section
variable{cl:Cf}{B:Base}{σ:St}{w:Wd}{ρ:Env}{S:Sto}
def Rel.put(R:Rel cl B σ w ρ S)(h:Shd cl w v d):Rel cl B (σ.set i (some v)) w (ρ.set i (some (false,d))) S where
 wd:=R.wd
 len:=by rw[yaS,yaS];exact R.len
 slots:=fun j o e b=>by
  by_cases c:i=j
  ·subst c
   have a:i<ρ.length:=by
    have:=(yaq.mp b).1;rwa[yaS]at this
   rw[yaN a]at b;cases b;exact⟨v,by rw[yaN (by rw[R.len];exact a)],h⟩
  ·rw[ya4 c]at b ⊢;exact R.slots j o e b
def Wd.addAs(w:Wd)(p:Addr)(o:HO)(r:Root):Wd:=⟨upd w.H p o,fun a=>if a=p then some r else if w.ow a=some r then some .far else w.ow a,w.mu⟩
def zbR(h:w.H p=none):Fut w (w.addAs p o r)where
 keep:=fun a u b hk=>by
  have n:a≠p:=zam b h;refine⟨?_,?_⟩
  ·show upd w.H p o a=_;rw[zai n];exact b
  ·show(if a=p then some r else if w.ow a=some r then some Root.far else w.ow a)=none;rw[if_neg n,if_neg (by rw[hk];exact fun z=>by cases z)];exact hk
 mu:=fun _ _ h=>h
theorem Rel.own(R:Rel cl B σ w ρ S)(J:w.H p=none)(t:Top cl w o d):Rel cl B (σ.set i (some (.ref p))) (w.addAs p o (.slot i)) (ρ.set i (some (true,d))) S:=by
 have l:=zbR (w:=w) (p:=p) (o:=o) (r:=.slot i) J
 have kp:∀a u,w.H a=some u->w.ow a≠some (.slot i)->(w.addAs p o (.slot i)).H a=some u/\(w.addAs p o (.slot i)).ow a=w.ow a:=fun a u k hk=>by
  have n:a≠p:=zam k J;refine⟨?_,?_⟩
  ·show upd w.H p o a=_;rw[zai n];exact k
  ·show(if a=p then _ else if w.ow a=some (Root.slot i)then some Root.far else w.ow a)=_;rw[if_neg n,if_neg hk]
 have q:B.Fr p=none:=by
  cases z:B.Fr p with
  |none=>rfl|some u=>have:=(R.wd.fr p u z).1;rw[J]at this;cases this
 refine⟨⟨fun a u h=>?_,fun a r h=>?_,R.wd.len,fun n ob h=>?_,R.wd.tab.keep l fun P ps h1 h2=>⟨(kp P _ h1 (by rw[h2];simp)).1,(kp P _ h1 (by rw[h2];simp)).2.trans h2⟩⟩,by rw[yaS,yaS];exact R.len,fun j b e g=>?_⟩
 ·have m:w.ow a≠some (.slot i):=fun z=>by
   rcases R.wd.own a _ z with y|y
   ·cases y
   ·rw[h]at y;cases y
  have:=kp a u (R.wd.fr a u h).1 m;exact⟨this.1,this.2.trans (R.wd.fr a u h).2⟩
 ·have h':(if a=p then some (Root.slot i)else if w.ow a=some (Root.slot i)then some Root.far else w.ow a)=some r:=h;split at h'
  ·rename_i e;rw[e];exact .inr q
  ·split at h'
   ·cases h';exact .inl rfl
   ·exact R.wd.own a r h'
 ·obtain⟨a,e,x⟩:=R.wd.obj n ob h;exact⟨a,e,x.keep l fun b u hb A=>kp b u hb fun z=>by rwa[z]at A⟩
 ·by_cases c:i=j
  ·subst c
   have f:i<ρ.length:=by
    have:=(yaq.mp g).1;rwa[yaS]at this
   rw[yaN f]at g;cases g;exact⟨.ref p,by rw[yaN (by rw[R.len];exact f)],p,o,rfl,if_pos rfl,zat,t.up l⟩
  ·rw[ya4 c]at g ⊢;obtain⟨v,C,x⟩:=R.slots j b e g;refine⟨v,C,x.keep l fun a u k s=>?_⟩;have:=kp a u k (by rw[s];exact fun z=>c (by cases z;rfl));exact⟨this.1,this.2.trans s⟩
def Wd.mut(w:Wd)(p:Addr)(o:HO):Wd:=⟨upd w.H p o,w.ow,w.mu⟩
def zeZ(h:w.ow p≠none):Fut w (w.mut p o)where
 keep:=fun a u b hk=>⟨by
  show upd w.H p o a=_
  rw[zai (fun z=>h (by rw[<-z];exact hk))];exact b,hk⟩
 mu:=fun _ _ h=>h
theorem Rel.mut{i:Nat}{p:Addr}{o:HO}{d d0:D}(R:Rel cl B σ w ρ S)(hs:σ[i]?=some (some (.ref p)))(hk:w.ow p=some (.slot i))(t:Top cl w o d):Rel cl B σ (w.mut p o) (ρ.set i (some (true,d))) S:=by
 have g:=zeZ (w:=w) (p:=p) (o:=o) (by rw[hk];exact yaI _)
 have kp:∀a u,w.H a=some u->w.ow a≠some (.slot i)->(w.mut p o).H a=some u/\(w.mut p o).ow a=w.ow a:=fun a u q l=>⟨by
  show upd w.H p o a=_
  rw[zai (fun z=>l (by rw[z];exact hk))];exact q,rfl⟩
 have s:B.Fr p=none:=(R.wd.own p _ hk).elim (fun z=>by cases z) fun z=>z
 refine⟨⟨fun a u h=>?_,R.wd.own,R.wd.len,fun n ob h=>?_,R.wd.tab.keep g fun P ps h1 h2=>⟨(kp P _ h1 (by rw[h2];simp)).1,(kp P _ h1 (by rw[h2];simp)).2.trans h2⟩⟩,by rw[yaS];exact R.len,fun j b e f=>?_⟩
 ·have k:w.ow a≠some (.slot i):=fun z=>by
   rcases R.wd.own a _ z with y|y
   ·cases y
   ·rw[h]at y;cases y
  have:=kp a u (R.wd.fr a u h).1 k;exact⟨this.1,(R.wd.fr a u h).2⟩
 ·obtain⟨a,e,x⟩:=R.wd.obj n ob h;exact⟨a,e,x.keep g fun b u hb l=>kp b u hb fun z=>by rwa[z]at l⟩
 ·by_cases c:i=j
  ·subst c
   have m:i<ρ.length:=by
    have:=(yaq.mp f).1;rwa[yaS]at this
   rw[yaN m]at f;cases f;exact⟨.ref p,hs,p,o,rfl,hk,zat,t.up g⟩
  ·rw[ya4 c]at f;obtain⟨v,A,x⟩:=R.slots j b e f;refine⟨v,A,x.keep g fun a u q r=>?_⟩;have:=kp a u q (by rw[r];exact fun z=>c (by cases z;rfl));exact⟨this.1,this.2.trans r⟩
noncomputable def Wd.free(w:Wd)(r:Root):Wd:=⟨w.H,fun a=>if w.ow a=some r then none else w.ow a,w.mu⟩
theorem Rel.frz1(R:Rel cl B σ w ρ S)(i:Nat)(I:Inv X pins σ w.H s):∃w',Inv X pins σ w'.H s/\Fut w w'/\Rel cl B σ w' (frz1 ρ i) S:=by
 unfold S2.frz1;split
 ·rename_i d hd;obtain⟨v,E,a,o,rfl,h1,h2,t⟩:=R.slots i true d hd;obtain⟨o',J,m⟩:=t.fz I h2;generalize l:((w.mut a o').free (.slot i):Wd)=w'
  have D:w'.H=upd w.H a o':=by rw[<-l];rfl
  have A:∀b,w'.ow b=if w.ow b=some (.slot i)then none else w.ow b:=fun b=>by rw[<-l];rfl
  have C:w'.mu=w.mu:=by rw[<-l];rfl
  have kp:∀b u,w.H b=some u->w.ow b≠some (.slot i)->w'.H b=some u/\w'.ow b=w.ow b:=fun b u hb g=>⟨by
   rw[D,zai (fun z=>g (by rw[z];exact h1))];exact hb,by rw[A,if_neg g]⟩
  have f:Fut w w':=⟨fun b u hb hk=>⟨(kp b u hb (by rw[hk];simp)).1,(kp b u hb (by rw[hk];simp)).2.trans hk⟩,fun n b h=>by rw[C];exact h⟩;refine⟨w',by rw[D];exact J,f,⟨fun b u h=>?_,fun b r h=>?_,by rw[C];exact R.wd.len,fun n ob h=>?_,R.wd.tab.keep f fun P ps h1 h2=>⟨(kp P _ h1 (by rw[h2];simp)).1,(kp P _ h1 (by rw[h2];simp)).2.trans h2⟩⟩,by rw[yaS];exact R.len,fun j b e k=>?_⟩
  ·have p:w.ow b≠some (.slot i):=fun z=>by
    rcases R.wd.own b _ z with y|y
    ·cases y
    ·rw[h]at y;cases y
   have:=kp b u (R.wd.fr b u h).1 p;exact⟨this.1,this.2.trans (R.wd.fr b u h).2⟩
  ·rw[A]at h;split at h
   ·cases h
   ·exact R.wd.own b r h
  ·obtain⟨b,e,x⟩:=R.wd.obj n ob h;exact⟨b,by rw[C];exact e,x.keep f fun b u hb g=>kp b u hb fun z=>by rwa[z]at g⟩
  ·by_cases c:i=j
   ·subst c;have q:i<ρ.length:=(yaq.mp hd).1;rw[yaN q]at k;cases k;exact⟨.ref a,E,m w' f (by rw[D,zat]) (by rw[A,if_pos h1])⟩
   ·rw[ya4 c]at k;obtain⟨v,E,x⟩:=R.slots j b e k;refine⟨v,E,x.keep f fun a u G F=>?_⟩;have:=kp a u G (by rw[F];exact fun z=>c (by cases z;rfl));exact⟨this.1,this.2.trans F⟩
 ·exact⟨w,I,Fut.refl _,R⟩
theorem Rel.frz{X:Cx}{pins:Z3}{s:Shared}:∀(is:List Nat) {w:Wd}{ρ:Env},Rel cl B σ w ρ S->Inv X pins σ w.H s->∃w',Inv X pins σ w'.H s/\Fut w w'/\Rel cl B σ w' (frz is ρ) S
 |[],w,ρ,R,I=>⟨w,I,Fut.refl _,R⟩|i::is,w,ρ,R,I=>by
  obtain⟨e,d,f1,b⟩:=R.frz1 i I;obtain⟨a,c,f2,R2⟩:=Rel.frz is b d;exact⟨a,c,f1.trans f2,R2⟩
end
section
variable{X:Cx}{cl:Cf}{E:St->XK}{own:Bool}{st:Stmt}{zcY:List Stmt}{f g:Fs}{e:Expr}{fe:Fe}{pos pos':Pos}
def zxq(is:List Nat)(h:PS X st (tS cl E own f)):PS X st (tS cl E own (sFz is f)):=by
 intro pins s σ H d I q;obtain⟨B,w,ρ,S,rfl,R,q⟩:=q;obtain⟨w',c,a,b⟩:=R.frz is I;exact h pins s σ w'.H d c ⟨B,w',frz is ρ,S,rfl,b,zjj.up a q⟩
def ztZ:PSs X [] (tS cl E own sNx):=by
 refine PSs.imp zse ?_;rintro a σ H ⟨B,w,ρ,S,rfl,R,q⟩;exact q σ w R (Fut.refl _)
def zrH(h1:PS X st (tS cl E own f))(h2:PSs X zcY (tS cl E own g)):PSs X (st::zcY) (tS cl E own (zac f g)):=by
 refine PSs.imp (zpd h1 h2) ?_;rintro i σ H ⟨B,w,ρ,S,rfl,R,q⟩;refine⟨B,w,ρ,S,rfl,R,?_⟩;unfold zac at q
 cases hf:f ρ S with
 |nx a S'=>
  rw[hf]at q;intro b w' e h;exact⟨B,w',a,S',rfl,e,zjj.up h q⟩
 |bk a S'=>rwa[hf]at q|ct a S'=>rwa[hf]at q|rt d S'=>rwa[hf]at q|ex c a S'=>rwa[hf]at q|bad=>rwa[hf]at q
def zyE(q:tS cl E own (zbM i false fe) J σ H):ztn (tE cl E fe) (zn1 i) J σ H:=by
 obtain⟨B,w,ρ,S,rfl,R,q⟩:=q;refine⟨B,w,ρ,S,rfl,R,?_⟩;unfold zbM at q
 cases hf:fe ρ S with
 |bad=>rwa[hf]at q|exc c S1=>rw[hf]at q;exact fun w' a b=>q σ w' a b|ok d S1=>
  rw[hf]at q;intro v w' a b h';exact q _ w' (a.put h') b
def zwo(q:tS cl E own (zbM i true fe) J σ H):ztn (tN cl E fe) (zn1 i) J σ H:=by
 obtain⟨B,w,ρ,S,rfl,R,q⟩:=q;refine⟨B,w,ρ,S,rfl,R,?_⟩;unfold zbM at q
 cases hf:fe ρ S with
 |bad=>rwa[hf]at q|exc c S1=>rw[hf]at q;exact fun w' a b=>q σ w' a b|ok d S1=>
  rw[hf]at q;intro p o w' a b e t;exact q _ (w'.addAs p o (.slot i)) (a.own e t) (b.trans (zbR e))
def zt2(hN:X.N.Nodup)(hi:X.N[i]?=some x)(J:Loc X.env.scope x)(he:PE X e (tE cl E fe))(hs:swapsWith e (some (.Name x pos')) pos.line X.env=pure false)(hf:X.fn x=true\/X.env.scope.names.lookup x=some .local):PS X (.Assign [.Name x pos'] e pos) (tS cl E own (zbM i false fe)):=
 PS.imp (zqK hN hi J he hs hf) fun _ _ _ q=>zyE q
def zmt(hN:X.N.Nodup)(hi:X.N[i]?=some x)(J:Loc X.env.scope x)(he:PE X e (tN cl E fe))(hs:swapsWith e (some (.Name x pos')) pos.line X.env=pure false)(hf:X.fn x=true\/X.env.scope.names.lookup x=some .local):PS X (.Assign [.Name x pos'] e pos) (tS cl E own (zbM i true fe)):=
 PS.imp (zqK hN hi J he hs hf) fun _ _ _ q=>zwo q
def zt1(he:PE X e (tE cl E fe))(hs:swapsWith e none pos.line X.env=pure false):PS X (.Expr e pos) (tS cl E own (zkn fe)):=by
 refine PS.imp (zfO he hs) ?_;rintro f σ H ⟨B,w,ρ,S,rfl,R,q⟩;refine⟨B,w,ρ,S,rfl,R,?_⟩;unfold zkn at q
 cases hf:fe ρ S with
 |bad=>rwa[hf]at q|exc c S1=>rw[hf]at q;exact fun w' a b=>q σ w' a b|ok d S1=>rw[hf]at q;exact fun v w' a b _=>q σ w' a b
def ztY(he:PE X e (tE cl E fe)):PS X (.Return (some e) pos) (tS cl E false (zaK fe)):=by
 refine PS.imp (zm1 he) ?_;rintro f σ H ⟨B,w,ρ,S,rfl,R,q⟩;refine⟨B,w,ρ,S,rfl,R,?_⟩;unfold zaK at q
 cases hf:fe ρ S with
 |bad=>rwa[hf]at q|exc c S1=>rw[hf]at q;exact fun w' a b=>q σ w' a b|ok d S1=>rw[hf]at q;exact fun v w' a b h'=>q v w' a.wd b h'
def zry(he:PE X e (tN cl E fe)):PS X (.Return (some e) pos) (tS cl E true (zaK fe)):=by
 refine PS.imp (zm1 he) ?_;rintro h σ H ⟨B,w,ρ,S,rfl,R,q⟩;refine⟨B,w,ρ,S,rfl,R,?_⟩;unfold zaK at q
 cases hf:fe ρ S with
 |bad=>rwa[hf]at q|exc c S1=>rw[hf]at q;exact fun w' a b=>q σ w' a b|ok d S1=>
  rw[hf]at q;intro p o w' a b f t;have g:=zbR (w:=w') (p:=p) (o:=o) (r:=.slot 0) f;exact q (.ref p) (w'.addAs p o (.slot 0)) (Rel.own (i:=0) a f t).wd (b.trans g) ⟨p,o,0,rfl,if_pos rfl,zat,t.up g⟩
def zrx(hN:X.N[i]?=some x)(hv:Vis X.env.scope x)(hd:(x==("__debug__":Str))=false)(hcd:(x==("__classdict__":Str))=false):PS X (.Return (some (.Name x pos')) pos) (tS cl E true (zik i)):=by
 refine PS.imp (zm1 (zaQ hN hv hd hcd)) ?_;rintro c σ H ⟨B,w,ρ,S,rfl,R,q⟩;unfold zik at q;split at q
 ·rename_i d hd;obtain⟨v,b,a,o,rfl,h1,h2,t⟩:=R.slots i true d hd;exact⟨_,b,q _ w R.wd (Fut.refl _) ⟨a,o,i,rfl,h1,h2,t⟩⟩
 ·exact q.elim
def zxp(J:PT X c (tTr cl E fc))(U:PSs X a (tS cl E own f))(hb:PSs X b (tS cl E own g)):PS X (.If c a b pos) (tS cl E own (sIf fc f g)):=by
 refine PS.imp (zxG J U hb) ?_;rintro l σ H ⟨B,w,ρ,S,rfl,R,q⟩;refine⟨B,w,ρ,S,rfl,R,?_⟩;unfold sIf at q
 cases hg:fc ρ S with
 |bad=>rwa[hg]at q|exc c S1=>rw[hg]at q;exact fun w' j k=>q σ w' j k|ok d S1=>
  rw[hg]at q;dsimp only at q ⊢
  cases hb:isB d with
  |none=>rw[hb]at q;exact q.elim|some b=>
   rw[hb]at q;intro e h i
   cases b with
   |true=>exact zq2 ⟨B,e,ρ,S1,rfl,h,zjj.up i q⟩|false=>exact zq3 ⟨B,e,ρ,S1,rfl,h,zjj.up i q⟩
end
def zl4(i:Nat)(fe:Fe):Fs:=fun ρ S=>match ρ[i]? with
 |some (some (true,.lst l))=>(match fe ρ S with
  |.ok d S'=>if zax l.length then .nx (ρ.set i (some (true,.lst (l++[d])))) S' else .bad
  |.exc c S'=>.ex c ρ S'|.bad=>.bad)
 |_=>.bad
section
variable{X:Cx}{cl:Cf}{E:St->XK}{own:Bool}{e:Expr}{fe:Fe}{pos pos':Pos}
def zdN(h:zax n=true):n<sizeLine:=Nat.lt_of_le_of_lt (yag h) (by decide)
def Rel.list(R:Rel cl B σ w ρ S)(h:ρ[i]?=some (some (true,.lst l))):∃a xs,σ[i]?=some (some (.ref a))/\w.ow a=some (.slot i)/\w.H a=some (.lst xs)/\Shds cl w xs l:=by
 obtain⟨v,b,a,o,rfl,h1,h2,t⟩:=R.slots i true _ h
 cases t with
 |lst t=>exact⟨a,_,b,h1,h2,t⟩
def zt3(hN:X.N[i]?=some x)(hv:Vis X.env.scope x)(hd:(x==("__debug__":Str))=false)(hcd:(x==("__classdict__":Str))=false)(he:PE X e (tE cl E fe))
  (af:zbb e=true) (J:(ap.endLine==cp.line)=true):PS X (.Expr (.Call (.Attribute (.Name x pos') "append" ap) [e] [] cp) pos) (tS cl E own (zl4 i fe)):=by
 refine PS.imp (zfO (znh (es:=[]) ybM ycG ycH zfQ (zaQ hN hv hd hcd) (zbg he zcx (zaG af)) (hfew:=zga (by simp[af]) (by simp)) (ai:=J) (hs:=zaG af) (ao:=rfl))) ?_;rintro r σ H ⟨B,w,ρ,S,rfl,R,q⟩;unfold zl4 at q;split at q
 ·rename_i l o;obtain⟨a,xs,m,h1,h2,t⟩:=R.list o;refine⟨_,m,.inl ⟨rfl,_,SqL.of h2⟩,B,w,ρ,S,rfl,R,?_⟩
  cases hf:fe ρ S with
  |bad=>rwa[hf]at q|exc c S1=>rw[hf]at q;exact fun w' h n=>q σ w' h n|ok d S1=>
   rw[hf]at q;intro v w' h n h';dsimp only at q
   cases j:zax l.length with
   |false=>rw[j,if_neg (by decide)]at q;exact q.elim
   |true=>
    rw[j,if_pos rfl]at q;obtain⟨p,b,g,f,k,t'⟩:=h.list o;rw[m]at g;cases g;refine⟨a,b,v,rfl,rfl,k,by rw[t'.length];exact zdN j,?_⟩;exact q σ (w'.mut a (.lst (b++[v]))) (h.mut (d0:=.non) m f (.lst (t'.append (.cons h' .nil)))) (n.trans (zeZ (by rw[f];exact yaI _)))
 ·exact q.elim
end
end S2
namespace L2
open PySem PySem.Spec PyProof.Rows
section
variable{prog:Program}{w:World}{A:Around}{E:Z5}{s:Shared}
def zoP{it t:Addr}{j:Nat}{vs:Array Value}{v:Value}{Q:Z5}(st:s.heap.IsTupleIter it t j)(J:s.heap.IsTuple t vs)(e:vs[j]?=some v)
  (q:∀h',h'.IsTupleIter it t (j+1)->Heap.SameBut it s.heap h'->Q v {s with heap:=h'}):wpAny (model prog w) A (Builtin.SmallTypes.nextOf (.ref it)) Q E s:=by
 obtain⟨b,g1,c1,d1⟩:=id st;obtain⟨a,g2,_,c,d2⟩:=J;unfold Builtin.SmallTypes.nextOf;refine yaa (yaU (name:=Str.ofString "__next__") st.typeIs ybV (yaL ybV st.typeIs F.entry_tuple_iterator_next ?_ (F.args_tuple_iterator_next_1 _)));show wpAny _ _ (field (.ref it) 0 >>= _) _ _ s;refine yaa (ybk g1 d1 (x:=.ref t) rfl ?_);show wpAny _ _ (if(Value.ref t==Value.none)=true then _ else _) _ _ s;rw[if_neg (show ¬ ((Value.ref t==Value.none)=true)from fun z=>ybg z)];show wpAny _ _ (field (.ref it) 1 >>= _) _ _ s;refine yaa (ybk g1 d1 (x:=.int j 0) rfl ?_);show wpAny _ _ (seqItems? (.ref t) >>= _) _ _ s;refine yaa (yb4 g2 d2 ?_);simp only[yaQ,e];refine yaa (yc6 g1 d1 (by simp) (yaf ⟨v,rfl,yaf (q _ ?_ (Heap.SameBut.update ..))⟩));refine⟨_,yb0 _ g1 (yda (ybq d1 _)),(ydA ..).trans c1,?_⟩;rw[ybq d1];simp[rawInt]
def zrl{it t:Addr}{j:Nat}{vs:Array Value}{Q:Z5}(hh:A.handled=none)(st:s.heap.IsTupleIter it t j)(J:s.heap.IsTuple t vs)(e:vs[j]?=none)
  (q:∀h' x,Heap.ExtBut it s.heap h'->(∃o,h'.get? x=some o/\o.cls=.type "StopIteration")->E (.ref x) {s with heap:=h'}):wpAny (model prog w) A (Builtin.SmallTypes.nextOf (.ref it)) Q E s:=by
 obtain⟨c,g1,c1,d1⟩:=id st;obtain⟨b,g2,_,d,d2⟩:=J;unfold Builtin.SmallTypes.nextOf;refine yaa (yaU (name:=Str.ofString "__next__") st.typeIs ybV (yaL ybV st.typeIs F.entry_tuple_iterator_next ?_ (F.args_tuple_iterator_next_1 _)));show wpAny _ _ (field (.ref it) 0 >>= _) _ _ s;refine yaa (ybk g1 d1 (x:=.ref t) rfl ?_);show wpAny _ _ (if(Value.ref t==Value.none)=true then _ else _) _ _ s;rw[if_neg (show ¬ ((Value.ref t==Value.none)=true)from fun z=>ybg z)];show wpAny _ _ (field (.ref it) 1 >>= _) _ _ s;refine yaa (ybk g1 d1 (x:=.int j 0) rfl ?_);show wpAny _ _ (seqItems? (.ref t) >>= _) _ _ s;refine yaa (yb4 g2 d2 ?_);simp only[yaQ,e];refine yaa (ycY (yaa (yc6 g1 d1 (by simp) ?_)));show wpAny _ _ (newExc (.type "StopIteration") [] >>= _) _ _ _;refine yaa ?_;simp only[newExc,newTuple];refine yaa (yaX ?_ (by size_fits));refine yaa (m:=firstArgMember _ _) (ybQ (a:=Value.none) ?_ ?_)
 ·first|rfl|(simp only[firstArgMember];rfl)
 refine yaX ?_ (by size_fits);simp only[raiseNew];refine yaa (wpAny_handled ?_)
 first|rw[show A.in1.handled=none from hh]|rw[hh]
 refine yaa (yaf (wpAny_throw (q _ _ (((Heap.SameBut.update ..).extBut.push _).push _) ⟨_,yam _ rfl,rfl⟩)))
def zog(hh:A.handled=none)(it t:Addr)(ne:t≠it)(vs:Array Value):Draws prog w A it [it,t] vs.size (fun j v=>vs[j]?=some v) (fun j h=>h.IsTupleIter it t j/\h.IsTuple t vs)where
 live:=fun _ _ st=>by obtain⟨⟨o,a,_⟩,_⟩:=st;exact⟨o,a⟩
 frame:=fun _ _ _ st hk=>⟨st.1.at fun o e=>hk it (by simp) o e,by obtain⟨o,a,r⟩:=st.2;exact⟨o,hk t (by simp) o a,r⟩⟩
 item:=fun j s Q E d st f=>zoP st.1 st.2 (v:=vs[j]) (by simp[d]) fun h' b c=>f _ h' s.toks (by simp[d]) ⟨b,by obtain⟨o,a,r⟩:=st.2;exact⟨o,(c.2 t ne).trans a,r⟩⟩ c
 done:=fun s Q E st g=>zrl hh st.1 st.2 (by simp) g
end
section
variable{X:Cx}{pins:Z3}{σ:St}{H:Hp}{s:Shared}
def Inv.turnedL{t':Nat}{h':Heap}{ch:List Addr}(I:Inv X pins σ H s)(k:∀b o,b ∉ ch->s.heap.get? b=some o->h'.get? b=some o)(hf:∀b∈ch,zoG X pins H b):Inv X pins σ H {s with heap:=h',toks:=t'}:=by
 have d:∀b u,H b=some u->b ∉ ch:=fun b u e z=>by rw[(hf b z).1]at e;cases e
 refine I.step (g':=s.gens) (d':=s.drawn) (ch:=ch) (fun b hb=>?_) (fun b o _ _ a e _=>k b o a e) (fun b o _ _ a e _=>⟨o.slots,k b o a e⟩) (fun _ _ _ _ n=>n) (fun b o a e=>⟨o,k b o a e⟩) (fun _ _ e=>e) (fun _ _ _ e=>e) (fun b ps e=>⟨#[],by rw[e];simp⟩) (fun m hm=>?_) (fun b u e=>?_) I.bare
 ·obtain⟨j,f1,f2,i,h,g⟩:=hf b hb;exact⟨i,f1,h,g⟩
 ·obtain⟨o,es,ep,f,r⟩:=hm;exact⟨o,es,ep,k _ o (fun z=>(hf _ z).2.1 rfl) f,r⟩
 ·refine(I.hok b u e).stay (fun c v a q=>k c v ?_ q) (fun _ q=>q) fun _ _ q=>q
  rcases a with z|z
  ·rw[z];exact d b u e
  ·exact d c _ z
end
end L2
namespace S2
open PySem PySem.Spec PyProof.Rows L2
structure ItOk(cl:Cf)(w:Wd)(J:It)(ds:List D):Prop where
 go:∀w',Fut w w'->∀i,i<ds.length->J.go i w'.H
 stop:∀w',Fut w w'->J.stop ds.length w'.H
 yld:∀w',Fut w w'->∀i d x H',ds[i]?=some d->J.yld i w'.H x H'->∃w'',w''.H=H'/\Grow w' w''/\Shd cl w'' x d
noncomputable abbrev Fi:=Env->Sto->Out (List D)
noncomputable def tI(cl:Cf)(E:St->XK)(f:Fi):TI:=fun σ H a=>∃B w ρ S,w.H=H/\Rel cl B σ w ρ S/\match f ρ S with
 |.ok ds S'=>∀J w',Rel cl B σ w' ρ S'->Fut w w'->ItOk cl w' J ds->a J w'.H|.exc c S'=>∀w',Rel cl B σ w' ρ S'->Fut w w'->E σ (.ref (cl c)) none w'.H|.bad=>False
def PI.imp(h:PI X tg it t)(i:∀σ H Q,t' σ H Q->t σ H Q):PI X tg it t':=fun pins s σ H Q I q=>h pins s σ H Q I (i _ _ _ q)
set_option genInjectivity true in
inductive Tg where|one (i:Nat)|tup (is:List Nat)
noncomputable def zfe:List Nat->List D->Env->Option Env
 |[],[],ρ=>some ρ|i::is,d::ds,ρ=>zfe is ds (ρ.set i (some (false,d)))|_,_,_=>none
noncomputable def Tg.put:Tg->Env->D->Option Env
 |.one i,ρ,d=>some (ρ.set i (some (false,d)))|.tup is,ρ,.tup ds=>zfe is ds ρ|.tup _,_,_=>none
noncomputable def tG(cl:Cf)(n:Nat)(tg:Tg):TG:=fun v σ H Q=>∃B w ρ S d b,w.H=H/\Rel cl B σ w ρ S/\Shd cl w v d/\tg.put ρ d=some b/\∀a,a.length=σ.length->a.drop n=σ.drop n->Rel cl B a w b S->Q a w.H
def PG.imp(h:PG X tg t)(i:∀v σ H Q,t' v σ H Q->t v σ H Q):PG X tg t':=fun pins s σ H v u Q I r q=>h pins s σ H v u Q I r (i _ _ _ _ q)
def zfr(tg:Tg)(body:Fs):List D->Env->Sto->Fo
 |[],ρ,S=>.nx ρ S|d::ds,ρ,S=>match tg.put ρ d with
  |none=>.bad|some b=>match body b S with
   |.nx a S'=>zfr tg body ds a S'|.ct a S'=>zfr tg body ds a S'|.bk a S'=>.nx a S'|o=>o
noncomputable def zjq(tg:Tg)(it:Fi)(body:Fs):Fs:=fun ρ S=>match it ρ S with
 |.ok ds S'=>zfr tg body ds ρ S'|.exc c S'=>.ex c ρ S'|.bad=>.bad
section
variable{X:Cx}{cl:Cf}{E:St->XK}{own:Bool}{e iter tg:Expr}{body:List Stmt}{fb:Fs}{fi:Fi}{fc:Fe}{t:Tg}{pos:Pos}
theorem zk2{α:Type}{l:List α}{a:α}(h:i<n):(l.set i a).drop n=l.drop n:=by
 refine ybC fun k=>?_
 rw[ybF,ybF,ya4 (by omega)]
def zuf(J:i<n)(hN:X.N.Nodup)(hi:X.N[i]?=some x)(U:Loc X.env.scope x)(hf:X.fn x=true\/X.env.scope.names.lookup x=some .local):PG X (.Name x pos) (tG cl n (.one i)):=by
 refine PG.imp (znd hN hi U hf) ?_;rintro v σ H Q ⟨B,w,ρ,S,d,a,rfl,R,h,b,q⟩;cases b;exact q _ (yaS ..) (zk2 J) (R.put h)
noncomputable def tGs(cl:Cf)(n:Nat)(is:List Nat):TGs:=fun vs σ H Q=>∃B w ρ S ds b,w.H=H/\Rel cl B σ w ρ S/\Shds cl w vs ds/\zfe is ds ρ=some b/\∀a,a.length=σ.length->a.drop n=σ.drop n->Rel cl B a w b S->Q a w.H
def zrS:PGs X [] (tGs cl n []):=by
 intro pins s σ H vs us Q I r h;obtain⟨B,w,ρ,S,ds,b,rfl,R,hs,a,q⟩:=h
 cases hs with
 |nil=>
  cases a;exact zsn pins s σ w.H [] us Q I r ⟨rfl,q σ rfl rfl R⟩
 |cons _ _=>cases a
def zoY(J:i<n)(hN:X.N.Nodup)(hi:X.N[i]?=some x)(U:Loc X.env.scope x)(hf:X.fn x=true\/X.env.scope.names.lookup x=some .local)(h2:PGs X es (tGs cl n is)):PGs X (.Name x pos::es) (tGs cl n (i::is)):=by
 intro pins s σ H vs us Q I r h;obtain⟨B,w,ρ,S,ds,b,rfl,R,hs,c,q⟩:=h;refine zpj (znd hN hi U hf) h2 rfl pins s σ w.H vs us Q I r ?_
 cases hs with
 |nil=>cases c|cons h t=>
  rename_i v d vs ds;exact⟨v,vs,rfl,B,w,_,S,ds,b,rfl,R.put h,t,c,fun a e e2=>q a (e.trans (yaS ..)) (e2.trans (zk2 J))⟩
def zue(hc:X.calm=true)(h:PGs X es (tGs cl n is))(U:(assignEach es X.env).length=is.length)(J:(assignEach es X.env).findIdx? (·.1)=none):PG X (.Tuple es k pos) (tG cl n (.tup is)):=by
 refine PG.imp (zuO hc h U J) ?_;rintro v σ H Q ⟨B,w,ρ,S,d,b,rfl,R,h,c,q⟩
 cases h with
 |tup e k r=>
  have g:∀(is:List Nat) (ds:List D) (ρ b:Env),zfe is ds ρ=some b->ds.length=is.length:=by
   intro is
   induction is with
   |nil=>intro ds ρ b h;cases ds with
    |nil=>rfl|cons _ _=>cases h
   |cons i is f=>intro ds ρ b h;cases ds with
    |nil=>cases h|cons d ds=>rw[yap,yap,f ds _ _ h]
  rename_i a xs ds;refine⟨a,xs,rfl,SqT.of e,by rw[r.length];exact g is ds ρ b c,B,w,ρ,S,ds,b,rfl,R,r,c,q⟩
 |_=>cases c
theorem zt0(U:PassesOwn (model X.prog X.w) X.A X.env X.xe)(hc:X.calm=true)(hi:PI X tg iter (tI cl E fi))(hg:PG X tg (tG cl n t))(hb:PSs X body (tS cl E own fb))(hs:∀x,foldedSetIterable iter X.env x=pure x):PS X (.For tg iter body [] pos) (tS cl E own (zjq t fi fb)):=by
 refine PS.imp (zuK U hc hi hg hb hs) ?_;rintro I σ H ⟨B,w,ρ,S,rfl,R,q⟩;refine⟨B,w,ρ,S,rfl,R,?_⟩;unfold zjq at q
 cases hf:fi ρ S with
 |bad=>rwa[hf]at q|exc c S1=>rw[hf]at q;exact fun w' M N=>q σ w' M N|ok ds S1=>
  rw[hf]at q;intro J z L F0 D;dsimp only at q;refine⟨fun i m h H'=>m=ds.length-i/\i<=ds.length/\∃b a S2,b.H=H'/\Fut z b/\Rel cl B h b a S2/\zjj cl E own B b I (zfr t fb (ds.drop i) a S2),⟨ds.length,by simp,yaR _,z,ρ,S1,rfl,Fut.refl _,L,by rw[ydw];exact zjj.up F0 q⟩,?_⟩;rintro i m v H1 ⟨rfl,hi,b,a,S2,rfl,u,G,k⟩
  by_cases f:i<ds.length
  ·obtain⟨d,hd⟩:∃d,ds[i]?=some d:=⟨ds[i],yac f⟩
   have C:ds.drop i=d::ds.drop (i+1):=by
    rw[List.drop_eq_getElem_cons f];rw[yac f]at hd;cases hd;rfl
   rw[C]at k;unfold zfr at k
   cases hp1:t.put a d with
   |none=>rw[hp1]at k;exact k.elim|some o=>
    rw[hp1]at k;dsimp only at k;refine .inr ⟨D.go b u i f,fun h H'=>i+1<=ds.length/\∃b a S2,b.H=H'/\Fut z b/\Rel cl B h b a S2/\zjj cl E own B b I (zfr t fb (ds.drop (i+1)) a S2),fun h H' h'=>⟨ds.length-(i+1),by omega,rfl,h'.1,h'.2⟩,fun x H' y=>?_⟩;obtain⟨F,rfl,g2,s2⟩:=D.yld b u i d x H' hd y;refine⟨B,F,a,S2,d,o,rfl,G.grow g2,s2,hp1,fun K _ _ R2=>⟨B,F,o,S2,rfl,R2,?_⟩⟩;have j:=zjj.up g2.fut k
    cases hb:fb o S2 with
    |bad=>rwa[hb]at j|rt d p=>rwa[hb]at j|ex c g p=>rwa[hb]at j|bk g p=>rw[hb]at j;exact fun l r s F3=>j l r s F3|nx g p=>rw[hb]at j;exact fun l r s F3=>⟨f,r,g,p,rfl,u.trans (g2.fut.trans F3),s,zjj.up F3 j⟩|ct g p=>rw[hb]at j;exact fun l r s F3=>⟨f,r,g,p,rfl,u.trans (g2.fut.trans F3),s,zjj.up F3 j⟩
  ·have e:i=ds.length:=by omega
   subst e;rw[List.drop_length]at k;exact .inl ⟨D.stop b u,k v b G (Fut.refl _)⟩
def zk1(f:Fe):Fi:=fun ρ S=>(f ρ S).bind fun d S1=>match d with|.lst l=>.ok l S1|_=>.bad
def zjQ(f:Fe):Fi:=fun ρ S=>(f ρ S).bind fun d S1=>match d with|.tup l=>.ok l S1|_=>.bad
theorem zmz(he:PE X e (tE cl E fc)):PI X tg e (tI cl E (zk1 fc)):=by
 refine PI.imp (zsm he) ?_;rintro σ H Q ⟨B,w,ρ,S,rfl,R,q⟩;refine⟨B,w,ρ,S,rfl,R,?_⟩;unfold zk1 at q
 cases hf:fc ρ S with
 |bad=>rwa[hf]at q|exc c S1=>rwa[hf]at q|ok d S1=>
  rw[hf]at q;intro v w' l m h';dsimp only[Out.bind]at q
  cases h' with
  |lst e k r=>
   rename_i a xs ds;refine⟨a,rfl,⟨xs,SqL.of e⟩,q _ w' l m ?_⟩;have n:=r.length;refine⟨fun f b i hi=>⟨xs,xs[i]'(by omega),SqL.of (b.keep _ _ e k).1,yac (by omega)⟩,fun f b=>⟨xs,SqL.of (b.keep _ _ e k).1,by omega⟩,fun f b i d x H1 hd y=>?_⟩;obtain⟨rfl,h⟩:=y;have j:=h xs (SqL.of (b.keep _ _ e k).1);obtain⟨d',g,e2⟩:=r.get j;rw[hd]at g;cases g;exact⟨f,rfl,Grow.refl _,e2.up b⟩
  |_=>exact q.elim
def zt9(he:PE X e (tE cl E fc)):PI X tg e (tI cl E (zjQ fc)):=by
 refine PI.imp (zuL he) ?_;rintro σ H Q ⟨B,w,ρ,S,rfl,R,q⟩;refine⟨B,w,ρ,S,rfl,R,?_⟩;unfold zjQ at q
 cases hf:fc ρ S with
 |bad=>rwa[hf]at q|exc c S1=>rwa[hf]at q|ok d S1=>
  rw[hf]at q;intro v w' l m h';dsimp only[Out.bind]at q
  cases h' with
  |tup e k r=>
   rename_i a xs ds;refine⟨a,rfl,⟨xs,SqT.of e⟩,q _ w' l m ?_⟩;have n:=r.length;refine⟨fun f b i hi=>⟨xs,xs[i]'(by omega),SqT.of (b.keep _ _ e k).1,yac (by omega)⟩,fun f b=>⟨xs,SqT.of (b.keep _ _ e k).1,by omega⟩,fun f b i d x H1 hd y=>?_⟩;obtain⟨rfl,h⟩:=y;have j:=h xs (SqT.of (b.keep _ _ e k).1);obtain⟨d',g,e2⟩:=r.get j;rw[hd]at g;cases g;exact⟨f,rfl,Grow.refl _,e2.up b⟩
  |_=>exact q.elim
noncomputable def zao(lo hi:Int):List D:=(List.range (hi-lo).toNat).map fun(i:Nat)=>.int (lo+i)
def zeG(f:Fe):Fi:=fun ρ S=>(zah [f] ρ S).bind fun ds S1=>match ds with|[.int j]=>if -1000000<=j/\j<=1000000 then .ok (zao 0 j) S1 else .bad|_=>.bad
def zlO(f g:Fe):Fi:=fun ρ S=>(zah [f,g] ρ S).bind fun ds S1=>match ds with|[.int i,.int j]=>if(-1000000<=i/\i<=1000000)/\-1000000<=j/\j<=1000000 then .ok (zao i j) S1 else .bad|_=>.bad
def zq1{w:Wd}{lo hi:Int}{n:Nat}(J:n=(hi-lo).toNat):ItOk cl w (Itr lo n) (zao lo hi):=by
 subst J
 have c:(zao lo hi).length=(hi-lo).toNat:=by unfold zao;rw[yae,ycr]
 refine⟨fun a e i h=>by rw[c]at h;exact h,fun a e=>by rw[c];exact yaj _,fun a e i d x H1 hd y=>?_⟩;obtain⟨rfl,rfl⟩:=y;unfold zao at hd;rw[yax]at hd
 cases b:(List.range (hi-lo).toNat)[i]? with
 |none=>rw[b]at hd;cases hd|some j=>
  rw[b]at hd;have:=(yaq.mp b).2;rw[List.getElem_range]at this;subst this;cases hd;exact⟨a,rfl,Grow.refl _,.int _⟩
theorem zrP(hg:Gl X "range")(hm:X.mg "range"=none)(J:PA X [e] (tAs cl E [fc]))(hs:starEach [e] X.env=[(false,eval e X.env)]):PI X tg (.Call (.Name "range" p) [e] [] pos) (tI cl E (zeG fc)):=by
 refine PI.imp (znc hg hm J hs) ?_;rintro σ H Q ⟨B,w,ρ,S,rfl,R,q⟩;refine⟨B,w,ρ,S,rfl,R,?_⟩;unfold zeG at q
 cases hf:zah [fc] ρ S with
 |bad=>rwa[hf]at q|exc c S1=>rwa[hf]at q|ok ds S1=>
  rw[hf]at q;intro vs w' b d h';dsimp only[Out.bind]at q;split at q
  ·rename_i ds' S' a;split at a
   ·rename_i j;split at a
    ·rename_i hb;cases a
     cases h' with
     |cons h1 h2=>
      cases h1;cases h2;exact⟨j,rfl,by omega,by omega,q _ w' b d (zq1 (by omega))⟩
    ·cases a
   ·cases a
  ·rename_i a;split at a<;>first|(split at a<;>cases a)|cases a
  ·exact q.elim
theorem zrO(hg:Gl X "range")(hm:X.mg "range"=none)(U:PA X [a,e] (tAs cl E [fa,fc]))(hs:starEach [a,e] X.env=[(false,eval a X.env),(false,eval e X.env)])(J:starEach [e] X.env=[(false,eval e X.env)]):PI X tg (.Call (.Name "range" p) [a,e] [] pos) (tI cl E (zlO fa fc)):=by
 refine PI.imp (znb hg hm U hs J) ?_;rintro σ H Q ⟨B,w,ρ,S,rfl,R,q⟩;refine⟨B,w,ρ,S,rfl,R,?_⟩;unfold zlO at q
 cases hf:zah [fa,fc] ρ S with
 |bad=>rwa[hf]at q|exc c S1=>rwa[hf]at q|ok ds S1=>
  rw[hf]at q;intro vs w' f g h';dsimp only[Out.bind]at q;split at q
  ·rename_i ds' S' b;split at b
   ·rename_i i j;split at b
    ·rename_i hb;cases b
     cases h' with
     |cons h1 h2=>
      cases h1
      cases h2 with
      |cons h2 d=>
       cases h2;cases d;exact⟨i,j,rfl,by omega,q _ w' f g (zq1 rfl)⟩
    ·cases b
   ·cases b
  ·rename_i b;split at b<;>first|(split at b<;>cases b)|cases b
  ·exact q.elim
end
noncomputable def zqf(ρ:Env)(i:Nat):Option (Bool×D):=match ρ[i]? with|some (some (false,d))=>some (false,d)|_=>none
def zbY(n:Nat)(caps:List Nat)(ρ:Env):Env:=List.replicate n none++caps.map (zqf ρ)
def zbv:Fe:=zab (.bl true)
def zaD(tg:Tg)(c elt:Fe)(aj:Env):List D->Sto->Out (List D)
 |[],S=>.ok [] S|d::ds,S=>match tg.put aj d with
  |none=>.bad|some a=>(c a S).bind fun b S1=>match isB b with
   |some true=>(elt a S1).bind fun y S2=>(zaD tg c elt aj ds S2).bind fun ys e=>.ok (y::ys) e|some false=>zaD tg c elt aj ds S1|none=>.bad
def za2(n:Nat)(tg:Tg)(it:Fi)(c elt:Fe)(caps:List Nat):Fe:=fun ρ S=>(it ρ S).bind fun ds S1=>match zaD tg c elt (zbY n caps ρ) ds S1 with
 |.ok ys S2=>if zax ys.length then .ok (.lst ys) S2 else .bad
 |_=>.bad
noncomputable abbrev noE:St->XK:=fun _ _ _ _=>False
section
variable{cl:Cf}
theorem znW{caps:List (Str×Nat)}(R:Rel cl B σ w ρ S)(W1:World' cl B1 w1 S1)(F1:Fut w w1){J:St}(U:J.length=n+caps.length)(hc:J.drop n=caps.map fun p=>(σ[p.2]?).join):
  Rel cl B1 J w1 (zbY n (caps.map (·.2)) ρ) S1 where
 wd:=W1
 len:=by unfold zbY;rw[U,yak,ya2,yae,yae]
 slots:=fun i o d h=>by
  unfold zbY at h
  by_cases hi:i<n
  ·rw[yaF (by rw[ya2];exact hi),ycb]at h
   split at h<;>cases h
  ·rw[yaA (by rw[ya2];omega),ya2,yay,yax]at h
   cases a:caps[i-n]? with
   |none=>rw[a]at h;cases h|some p=>
    rw[a]at h;have h':zqf ρ p.2=some (o,d):=Option.some.inj h;unfold zqf at h';split at h'
    ·rename_i d' hd;cases h';obtain⟨v,e,x⟩:=R.slots p.2 false d hd;refine⟨v,?_,Shd.up F1 x⟩;have:=congrArg (fun l=>l[i-n]?) hc;rw[ybF,yax,a]at this;rw[show n+(i-n)=i by omega]at this;rw[this];show some ((σ[p.2]?).join)=_;rw[e];rfl
    ·cases h'
end
section
variable{X:Cx}{cl:Cf}{E:St->XK}
theorem zra(q:tN cl E (za2 n t fi fc fe (caps.map (·.2))) σ H Q):
  zkd (tI cl E fi) (tG cl n t) (tTr cl noE fc) (tE cl noE fe) n caps σ H Q:=by
 obtain⟨B,w,ρ,S,rfl,R,q⟩:=q;refine⟨B,w,ρ,S,rfl,R,?_⟩;unfold za2 at q
 cases hf:fi ρ S with
 |bad=>rwa[hf]at q|exc c S1=>rwa[hf]at q|ok ds S1=>
  rw[hf]at q;dsimp only[Out.bind]at q;intro J k T F0 N
  cases hcd:zaD t fc fe (zbY n (caps.map (·.2)) ρ) ds S1 with
  |bad=>rw[hcd]at q;exact q.elim|exc _ _=>rw[hcd]at q;exact q.elim|ok all Sf=>
   rw[hcd]at q;dsimp only at q
   cases K:zax all.length with
   |false=>rw[K,if_neg (by decide)]at q;exact q.elim
   |true=>
    rw[K,if_pos rfl]at q;dsimp only at q;refine⟨fun i m ys u H'=>m=ds.length-i/\i<=ds.length/\u.length=n+caps.length/\u.drop n=(caps.map fun p=>(σ[p.2]?).join)/\∃j S2 es zcY,j.H=H'/\Fut k.inn j/\World' cl k.base j S2/\Shds cl j ys es/\zaD t fc fe (zbY n (caps.map (·.2)) ρ) (ds.drop i) S2=.ok zcY Sf/\es++zcY=all,⟨ds.length,by simp,yaR _,by simp[capσ],by simp[capσ],k.inn,S1,[],all,rfl,Fut.refl _,T.wd.enter,.nil,by rw[ydw];exact hcd,rfl⟩,?_⟩;rintro i m ys G H1 ⟨rfl,hi,o,s,j,S2,es,zcY,rfl,F,O,sh,a,f⟩;refine⟨?_,?_⟩
    ·rw[sh.length];refine yas ?_ (zaM K);rw[<-f,yak];omega
    have l:Fut k j:=(zcj k).trans F
    by_cases g:i<ds.length
    ·obtain⟨d,r⟩:∃d,ds[i]?=some d:=⟨ds[i],yac g⟩
     have L:ds.drop i=d::ds.drop (i+1):=by
      rw[List.drop_eq_getElem_cons g];rw[yac g]at r;cases r;rfl
     rw[L]at a;unfold zaD at a;refine .inr ⟨N.go j l i g,fun x H' y=>?_⟩;obtain⟨I,rfl,g2,s2⟩:=N.yld j l i d x H' r y;have R1:Rel cl k.base G I (zbY n (caps.map (·.2)) ρ) S2:=znW T (O.grow g2) (l.trans g2.fut) o s
     cases z:t.put (zbY n (caps.map (·.2)) ρ) d with
     |none=>rw[z]at a;cases a|some h=>
      rw[z]at a;dsimp only at a;refine⟨k.base,I,_,S2,d,h,rfl,R1,s2,z,fun Y C A R2=>⟨k.base,I,h,S2,rfl,R2,?_⟩⟩
      cases M:fc h S2 with
      |bad=>rw[M]at a;cases a|exc _ _=>rw[M]at a;cases a|ok b P=>
       rw[M]at a;dsimp only[Out.bind]at a ⊢
       cases hb:isB b with
       |none=>rw[hb]at a;cases a|some bb=>
        rw[hb]at a;intro U X F3
        cases bb with
        |false=>exact zq3 ⟨ds.length-(i+1),by omega,rfl,g,C.trans o,A.trans s,U,P,es,zcY,rfl,F.trans (g2.fut.trans F3),X.wd,sh.up (g2.fut.trans F3),a,f⟩
        |true=>
         refine zq2 ⟨k.base,U,h,P,rfl,X,?_⟩;dsimp only at a
         cases he:fe h P with
         |bad=>rw[he]at a;cases a|exc _ _=>rw[he]at a;cases a|ok Z W=>
          rw[he]at a;dsimp only at a
          cases D:zaD t fc fe (zbY n (caps.map (·.2)) ρ) (ds.drop (i+1)) W with
          |bad=>rw[D]at a;cases a|exc _ _=>rw[D]at a;cases a|ok zs S5=>
           rw[D]at a;cases a;intro v w4 R4 F4 h4;have V:=g2.fut.trans (F3.trans F4);exact⟨ds.length-(i+1),by omega,rfl,g,C.trans o,A.trans s,w4,W,es++[Z],zs,rfl,F.trans V,R4.wd,(sh.up V).append (.cons h4 .nil),D,by rw[<-f,ybB];rfl⟩
    ·have e:i=ds.length:=by omega
     subst e;rw[List.drop_length]at a;cases a;rw[yaO]at f;subst f;refine .inl ⟨N.stop j l,fun p z=>?_⟩;obtain⟨Rb,Fb⟩:=T.leave O F;exact q p (.lst ys) (k.back j) Rb (F0.trans Fb) z (.lst (sh.up (zdV O)))
end
noncomputable def zav(k:Str):List (D×D)->Option D
 |(.str x,d)::r=>if x=k then some d else zav k r
 |_=>none
noncomputable def putS(k:Str)(y:D):List (D×D)->List (D×D)
 |(.str x,d)::r=>if x=k then(.str x,y)::r else(.str x,d)::putS k y r
 |_=>[(.str k,y)]
noncomputable def dropS(k:Str):List (D×D)->List (D×D)
 |(.str x,d)::r=>if x=k then r else(.str x,d)::dropS k r
 |_=>[]
def zaB:List (D×D)->Bool
 |(.str x,_)::r=>(zav x r).isNone&&zaB r|[]=>true|_=>false
noncomputable def zgu:List (D×D)->List Str
 |(.str x,_)::r=>x::zgu r|_=>[]
section
variable{cl:Cf}{w:Wd}
def zrm(h:Top cl w o (.dic ds))(hs:zaB ds=true):∃kvs,o=.dK kvs/\ShdK cl w kvs ds:=by
 cases h with
 |dicK h=>exact⟨_,rfl,h⟩
theorem zdw(k:Str):∀{kvs:List (Key×V)}{ds:List (D×D)},ShdK cl w kvs ds->zaB ds=true->(zfo kvs (.inr k)=none/\zav k ds=none)\/∃v d,zfo kvs (.inr k)=some v/\zav k ds=some d/\Shd cl w v d
 |_,_,.nil,_=>.inl ⟨rfl,rfl⟩|_,_,.consI r t,h=>by cases h
 |_,_,.consS (x:=x) (v:=v) (d:=d) r t,h=>by
  unfold zaB at h;rw[yab]at h;unfold zav
  by_cases e:x=k
  ·subst e;rw[if_pos rfl,zcZ rfl];exact .inr ⟨v,d,rfl,rfl,r⟩
  ·rw[if_neg e,zc0 (fun z=>e (by cases z;rfl))];exact zdw k t h.2
theorem ShdK.snocS(h:Shd cl w v d):∀{kvs:List (Key×V)}{ds:List (D×D)},ShdK cl w kvs ds->zaB ds=true->zav k ds=none->ShdK cl w (kvs++[(.inr k,v)]) (putS k d ds)
 |_,_,.nil,_,_=>.consS h .nil|_,_,.consI r t,a,_=>by cases a
 |_,_,.consS (x:=x) r t,a,b=>by
  unfold zaB at a;rw[yab]at a;unfold zav at b
  by_cases e:x=k
  ·rw[if_pos e]at b;cases b
  ·rw[if_neg e]at b;unfold putS;rw[if_neg e];exact .consS r (ShdK.snocS h t a.2 b)
theorem zkK:∀{kvs:List (Key×V)},zfo kvs k=none->(kvs.map fun J=>if J.1=k then(J.1,y)else J)=kvs
 |[],_=>rfl|p::r,h=>by
  by_cases e:p.1=k
  ·rw[zcZ e]at h;cases h
  ·rw[zc0 e]at h;rw[yaw,if_neg e,zkK h]
theorem ShdK.replS(h:Shd cl w v d):∀{kvs:List (Key×V)}{ds:List (D×D)},ShdK cl w kvs ds->zaB ds=true->(zav k ds).isSome=true->ShdK cl w (kvs.map fun J=>if J.1=.inr k then(J.1,v)else J) (putS k d ds)
 |_,_,.nil,_,b=>by cases b
 |_,_,.consI r t,a,_=>by cases a
 |_,_,.consS (x:=x) (vs:=vs) r t,a,b=>by
  unfold zaB at a;rw[yab]at a;unfold zav at b;unfold putS
  by_cases e:x=k
  ·subst e;rw[if_pos rfl,yaw,if_pos rfl]
   have c:zfo vs (.inr x)=none:=(zdw x t a.2).elim (·.1) fun⟨_,_,_,z,_⟩=>by rw[z]at a;exact absurd a.1 (by simp)
   rw[zkK c];exact .consS h t
  ·rw[if_neg e]at b;rw[if_neg e,yaw,if_neg (fun z=>e (by cases z;rfl))];exact .consS r (ShdK.replS h t a.2 b)
theorem ShdK.putS(t:ShdK cl w kvs ds)(ho:zaB ds=true)(h:Shd cl w v d):ShdK cl w (zfp kvs (.inr k) v) (putS k d ds):=by
 rcases zdw k t ho with⟨h1,h2⟩|⟨a,d',h1,h2,_⟩
 ·rw[zpb v h1];exact t.snocS h ho h2
 ·unfold zfp;rw[if_pos (by rw[zfu,h1];rfl)];exact t.replS h ho (by rw[h2];rfl)
theorem zi1:∀{kvs:List (Key×V)},zfo kvs k=none->zgg kvs k=kvs
 |[],_=>rfl|p::r,h=>by
  by_cases e:p.1=k
  ·rw[zcZ e]at h;cases h
  ·rw[zc0 e]at h;unfold zgg;rw[ybI,if_pos (yaz e)];congr 1;exact zi1 h
theorem ShdK.dropS:∀{kvs:List (Key×V)}{ds:List (D×D)},ShdK cl w kvs ds->zaB ds=true->ShdK cl w (zgg kvs (.inr k)) (dropS k ds)
 |_,_,.nil,_=>.nil|_,_,.consI r t,a=>by cases a
 |_,_,.consS (x:=x) (vs:=vs) r t,a=>by
  unfold zaB at a;rw[yab]at a;unfold S2.dropS
  by_cases e:x=k
  ·subst e
   have c:zfo vs (.inr x)=none:=(zdw x t a.2).elim (·.1) fun⟨_,_,_,z,_⟩=>by rw[z]at a;exact absurd a.1 (by simp)
   rw[if_pos rfl];unfold zgg;rw[ybI,if_neg (by simp)];have:=zi1 c;unfold zgg at this;rw[this];exact t
  ·rw[if_neg e];unfold zgg;rw[ybI];split
   ·exact .consS r (ShdK.dropS t a.2)
   ·rename_i b;exact absurd (by simp[e]) b
theorem ShdK.length:∀{kvs:List (Key×V)}{ds:List (D×D)},ShdK cl w kvs ds->kvs.length=ds.length
 |_,_,.nil=>rfl|_,_,.consI r t=>by rw[yap,yap,ShdK.length t]
 |_,_,.consS r t=>by rw[yap,yap,ShdK.length t]
theorem zkP:∀{kvs:List (Key×V)}{ds:List (D×D)},ShdK cl w kvs ds->zaB ds=true->kvs.map (·.1)=(zgu ds).map Sum.inr/\(zgu ds).length=ds.length
 |_,_,.nil,_=>⟨rfl,rfl⟩|_,_,.consI r t,h=>by cases h
 |_,_,.consS r t,h=>by
  unfold zaB at h;rw[yab]at h;obtain⟨h1,h2⟩:=zkP t h.2;exact⟨by rw[yaw,h1];rfl,by show _+1=_+1;rw[h2]⟩
end
end S2
namespace ST
open PySem PySem.Spec PyProof.Rows PySem.SetTable
noncomputable def pos(m:Nat):Nat->Nat->Nat->Nat
 |0,i,_=>i|n+1,i,p=>pos m n ((i*5+1+p / 32) % (m+1)) (p / 32)
def zCi(hm:m=7):∀i,i<m+1->∀j,j<m+1->∃n,n<m+1/\pos m n i 0=j:=by
 subst hm;decide +kernel
theorem cov(hm:m=7)(J:j<m+1):∀k i p,p<32 ^ k->i<m+1->∃n,n<k+(m+1)/\pos m n i p=j
 |0,i,p,a,hi=>by
  obtain rfl:p=0:=Nat.lt_one_iff.mp a;rw[yb1];exact zCi hm i hi j J
 |k+1,i,p,a,hi=>by
  obtain⟨n,h1,h2⟩:=cov hm J k ((i*5+1+p / 32) % (m+1)) (p / 32) (Nat.div_lt_of_lt_mul (by rw[Nat.mul_comm];exact a)) (Nat.mod_lt _ (Nat.succ_pos m));exact⟨n+1,by omega,h2⟩
def zCh(hm:m=7)(J:j<m+1)(h:Int):∃n,n<13+(m+1)/\pos m n (bits h % (m+1)) (bits h)=j:=by
 refine cov hm J 13 _ _ ?_ (Nat.mod_lt _ (Nat.succ_pos m));have h1:=ydk h (show(2 ^ 64:Int)≠0 by decide);have h2:=ycO h (show(0:Int)<2 ^ 64 by decide);refine yat (m:=2 ^ 64) ?_ (by decide);unfold bits;omega
noncomputable def tb(m:Nat)(pl:Array Nat):SetTable:={mask:=m,place:=pl,dummies:=#[],finger:=0,led:=true,moves:=0,plain:=true}
def adv(m:Nat)(pl:Array Nat):Nat->Probe->Probe
 |0,p=>p|n+1,p=>adv m pl n ((tb m pl).advance p)
theorem zoC:∀(a b:Nat) (p:Probe),adv m pl (a+b) p=adv m pl b (adv m pl a p)
 |0,b,p=>by rw[yb1];rfl
 |a+1,b,p=>by rw[show a+1+b=(a+b)+1 by omega];exact zoC a b _
noncomputable def atR(m i p:Nat):Probe:={j:=i,more:=runEnd m i-i,i:=i,perturb:=p,dummy:=none}
theorem zoB(i p:Nat):∀(k j:Nat),adv m pl (k+1) {j:=j,more:=k,i:=i,perturb:=p,dummy:=none}=atR m ((i*5+1+p / 32) % (m+1)) (p / 32)
 |0,j=>rfl|k+1,j=>by
  show adv m pl (k+1) ((tb m pl).advance _)=_;rw[show(tb m pl).advance {j:=j,more:=k+1,i:=i,perturb:=p,dummy:=none}={j:=j+1,more:=k,i:=i,perturb:=p,dummy:=none} by unfold advance;rw[if_pos (Nat.succ_pos k)];rfl];exact zoB i p k (j+1)
theorem zuv:∀(n i p:Nat),∃s,s<=10*n/\(adv m pl s (atR m i p)).j=pos m n i p
 |0,i,p=>⟨0,yaj _,rfl⟩|n+1,i,p=>by
  obtain⟨s,h1,h2⟩:=zuv (m:=m) (pl:=pl) n ((i*5+1+p / 32) % (m+1)) (p / 32);refine⟨(runEnd m i-i+1)+s,by have:runEnd m i-i<=9:=by {unfold runEnd;split<;>omega};omega,?_⟩;rw[zoC];unfold atR;rw[zoB];exact h2
def zmx(j:Nat):(tb m pl).slot j=.empty\/∃i,(tb m pl).slot j=.live i/\pl[i]?=some j:=by
 unfold slot;rw[show(tb m pl).dummies=#[]from rfl,show has #[] j=false by unfold has below;rfl];dsimp only;split
 ·rename_i h;exact .inr ⟨_,rfl,eq_of_beq h⟩
 ·exact .inl rfl
def way(hm:m=7)(J:pl.size<=m)(h:Int):∃N,N<10*turns m/\(tb m pl).slot (adv m pl N ((tb m pl).probeStart h)).j=.empty:=by
 obtain⟨j,b,c⟩:∃j,j<m+1/\j ∉ pl.toList:=Classical.byContradiction fun a=>by
  have:=yb9 (List.nodup_range (n:=m+1)) fun j b=>Classical.byContradiction fun z=>a ⟨j,yaV.mp b,z⟩
  rw[ycr,yaH]at this;omega
 obtain⟨n,h1,h2⟩:=zCh hm b h;obtain⟨s,f,d⟩:=zuv (m:=m) (pl:=pl) n (bits h % (m+1)) (bits h);refine⟨s,by unfold turns;omega,?_⟩;show(tb m pl).slot (adv m pl s (atR m (bits h % (m+1)) (bits h))).j=_;rw[d,h2]
 rcases zmx (m:=m) (pl:=pl) j with e|⟨i,_,e⟩
 ·exact e
 ·exact absurd (ybs.mpr (Array.mem_of_getElem? e)) c
theorem zvQ:∀(fuel N:Nat) (p:Probe),N<fuel->(tb m pl).slot (adv m pl N p).j=.empty →
  (∃j,probe.go (tb m pl) F h fuel p=some (.empty j p.dummy))\/∃j i U J,J<N/\U.dummy=p.dummy/\(tb m pl).slot j=.live i/\pl[i]?=some j/\(tb m pl).slot (adv m pl J U).j=.empty/\probe.go (tb m pl) F h fuel p=some (.candidate j i U)
 |0,N,p,d,_=>absurd d (Nat.not_lt_zero N)|fuel+1,N,p,d,c=>by
  unfold probe.go
  have hd:((tb m pl).advance p).dummy=p.dummy:=by unfold advance;split<;>rfl
  rcases zmx (m:=m) (pl:=pl) p.j with e|⟨i,e,hi⟩
  ·rw[e];exact .inl ⟨_,rfl⟩
  ·rw[e];dsimp only
   cases N with
   |zero=>rw[show(tb m pl).slot (adv m pl 0 p).j=(tb m pl).slot p.j from rfl,e]at c;cases c|succ N=>
    split
    ·exact .inr ⟨_,i,_,N,ycd N,hd,e,hi,c,rfl⟩
    ·rcases zvQ fuel N _ (Nat.lt_of_succ_lt_succ d) c with⟨j,z⟩|⟨j,a,b,J,k,g,f⟩
     ·exact .inl ⟨j,by rw[z,hd]⟩
     ·exact .inr ⟨j,a,b,J,ybe k,g.trans hd,f⟩
def sr(H:List Int->Int)(m:Nat)(pl:Array Nat)(ks:Array (List Int))(k:List Int):Nat->Probe->Option (Option Nat)
 |0,_=>none|f+1,p=>match(tb m pl).probe (fun i=>((ks[i]?).map H).getD 0) (H k) p with
  |some (.empty j none)=>some (some j)|some (.candidate j i nx)=>(match ks[i]? with
   |some k'=>if k'=k then some none else if(tb m pl).slot j=.live i then sr H m pl ks k f nx else none
   |none=>none)
  |_=>none
theorem zqC(J:pl.size=ks.size):∀(f N:Nat) (p:Probe),N<f->N<10*turns m->p.dummy=none->(tb m pl).slot (adv m pl N p).j=.empty->∃r,sr H m pl ks k f p=some r/\(r=none->k∈ks)
 |0,N,p,h,_,_,_=>absurd h (Nat.not_lt_zero N)|f+1,N,p,h,h2,hd,l=>by
  unfold sr SetTable.probe
  rcases zvQ (m:=m) (pl:=pl) (F:=fun i=>((ks[i]?).map H).getD 0) (h:=H k) (10*turns (tb m pl).mask) N p h2 l with⟨j,e⟩|⟨j,i,g,n,o,d,c,b,a,e⟩
  ·rw[e,hd];exact⟨_,rfl,fun z=>nomatch z⟩
  ·rw[e];have hi:i<ks.size:=J ▸ (ybv.mp b).1;dsimp only;rw[yba hi];dsimp only
   by_cases hk:ks[i]=k
   ·rw[if_pos hk];exact⟨_,rfl,fun _=>hk ▸ Array.getElem_mem hi⟩
   ·rw[if_neg hk,if_pos c];exact zqC J f n g (by omega) (by omega) (d.trans hd) a
section
variable{prog:Program}{w:World}{A:Around}{E:Z5}{s:Shared}
noncomputable abbrev TK(prog:Program)(w:World)(h:Heap)(k:List Int)(a:Addr):Prop:=IsTupleKey (intKind prog w) h k a
noncomputable abbrev th(prog:Program)(w:World)(k:List Int):Int:=tupleKeyHash (intKind prog w) k
def TK.ints(x:TK prog w h k a):∃o aa n,h.get? a=some o/\o.cls=.type "tuple" /\ o.data=.seq aa n/\∀v∈aa.toList,∃i t,v=Value.int i t:=by
 obtain⟨o,aa,n,e,c,d,hi⟩:=x;refine⟨o,aa,n,e,c,d,?_⟩;generalize aa.toList=l at hi
 induction hi with
 |nil=>intro v hv;cases hv| @cons k v ks vs h1 _ f=>
  intro b hv
  rcases yau.mp hv with rfl|hv
  ·obtain⟨t,e⟩:=ydx (k:=k) (v:=b) h1;exact⟨k,t,e⟩
  ·exact f b hv
def ziR{M:Model}{aa:Array Value}{f:Value->Option Bool×Unit->Sem (ForInStep (Option Bool×Unit))}{g:Option Bool×Unit->Sem Bool}{Q:Bool->Shared->Prop}(hv:∀v∈aa.toList,∃i t,v=Value.int i t)
  (hf:∀i t J,J (.yield (none,())) s->wpAny M A (f (.int i t) (none,())) J E s) (hg:wpAny M A (g (none,())) Q E s):wpAny M A (forIn aa (none,()) f >>= g) Q E s:=by
 refine yaa ?_;rw[<-Array.forIn_toList];refine wpAny_forIn_list _ (fun zcY r s'=>r=(none,())/\s'=s/\∀v∈zcY,∃i t,v=Value.int i t) _ ?_ ?_ _ _ ⟨rfl,rfl,hv⟩
 ·rintro v zcY _ s' ⟨rfl,rfl,a⟩;obtain⟨i,t,rfl⟩:=a v yan;exact hf i t _ ⟨rfl,rfl,fun u b=>a u (yal _ b)⟩
 ·rintro _ s' ⟨rfl,rfl,_⟩;exact hg
def zkF(x:TK prog w s.heap k a)(J:Q false s):wpAny M A (ofAClassStatement 8 (.ref a)) Q E s:=by
 obtain⟨o,aa,n,e,c,d,hv⟩:=x.ints;unfold ofAClassStatement;refine yaa (ycm (T:="tuple") ⟨o,e,c⟩ (yaa (yaf ?_)));simp only[Bool.not_true,yaG,ybL];refine yaa (yb4 e d ?_);refine ziR hv (fun i t b q=>?_) (yaf J);rw[show ofAClassStatement 7 (Value.int i t)=pure false by unfold ofAClassStatement;rfl];exact yaa (yaf (yaf q))
def zqi(x:TK prog w s.heap k a)(J:Q true s):wpAny (model prog w) A (hashByValue 8 (.ref a)) Q E s:=by
 obtain⟨o,aa,n,e,c,d,hv⟩:=x.ints;unfold hashByValue;refine yaa (ycn x.typeIs F.slot_tuple_hash.lookup (yaa (yb4 e d ?_)));refine ziR hv (fun i t b q=>?_) (yaf J);rw[show hashByValue 7 (Value.int i t)=pure true by unfold hashByValue;rfl];exact yaa (yaf (yaf q))
def zpy(x:TK prog w s.heap k a)(l:List Value)(J:∀v∈l,∃b k',v=.ref b/\TK prog w s.heap k' b)(U:Q false s):wpAny (model prog w) A (searchCouldBeSeen (.ref a) l) Q E s:=by
 unfold searchCouldBeSeen;refine yaa (wpAny_forIn_list _ (fun zcY r s'=>r.1=none/\s'=s/\∀v∈zcY,∃b k',v=.ref b/\TK prog w s.heap k' b) _ ?_ ?_ _ _ ⟨rfl,rfl,J⟩)
 ·rintro v zcY r s' ⟨e,rfl,c⟩;obtain⟨b,k',rfl,y⟩:=c v yan;have tl:∀u∈zcY,∃b k',u=.ref b/\TK prog w s'.heap k' b:=fun u d=>c u (yal _ d)
  dsimp only;split
  ·exact yaf ⟨rfl,rfl,tl⟩
  ·exact yaa (wpAny_eqIsQuiet_tuple x (yaa (wpAny_eqIsQuiet_tuple y (yaa (zkF x (yaa (zkF y (yaf ⟨rfl,rfl,tl⟩))))))))
 ·rintro⟨_,r⟩ s' ⟨rfl,rfl,_⟩;exact yaf U
def zvn{α:Type}{u k:Sem α}{Q:α->Shared->Prop}(hm:∀{J:Bool->Shared->Prop},J false s->wpAny M A m J E s)(hk:wpAny M A k Q E s):wpAny M A (if c=true then m >>= fun b=>if b=true then u else k else k) Q E s:=by
 split
 ·exact yaa (hm hk)
 ·exact hk
theorem zpV(hd:t.dummies=#[]):∀(f:Nat) (p:Probe),probe.go t F h f p=probe.go (tb t.mask t.place) F h f p
 |0,p=>rfl|f+1,p=>by
  have es:t.slot p.j=(tb t.mask t.place).slot p.j:=by unfold slot;rw[hd];rfl
  have a:t.advance p=(tb t.mask t.place).advance p:=rfl;unfold probe.go;rw[es,a,zpV hd f,show t.advance {p with dummy:=some p.j}=(tb t.mask t.place).advance {p with dummy:=some p.j} from rfl,zpV hd f]
noncomputable abbrev fE(prog:Program)(w:World)(p:List Int×Addr):Int×Value:=(th prog w p.1,.ref p.2)
theorem zmD{a:Addr}{o:Obj}{J:Array (List Int×Addr)}{ep:Nat}{t:SetTable}(ho:s.heap.get? a=some o)(hd:o.data=.set (J.map (fE prog w)) ep t)(hf:t.fits J.size=true)(aa:t.dummies=#[])(a3:t.mask % 2=1)(hu:A.units<cLine)
  {k:List Int}{x:Addr} (a5:∀p∈J,TK prog w s.heap p.1 p.2) (hx:TK prog w s.heap k x) {Q:SetFound->Shared->Prop}:
  ∀(fuel:Nat) (p:Probe) (U:Option Probe) (r:Option Nat),sr (th prog w) t.mask t.place (J.map (·.1)) k fuel p=some r->U.getD (t.probeStart (th prog w k))=p->Q (match r with|none=>.there none|some j=>.free j false) s->wpAny (model prog w) A (setSearchFrom a (.ref x) (th prog w k) true fuel U) Q E s
 |0,p,U,r,h,_,_=>by cases h
 |fuel+1,p,U,r,h,c,g=>by
  have b:t.fits (J.map (fE prog w)).size=true:=by rw[ybN];exact hf
  unfold setSearchFrom;refine yaa (yb7 ho hd b ?_);dsimp only;rw[show t.gaveWay=false by unfold SetTable.gaveWay;rw[a3];rfl,c];simp only[yaG,ybL]
  have ep:∀F:Nat->Int,(∀i,F i=(((J.map (·.1))[i]?).map (th prog w)).getD 0)->t.probe F (th prog w k) p=(tb t.mask t.place).probe (fun i=>(((J.map (·.1))[i]?).map (th prog w)).getD 0) (th prog w k) p:=fun F n=>by
   rw[show F=fun i=>(((J.map (·.1))[i]?).map (th prog w)).getD 0 from funext n];exact zpV aa _ _
  rw[ep _ fun i=>by
   show(((J.map (fE prog w))[i]?).map (·.1)).getD 0=_;rw[ycP,ycP]
   cases J[i]?<;>rfl]
  unfold sr at h;split at h
  ·rename_i j e;rw[e];cases h;exact yaf g
  ·rename_i j i nx e;rw[e];rw[ycP]at h
   cases hi:J[i]? with
   |none=>rw[hi]at h;cases h|some q=>
    rw[hi]at h;dsimp only[Option.map]at h
    have a4:(J.map (fE prog w))[i]?=some (th prog w q.1,.ref q.2):=by rw[ycP,hi];rfl
    have m:=a5 q (Array.mem_of_getElem? hi);refine zvn (zpy hx _ fun v hv=>?_) ?_
    ·obtain⟨u,f,ev⟩:=yah.mp hv;obtain⟨z,l,rfl⟩:=Array.mem_map.mp (Array.mem_filter.mp (ybs.mp f)).1;exact⟨z.2,z.1,ev.symm,a5 z l⟩
    ·rw[a4];refine yaa (yaZ (wpAny_eqBool_tuple hu m hx (yaa (yb7 ho hd b ?_))));dsimp only
     by_cases hk:q.1=k
     ·rw[if_pos hk]at h;cases h;rw[yaz hk];exact yaf g
     ·rw[if_neg hk]at h;split at h
      ·rename_i hs
       have d:t.slot j=.live i:=by rw[<-hs];unfold slot;rw[aa];rfl
       rw[yaB hk,show t.sameMemory t.moves t.mask=some true by unfold SetTable.sameMemory;simp];simp only[Bool.and_false,yaG,ybL,yb2,d,a4];refine yaa (wpAny_isSame_ref_self (yaa (yaf ?_)));exact zmD ho hd hf aa a3 hu a5 hx fuel nx _ r h rfl g
      ·cases h
  ·cases h
end
theorem zcz{α:Type}(xs:Array α)(p:Nat)(x:α):(insertAt xs p x).size=xs.size+1:=by
 simp[insertAt];omega
def znU{α:Type}{xs:Array α}{x y:α}(h:y∈(insertAt xs p x).toList):y=x\/y∈xs.toList:=by
 have e:(insertAt xs p x).toList=xs.toList.take p++x::xs.toList.drop p:=by simp[insertAt,List.extract_eq_take_drop,yby]
 rw[e]at h
 rcases ybb.mp h with h|h
 ·exact .inr (List.mem_of_mem_take h)
 ·exact(yau.mp h).imp_right List.mem_of_mem_drop
noncomputable abbrev SS:=Nat×Array Nat×Array (List Int)
def ztu(H:List Int->Int)(st:SS)(k:List Int):Option SS:=match sr H st.1 st.2.1 st.2.2 k 100000 ((tb st.1 st.2.1).probeStart (H k))with
 |some none=>some st|some (some j)=>some (st.1,insertAt st.2.1 (below st.2.1 j) j,insertAt st.2.2 (below st.2.1 j) k)|none=>none
structure Gd(st:SS)(n:Nat):Prop where
 m:st.1=7
 z:st.2.1.size=st.2.2.size
 n:st.2.2.size<=n
def zjY{H:List Int->Int}{st:SS}{n:Nat}{k:List Int}(g:Gd st n)(U:n<=3):∃J,ztu H st k=some J/\Gd J (n+1)/\(∀y∈J.2.2,y=k\/y∈st.2.2)/\(k ∉ st.2.2->J.2.2.size=st.2.2.size+1):=by
 obtain⟨m,pl,ks⟩:=st;obtain⟨g1,g2,g3⟩:=g;dsimp only at g1 g2 g3;obtain⟨N,h1,h2⟩:=way (pl:=pl) g1 (by omega) (H k)
 have ht:10*turns m<=100000:=by subst g1;decide
 obtain⟨r,e,c⟩:=zqC (H:=H) (ks:=ks) (k:=k) g2 100000 N _ (by omega) h1 rfl h2;unfold ztu;dsimp only;rw[e]
 cases r with
 |none=>exact⟨_,rfl,⟨g1,g2,Nat.le_succ_of_le g3⟩,fun y a=>.inr a,fun z=>absurd (c rfl) z⟩|some j=>
  have im:∀y∈insertAt ks (below pl j) k,y=k\/y∈ks:=fun y a=>(znU (ybs.mpr a)).imp_right ybs.mp
  have b:(insertAt ks (below pl j) k).size=ks.size+1:=zcz ..;exact⟨_,rfl,⟨g1,by show(insertAt pl _ j).size=(insertAt ks _ k).size;rw[zcz,zcz,g2],by show(insertAt ks _ k).size<=n+1;omega⟩,im,fun _=>b⟩
section
variable{prog:Program}{w:World}{A:Around}{E:Z5}{s:Shared}
def TK.keep(x:TK prog w h k b)(e:∀o,h.get? b=some o->(∀es ep t,o.data≠.set es ep t)->(∀vs,o.data≠.fields vs)->h'.get? b=some o):TK prog w h' k b:=by
 obtain⟨o',items,n,a,c,hd,hi⟩:=x;exact⟨o',items,n,e _ a (fun _ _ _ z=>by rw[hd]at z;cases z) (fun _ z=>by rw[hd]at z;cases z),c,hd,hi⟩
noncomputable def zl1(prog:Program)(w:World)(h:Heap)(a:Addr)(st:SS):Prop:=
 ∃(o:Obj) (b:Array (List Int×Addr)) (ep:Nat) (t:SetTable),h.get? a=some o/\o.ExactSet/\o.data=.set (b.map (fE prog w)) ep t/\t.mask=st.1/\t.place=st.2.1/\t.dummies=#[]/\t.fits b.size=true/\b.map (·.1)=st.2.2/\∀p∈b,TK prog w h p.1 p.2
def putS{h:Heap}{a:Addr}{o:Obj}{es es':Array (Int×Value)}{ep:Nat}{t t':SetTable}(ho:h.get? a=some o)(J:o.ExactSet)(hd:o.data=.set es ep t):
  ∃o',(h.update a (Obj.putSet es' t')).get? a=some o'/\o'.ExactSet/\o'.data=.set es' (ep+1) t':=by
 refine⟨{o with data:=.set es' (ep+1) t'},?_,J,rfl⟩;rw[yb0 _ ho (by rw[putSet_of es' t' hd];rfl),putSet_of es' t' hd]
def TK.but{es ep t}(x:TK prog w h k b)(ho:h.get? a=some o)(hd:o.data=.set es ep t)(J:Heap.SameBut a h h'):TK prog w h' k b:=
 x.keep fun o' q n _=>(J.2 b (by rintro rfl;rw[ho]at q;cases q;exact n _ _ _ hd)).trans q
def zs2{t:SetTable}{n:Nat}(h:t.fits n=true):t.place.size=n/\t.fill<=t.mask:=by
 unfold SetTable.fits at h;rw[yab]at h;exact⟨eq_of_beq h.1,yag h.2⟩
def znV{α β:Type}(f:α->β)(xs:Array α)(p:Nat)(x:α):insertAt (xs.map f) p (f x)=(insertAt xs p x).map f:=by
 simp[insertAt,Array.map_extract]
theorem zrU{a:Addr}{st U:SS}{n:Nat}{k:List Int}{x:Addr}{Q:Bool->Shared->Prop}(S:zl1 prog w s.heap a st)(g:Gd st n)(hn:n<=3)(hx:TK prog w s.heap k x)(hu:A.units<cLine)(J:ztu (th prog w) st k=some U)
  (h:∀h' c,Heap.SameBut a s.heap h'->zl1 prog w h' a U->Q c {s with heap:=h',toks:=s.toks+(k.length+1)}):wpAny (model prog w) A (setAdd a (.ref x)) Q E s:=by
 unfold setAdd;refine yaZ (yaa (wpAny_pyHash_tuple hu hx ?_));obtain⟨o,b,ep,t,C,hex,hd,H,G,d,hf,i,r⟩:=id S;obtain⟨N,_⟩:=zs2 hf;obtain⟨m,pl,ks⟩:=st;dsimp only at H G i;subst H G;obtain⟨g1,g2,g3⟩:=g;dsimp only at g1 g2 g3
 have hsz:b.size=ks.size:=by rw[<-i,ybN]
 generalize q:({s with toks:=s.toks+(k.length+1)}:Shared)=s1
 have hh:s1.heap=s.heap:=by rw[<-q]
 have f:s1.heap.get? a=some o:=hh ▸ C
 have y:t.fits (b.map (fE prog w)).size=true:=by rw[ybN];exact hf
 unfold setAddHashed;refine yaZ ?_;unfold setAddHashedIn;refine yaa (yb7 f hd y ?_);dsimp only;rw[show byScan (.ref x) (b.map (fE prog w))=false by unfold byScan;rfl];refine yaa ?_;unfold ztu at J;dsimp only at J;split at J
 ·rename_i e;cases J;refine zmD f hd hf d (by rw[g1]) hu (fun p J=>hh ▸ r p J) (hh ▸ hx) 100000 _ none none (i ▸ e) rfl ?_;subst q;exact yaf (h s.heap false ⟨rfl,fun _ _=>rfl⟩ S)
 ·rename_i j e;refine zmD f hd hf d (by rw[g1]) hu (fun p J=>hh ▸ r p J) (hh ▸ hx) 100000 _ none (some j) (i ▸ e) rfl ?_
  have l:t.put j=({t with place:=insertAt t.place (below t.place j) j},below t.place j):=by
   unfold SetTable.put;rw[d,show has #[] j=false by unfold has below;rfl];simp[d]
  generalize Z:below t.place j=P at J l
  have fin:∀(t':SetTable),t'.mask=t.mask->t'.dummies=#[]->t'.place=insertAt t.place P j →
    wpAny (model prog w) A (do
     storeSet a (insertAt (b.map (fE prog w)) P (th prog w k,.ref x)) t'
     if(!false&&t'.tooFull)=true then setRelay a (grown ((b.map (fE prog w)).size+1))
     return true) Q E s1:=by
   intro t' F L D;have X:=znV (fE prog w) b P (k,x);have O:=znV (fun p:List Int×Addr=>p.1) b P (k,x);have M:(insertAt b P (k,x)).size=b.size+1:=zcz ..;rw[show((th prog w k,Value.ref x):Int×Value)=fE prog w (k,x)from rfl,X,ybN];rw[i]at O
   have B:∀{h'},Heap.SameBut a s.heap h'->∀p∈insertAt b P (k,x),TK prog w h' p.1 p.2:=fun I p J=>by
    rcases znU (ybs.mpr J)with rfl|z
    ·exact hx.but C hd I
    ·exact(r p (ybs.mp z)).but C hd I
   generalize insertAt b P (k,x)=K at*
   have v:t'.fill=b.size+1:=by unfold SetTable.fill;rw[L,D,zcz,N];rfl
   have R:t'.fits K.size=true:=by
    unfold SetTable.fits;rw[v,D,zcz,N,M,F,ybJ];exact yaz (by omega)
   have Y:t'.fits (K.map (fE prog w)).size=true:=by rw[ybN];exact R
   refine yaa (wpAny_storeSet_of f hd ?_ (by rw[ybN,M];exact yas (show b.size+1<=18 by omega) (by decide)));obtain⟨W,V,T,d1⟩:=putS (es':=K.map (fE prog w)) (t':=t') C hex hd;have u:Heap.SameBut a s.heap (s.heap.update a (Obj.putSet (K.map (fE prog w)) t')):=Heap.SameBut.update ..;subst q;rw[show t'.tooFull=false by unfold SetTable.tooFull;rw[v,F];exact yaB (by omega)];cases J;exact yaa (yaf (yaf (h _ true u ⟨W,K,_,t',V,T,d1,F,D,L,R,O.symm,B u⟩)))
  refine yaa (yb7 f hd y ?_);dsimp only;rw[l];dsimp only
  cases af:t.plain with
  |true=>exact yaa (zqi (hh ▸ hx) (fin _ rfl d rfl))|false=>exact yaa (yaf (fin _ rfl d rfl))
 ·cases J
end
end ST
namespace SI
open PySem
noncomputable def byT(w:World):Bool:=w.params.followText "set-order"
end SI
namespace PySem
open PyProof.Rows
section
variable{prog:Program}{w:World}{A:Around}{E:Z5}{s:Shared}
def zhR(a:Value){Q₁:Z5}
  (h:Q₁ (.ref s.heap.objs.size) {s with heap:=s.heap.push {cls:=.type "set",dict:=none,data:=.set #[] 0 (.fresh 0 0 (!SI.byT w))}}):
  codeAny (model prog w) A (.call (.builtin "set.__new__") ⟨[.type "set",a],[]⟩) (wants Q₁ E) s:=by
 refine codeAny_of_tree ?_;show wpAny _ A.in1 (do checkBuiltinCall "set.__new__" ⟨[.type "set",a],[]⟩;again (.builtin "set.__new__" ⟨[.type "set",a],[]⟩)) _ _ s;refine yaa (ybQ (F.newCall_set_1 a) (yaf ⟨ydg F.plain_set_new _,ybR F.entry_set_new ?_⟩));rw[ybu F.plain_set_new _];unfold Builtin.«set.__new__» Builtin.Frozenset.newClass;have b:=sub_set_self;obtain⟨c,g,d,tk,os⟩:=s;dsimp only
 wp_walk
 refine wpAny_askSetting (yaf ?_);dsimp only;simp only[newObj];refine yaa (wpAny_alloc (yaf ?_));exact yaf h
def zfl{l:Addr}{T:String}{ol it:Obj}{Inv:Heap->Prop}{Q:Z5}(U:s.heap.get? l=some ol)(J:ol.cls=.type T)(a3:isSubtype (.type T) (.type "set")=pure false)(a4:isSubtype (.type T) (.type "frozenset")=pure false)(a5:(Value.type T==Value.type "dict")=false)
  (hit:∀{G:Heap}{A:Around}{E Q:Z5},G.get? l=some ol->Q (.ref G.objs.size) {s with heap:=G.push it}->wpAny (model prog w) A (pyIter (.ref l)) Q E {s with heap:=G})
  (lp:∀{G:Heap}{R:Result->Shared->Prop},G.get? s.heap.objs.size=some {cls:=.type "set",dict:=none,data:=.set #[] 0 (.fresh 0 0 (!SI.byT w))}->(∀b o,s.heap.get? b=some o->G.get? b=some o)->G.objs.size=s.heap.objs.size+1 →
   (∀h' tk,(∀b o,s.heap.get? b=some o->h'.get? b=some o)->Inv h'->R (.ok (.ret .none)) {s with heap:=h',toks:=tk})->codeAny (model prog w) A.in1.in1 (.builtin "set.update.loop" ⟨[.ref s.heap.objs.size,.ref G.objs.size],[]⟩) R {s with heap:=G.push it})
  (h:∀h' tk,(∀b o,s.heap.get? b=some o->h'.get? b=some o)->Inv h'->Q (.ref s.heap.objs.size) {s with heap:=h',toks:=tk}):
  wpAny (model prog w) A (call (.type "set") [.ref l]) Q E s:=by
 obtain⟨K,tl,y⟩:=yco.mro;have n:=yco.made;have x:=yco.sub;have h1:=yco.notType;have h2:=yco.canCreate;have D:=F.typeCall_set_1 (.ref l);refine wpAny_call (codeAny_of_tree ?_);show wpAny _ _ (callAny (.type "set") _) _ _ _;refine yaf ⟨Code.quiet_builtin _ (by decide +kernel),ybR F.entry_type_call ?_⟩;rw[Around.under_plain (weight_type_call_type "set" [.ref l] []) rfl]
 repeat (any_goals (first|assumption|wp_step))
 refine yc8 (zhR (.ref l) (E:=E) (Q₁:=fun obj c=>obj=.ref s.heap.objs.size/\c={s with heap:=s.heap.push {cls:=.type "set",dict:=none,data:=.set #[] 0 (.fresh 0 0 (!SI.byT w))}}) ⟨rfl,rfl⟩) fun r c f=>?_
 match r,f with
 |.error e,f=>exact f|.ok (.ret obj),f=>
  obtain⟨rfl,rfl⟩:=f;generalize t:s.heap.push {cls:=.type "set",dict:=none,data:=.set #[] 0 (.fresh 0 0 (!SI.byT w))}=G;have z:G.get? s.heap.objs.size=some {cls:=.type "set",dict:=none,data:=.set #[] 0 (.fresh 0 0 (!SI.byT w))}:=t ▸ yam _ rfl;have d:∀b o,s.heap.get? b=some o->G.get? b=some o:=fun b o e=>t ▸ yad _ e
  have q:G.objs.size=s.heap.objs.size+1:=by rw[<-t,ybc]
  have I:Shared.TypeIs {s with heap:=G} (.ref s.heap.objs.size) "set":=⟨_,z,rfl⟩;have C:=yco.init.lookup;have H:=yco.init.bind (.ref s.heap.objs.size)
  repeat (any_goals (first|assumption|wp_step))
  refine yc8 (codeAny_call_builtin (R:=wants (fun r s2=>r=.none/\∃h' tk,s2={s with heap:=h',toks:=tk}/\(∀b o,s.heap.get? b=some o->h'.get? b=some o)/\Inv h') E) yco.init.plain F.entry_set_init (check_set_init_1 I ?_)) ?_
  ·have g:=d l _ U;obtain⟨u,k,m,j⟩:=ol;simp only at J;subst J;unfold Builtin.«set.__init__» noKeywords Builtin.Frozenset.updateFrom;generalize p:pyIter=PI
   wp_walk
   subst p;refine hit g (yaa (wpAny_runValue (lp z d q fun h' tk kp i=>?_)));refine yaf ?_;show wpAny _ _ (ret Value.none) _ _ _;exact yaf ⟨rfl,h',tk,rfl,kp,i⟩
  ·intro B s2 a
   match B,a with
   |.error e,a=>exact a|.ok (.ret v),a=>
    obtain⟨rfl,h',tk,rfl,kp,i⟩:=a
    repeat (any_goals (first|assumption|wp_step))
    exact h h' tk kp i
end
end PySem
namespace ST
open PySem PySem.Spec PyProof.Rows PySem.SetTable
noncomputable def st0:SS:=(7,#[],#[])
def zl7(H:List Int->Int)(ks:Z2):SS:=ks.foldl (fun st k=>(ztu H st k).getD st) st0
def zhH(ks:Z2)(k:List Int):zl7 H (ks++[k])=(ztu H (zl7 H ks) k).getD (zl7 H ks):=ydB ..
theorem zkX{H:List Int->Int}{keys:Z2}(J:keys.length<=4):∀i,i<=keys.length->Gd (zl7 H (keys.take i)) i
 |0,_=>⟨rfl,rfl,yaj _⟩|i+1,hi=>by
  have g:=zkX (H:=H) J i (by omega);obtain⟨a,e,g',_⟩:=zjY (H:=H) (k:=keys[i]) g (by omega);rw[yc2,yac (show i<keys.length by omega),Option.toList_some,zhH,e];exact g'
section
variable{prog:Program}{w:World}{A:Around}{R:Result->Shared->Prop}{s:Shared}
theorem zl1.keep{h h':Heap}{a it:Addr}{o:Obj}{vs:Array Value}{st:SS}(x:zl1 prog w h a st)(ho:h.get? it=some o)(hd:o.data=.fields vs)(e:∀b o,b≠it->h.get? b=some o->h'.get? b=some o):zl1 prog w h' a st/\a≠it:=by
 obtain⟨o',f,ep,t,i,e2,g,u,s,r,q,m,l⟩:=x
 have c:a≠it:=by rintro rfl;rw[ho]at i;cases i;rw[hd]at g;cases g
 exact⟨⟨o',f,ep,t,e a o' c i,e2,g,u,s,r,q,m,fun p k=>(l p k).keep fun j d _ n=>e p.2 j (by rintro rfl;rw[ho]at d;cases d;exact n _ hd) d⟩,c⟩
theorem zoM(hh:A.in1.handled=none)(hu:A.in1.units<cLine)(hlen:aa.size=keys.length)(h5:keys.length<=4)(J:S≠ax)(U:ax≠I):
  ∀(k i:Nat) (s:Shared),keys.length-i=k->i<=keys.length->s.heap.IsTupleIter I ax i->s.heap.IsTuple ax aa->(∀(j:Nat) (v:Value),aa[j]?=some v->∃b,v=.ref b/\TK prog w s.heap (keys.getD j []) b) →
   zl1 prog w s.heap S (zl7 (th prog w) (keys.take i)) →
   (∀h' tk,(∀b o,b≠S->b≠I->s.heap.get? b=some o->h'.get? b=some o)->zl1 prog w h' S (zl7 (th prog w) keys)->R (.ok (.ret .none)) {s with heap:=h',toks:=tk}) →
   codeAny (model prog w) A (.builtin "set.update.loop" ⟨[.ref S,.ref I],[]⟩) R s:=by
 intro k
 induction k with
 |zero=>
  intro i s hk hi it B h ts O
  have e:i=keys.length:=by omega
  refine ybR F.entry_set_update_loop ?_;rw[ybu ycQ _];show wpAny _ A.in1 (pyNext (.ref I) >>= _) _ _ s;refine yaa (wpAny_pyNext_tuple_end hh it B (ybU (by rw[hlen,e];exact yaj _)) fun h' C=>?_);obtain⟨o,E,e2,D⟩:=id it;rw[e,ycx]at ts;exact yaf (O h' s.toks (fun b o _ hb q=>C b o hb q) (ts.keep E D fun b o hb q=>C b o hb q).1)
 |succ k T=>
  intro i s hk hi it B h ts O
  have l:i<keys.length:=by omega
  have f:i<aa.size:=by omega
  refine ybR F.entry_set_update_loop ?_;rw[ybu ycQ _];show wpAny _ A.in1 (pyNext (.ref I) >>= _) _ _ s;refine yaa (wpAny_pyNext_tuple_item it B (x:=aa[i]) (yba f) fun h1 M d=>?_);obtain⟨o,E,e2,D⟩:=id it;obtain⟨p,N⟩:=ts.keep (h':=h1) E D fun b o hb q=>(d.2 b hb).trans q
  obtain⟨b,C,K⟩:=h i aa[i] (yba f);have t:∀{k' a},TK prog w s.heap k' a->TK prog w h1 k' a:=fun {k' a} z=>z.keep fun o2 q _ n=>(d.2 a (by rintro rfl;rw[E]at q;cases q;exact n _ D)).trans q
  rw[C];show wpAny _ A.in1 (holding [Value.ref b] (setAdd S (.ref b)) >>= _) _ _ _
  have Y:keys.take i++[keys.getD i []]=keys.take (i+1):=by
   rw[yc2,yac l,yar,yac l];rfl
  have g:=zkX (H:=th prog w) h5 i hi;obtain⟨L,es,_⟩:=zjY (H:=th prog w) (k:=keys.getD i []) g (by omega);refine yaa (yaZ (zrU (s:={s with heap:=h1}) p g (by omega) (t K) hu es fun h2 r c m=>?_))
  have P:L=zl7 (th prog w) (keys.take (i+1)):=by rw[<-Y,zhH,es];rfl
  rw[P]at m;obtain⟨Z,W,X,tS,f1,f2,V,_⟩:=p;refine yaf ⟨ydg ycQ _,?_⟩
  refine T (i+1) _ (by omega) l (M.at fun o q=>(c.2 I (Ne.symm N)).trans q) ((B.at fun o q=>(d.2 ax U).trans q).at fun o q=>(c.2 ax (Ne.symm J)).trans q) (fun j v hv=>?_) m fun h' tk kp G=>
   O h' tk (fun a o y u q=>kp a o y u ((c.2 a y).trans ((d.2 a u).trans q))) G
  obtain⟨a,Q,z⟩:=h j v hv;exact⟨a,Q,(t z).but f1 V c⟩
end
end ST
namespace PySem
open PyProof.Rows
section
variable{prog:Program}{w:World}{A:Around}{E:Z5}{s:Shared}
theorem zgl{l:Addr}{aa:Array Value}{keys:Z2}{Q:Z5}(hh:A.handled=none)(hu:A.units+8<cLine)(U:s.heap.IsTuple l aa)(hlen:aa.size=keys.length)(h5:keys.length<=4)
  (J:∀(j:Nat) (v:Value),aa[j]?=some v->∃b,v=.ref b/\ST.TK prog w s.heap (keys.getD j []) b)
  (h:∀h' tk,(∀b o,s.heap.get? b=some o->h'.get? b=some o)->ST.zl1 prog w h' s.heap.objs.size (ST.zl7 (ST.th prog w) keys)->Q (.ref s.heap.objs.size) {s with heap:=h',toks:=tk}):
  wpAny (model prog w) A (call (.type "set") [.ref l]) Q E s:=by
 obtain⟨ol,d,f,nl,i⟩:=U;have g:l<s.heap.objs.size:=yao d;refine zfl d f F.sub_tuple_set F.sub_tuple_frozenset (by decide) (fun e q=>ych ⟨_,e,f,nl,i⟩ q) (Inv:=fun h'=>ST.zl1 prog w h' s.heap.objs.size (ST.zl7 (ST.th prog w) keys)) (fun {G R} p c k r=>?_) h;have a:∀b o,G.get? b=some o->(G.push {cls:=.type "tuple_iterator",data:=.fields #[.ref l,.int 0 0]}).get? b=some o:=fun b o e=>yad _ e
 have m:G.IsTuple l aa:=⟨_,c l _ d,f,nl,i⟩
 refine ST.zoM (aa:=aa) (keys:=keys) (ax:=l) (by simp[hh]) (show A.units+3<cLine by omega) hlen h5 (ya6 g) (by rw[k];exact yav (ybe g)) keys.length 0 _ (by omega) (yaR _) ⟨_,yam _ rfl,rfl,rfl⟩ (m.at fun o e=>a l o e) (fun j v hv=>?_)
  ⟨_,#[],0,.fresh 0 0 (!SI.byT w),a _ _ p,⟨rfl,rfl,rfl⟩,by rw[Array.map_empty],rfl,rfl,rfl,rfl,by rw[Array.map_empty];rfl,fun x n=>absurd n (Array.not_mem_empty x)⟩ fun h' tk kp ts=>?_
 ·obtain⟨b,t,z⟩:=J j v hv;exact⟨b,t,z.keep fun o e _ _=>a b o (c b o e)⟩
 ·refine r h' tk (fun b o e=>kp b o (yav (yao e)) ?_ (a b o (c b o e))) ts;rw[k];exact yav (ybe (yao e))
end
end PySem
namespace ST
open PySem
noncomputable def H0(k:List Int):Int:=reduceHash (Builtin.Tuple.tupleHashOf (k.map hashInt))
def zw9:th prog w=H0:=rfl
def ddN(ks:Z2):Nat:=(zl7 H0 ks).2.2.size
def zyr(J:ks.length<=4)(nd:ks.Nodup):ddN ks=ks.length:=by
 have key:∀i,i<=ks.length->(zl7 H0 (ks.take i)).2.2.size=i/\∀y∈(zl7 H0 (ks.take i)).2.2,y∈ks.take i:=fun i=>by
  induction i with
  |zero=>exact fun _=>⟨rfl,fun y b=>absurd b (Array.not_mem_empty y)⟩|succ i f=>
   intro hi;obtain⟨h1,h2⟩:=f (by omega);have g:=zkX (H:=H0) J i (by omega);obtain⟨d,e,_,m,z⟩:=zjY (H:=H0) (k:=ks[i]) g (by omega)
   have c:ks.take (i+1)=ks.take i++[ks[i]]:=by rw[yc2,yac (show i<ks.length by omega)];rfl
   have a:(ks.take i++[ks[i]]).Nodup:=c ▸ List.Nodup.sublist (List.take_sublist ..) nd;rw[c,zhH,e];refine⟨(z fun q=>(yc3.mp a).2.2 _ (h2 _ q) _ (yaD.mpr rfl) rfl).trans (by rw[h1]),fun y b=>?_⟩
   rcases m y b with rfl|q
   ·exact ybb.mpr (.inr (yaD.mpr rfl))
   ·exact ybb.mpr (.inl (h2 y q))
 have:=(key ks.length (yaj _)).1;rwa[ycx]at this
def zys(J:ks.length<=4):ddN ks<=ks.length:=by
 have:=(zkX (H:=H0) J ks.length (yaj _)).n;rwa[ycx]at this
def t2:ddN [[0,0,0,0],[0,0,0,0]]=1:=by decide +kernel
end ST
namespace L2
open PySem PySem.Spec PyProof.Rows
section
variable{X:Cx}{a b c:Expr}{ta tb tc:TE}{pos:Pos}
def zjT:zdl X (.builtin "isinstance") (fun xs H Q=>∃x t c k,xs=[x,.ty c]/\TyOf X.K H x t/\PySem.W.kitOne X.K t (.type c)=some k/\Q (.bl k) H):=by
 intro pins s σ H xs us Q I r h;obtain⟨x,t,c,k,rfl,ty,e,q⟩:=h
 cases r with
 |cons r1 a=>
  cases a with
  |cons b r3=>
   cases r3;cases (show _=Value.type c from b);exact znO I r1 ty e fun tk=>⟨.bl k,H,I.tok tk,rfl,q⟩
def zhn(bs:List Bool):((List.range bs.length).all fun i=>(bs[i]?).getD true)=bs.all id:=by
 rw[ydl,ybj,ybj];constructor
 ·intro h b hb;obtain⟨i,hi,e⟩:=List.mem_iff_getElem.mp hb;have:=h i (yaV.mpr hi);rwa[yac hi,e]at this
 ·intro h i hi;have a:=yaV.mp hi;rw[yac a];exact h _ (ybK a)
def zjU(J:X.calm=true):zdl X (.builtin "all") (fun xs H Q=>∃(p:Addr) (bs:List Bool),xs=[.ref p]/\SqL X.K H p (bs.map V.bl)/\Q (.bl (bs.all id)) H):=by
 intro pins s σ H xs us Q I r h;obtain⟨p,bs,rfl,m,q⟩:=h;obtain⟨u,rfl,k⟩:=zeN r;cases k;obtain⟨aa,f,pl,y⟩:=I.list m;have c:=pl.isList
 have a:p<s.heap.objs.size:=by obtain⟨_,e,_⟩:=c;exact yao e
 have j:aa.length=bs.length:=by have:=f.length;rw[yae]at this;exact this.symm
 refine call_all_walk (ycZ c ?_);refine⟨s.heap.objs.size,[s.heap.objs.size,p],[s.heap.objs.size],aa.toArray.size,_,_,fun i=>(bs[i]?).getD true,rfl,Walks.list (A:=X.A.in1) (I.ok.hd J) _ p (yav a) aa.toArray,⟨⟨_,yam _ rfl,rfl,rfl⟩,c.push _⟩,fun i v s' w z t n=>?_,fun h' tk hk=>?_⟩
 ·have hv:aa[i]?=some v:=by simpa using t
  have hi:i<bs.length:=by rw[<-j];exact(yaq.mp hv).1
  obtain⟨u,g,l⟩:=f.get (i:=i) (x:=.bl bs[i]) (by rw[yax,yac hi];rfl);rw[hv]at g;cases g;cases (show v=Value.bool bs[i]from l);refine ybd ?_;have d:w ((bs[i]?).getD true) s':=n;rwa[yac hi]at d
 ·rw[yai,j,zhn];refine⟨.bl _,H,I.kept (t':=tk) fun b o e=>?_,rfl,q⟩;exact hk b o (fun hm=>by rw[yaD.mp hm]at e;exact ybi _ (yao e)) (yad _ e)
theorem zgN:∀{k:List Int}{aa:List Value},Vals (k.map V.int) aa->ItemsAre (intKind prog w) k aa
 |[],_,.nil=>.nil|i::k,_,.cons r t=>by
  obtain⟨t',rfl⟩:=r;exact .cons (by show Value.isInt i (.int i t')=true;simp[Value.isInt]) (zgN t)
def Inv.key(I:Inv X pins σ H s)(h:SqT X.K H p (k.map V.int)):ST.TK prog w s.heap k p:=by
 obtain⟨aa,a,⟨o,e,c,n,d⟩,_⟩:=I.tuple h;exact⟨o,_,n,e,c,d,zgN a⟩
noncomputable def zjf(K:PySem.W.Frag)(H:Hp)(ys:List V)(keys:Z2):Prop:=Paired (fun(v:V) (k:List Int)=>∃b,v=.ref b/\SqT K H b (k.map V.int)) ys keys
theorem zjf.get{K:PySem.W.Frag}{H:Hp}:∀{ys:List V}{keys:Z2}{aa:List Value},zjf K H ys keys->Vals ys aa->∀(j:Nat) (v:Value),aa[j]?=some v->∃b,v=.ref b/\SqT K H b ((keys.getD j []).map V.int)
 |_,_,_,.nil,.nil,j,v,e=>by simp at e
 |_,_,_,.cons ⟨b,c,hb⟩ t,.cons r a,0,v,e=>by
  subst c;cases r;simp at e;subst e;exact⟨b,rfl,by simpa using hb⟩
 |_,_,_,.cons _ t,.cons _ a,j+1,v,e=>by
  obtain⟨b,h1,h2⟩:=zjf.get t a j v (by simpa using e);exact⟨b,h1,by simpa using h2⟩
noncomputable def zlb(a:Addr)(c:Nat)(h:Heap):Prop:=∃o es ep t,h.get? a=some o/\o.ExactSet/\o.data=.set es ep t/\t.fits es.size=true/\es.size=c
def zgz(U:X.calm=true)(J:X.A.units+8<cLine):zdl X (.type "set") (fun xs H Q=>∃(p:Addr) (ys:List V) (keys:Z2),xs=[.ref p]/\SqT X.K H p ys/\zjf X.K H ys keys/\keys.length<=4 ∧
  ∀l,H l=none->Q (.ref l) (upd H l (.ext (zlb l (ST.ddN keys))))):=by
 intro pins s σ H xs us Q I r h;obtain⟨p,ys,keys,rfl,n,hk,a,q⟩:=h;obtain⟨u,rfl,i⟩:=zeN r;cases i;obtain⟨aa,c,pl,z⟩:=I.tuple n
 have w:aa.toArray.size=keys.length:=by rw[yai,<-c.length];exact hk.length
 refine zgl (I.ok.hd U) J (show s.heap.IsTuple p aa.toArray from pl) w a (fun j v hv=>?_) fun h' tk kp ts=>?_
 ·obtain⟨b,e,hb⟩:=hk.get c j v (by simpa using hv);exact⟨b,e,I.key hb⟩
 ·obtain⟨o,m,ep,t,g,e2,y,_,_,_,x,d,_⟩:=ts;rw[ST.zw9]at d;refine⟨.ref s.heap.objs.size,_,I.laid (t':=tk) (o:=.ext (zlb s.heap.objs.size (ST.ddN keys))) kp (yaj _) ?_,rfl,q _ (I.hok.fresh (yaj _))⟩;exact⟨⟨o,_,ep,t,g,e2,y,by rw[ybN];exact x,by rw[ybN];unfold ST.ddN;rw[<-d,ybN]⟩,⟨o,g⟩,fun h1 h2 ⟨o,es,ep,t,f1,f⟩ k=>⟨o,es,ep,t,k o f1,f⟩⟩
theorem zhT:zdl X (.builtin "len") (fun xs H Q=>∃a c,xs=[.ref a]/\H a=some (.ext (zlb a c))/\c<=1000/\Q (.int c) H):=by
 intro pins s σ H xs us Q I r h;obtain⟨a,c,rfl,e,j,q⟩:=h;obtain⟨u,rfl,d⟩:=zeN r;cases d;obtain⟨⟨o,es,ep,t,i,e2,g,f,b⟩,_⟩:=I.hok a _ e;refine call_len_set i e2 g f ?_ ?_
 ·have:(es.size:Int)<=1000:=by rw[b];omega
  exact Int.lt_of_le_of_lt this (by decide)
 ·exact⟨.int c,H,I.tok _,⟨_,by rw[b]⟩,q⟩
def zpw:OpR X (binaryOp .Add) (fun x y H Q=>∃(a b:Addr) (ys:List V),x=.ref a/\y=.ref b/\SqT X.K H a []/\SqT X.K H b ys/\Q (.ref b) H):=by
 intro pins s σ H x y v u Q I p o h;obtain⟨a,b,ys,rfl,rfl,w,hb,q⟩:=h;cases p;cases o;obtain⟨aa,r1,r,_⟩:=I.tuple w;obtain⟨c,z,p2,_⟩:=I.tuple hb;cases r1;obtain⟨⟨cls,dd,data,m⟩,j,k,n,hd⟩:=id r;obtain⟨⟨l,i,data2,g⟩,d,f,t,e⟩:=id p2;simp only at k hd f e;subst k hd f e
 exact concat_meets ⟨_,j,rfl⟩ ⟨_,d,rfl⟩ noFill_tuple_add seq_tuple_add ycX ycM (ycC _ _)
  (tuple_addW0 a b ([]:List Value).toArray c.toArray n t dd i m g (by rfl)) ⟨j,d,⟨.ref b,H,I,rfl,q⟩⟩
end
end L2
namespace PySem
open PySem.Spec PyProof.Rows
theorem zd0:fillsNumberSlot (.type "tuple") "mul"=pure false:=
 fillsNumberSlot_seq (id:="tuple.__mul__") (r:=some (.builtin "tuple.__rmul__")) ydc.lookup (by decide +kernel) F.slot_tuple_rmul.lookup (by decide +kernel)
theorem zgG:seqRepeat? (.type "tuple")=pure (some (.builtin "tuple.__mul__")):=by
 have a:=seqSlot_of (T:="tuple") (name:="__mul__") (id:="tuple.__mul__") ydc.lookup (by decide +kernel);have e2:=seqSlot_of (T:="tuple") (name:="__rmul__") (id:="tuple.__rmul__") F.slot_tuple_rmul.lookup (by decide +kernel);unfold seqRepeat?;rw[a,e2];rfl
def zfi(a:Int)(t:Tok)(l:Addr)(o:Obj)(U:o.cls=.type "tuple")(J:o.data=.seq aa n):
  Meets (Builtin.«int.__rmul__» ⟨[.int a t,.ref l],[]⟩) (fun _ R s=>s.heap.get? l=some o/\R (.ok (.ret Value.notImplemented)) s):=
 .of_wp fun prog w A R s h=>by
  obtain⟨c,d,i,b⟩:=o;simp only at U J;subst U J;obtain⟨e,g,j,tk,os⟩:=s;obtain⟨f,h⟩:=h
  wp_walk
  exact⟨_,rfl,h⟩
section
variable{prog:Program}{w:World}{A:Around}{E:Z5}{s:Shared}
theorem zh6{a:Addr}{o:Obj}{aa:Array Value}{n:Nat}{k:Int}{t:Tok}{P:Fin->Shared->Prop}(ho:s.heap.get? a=some o)(hc:o.cls=.type "tuple")(hd:o.data=.seq aa n)(J:aa.isEmpty=false)(h2:2<=k)(U:(aa.size:Int)*k<=1000000)(hk:k<=1000)
  (h:P (.done (.ret (.ref s.heap.objs.size))) {s with heap:=s.heap.push {cls:=.type "tuple",data:=.seq ((List.replicate k.toNat aa).foldl (·++·) #[])}}) (hsz:((List.replicate k.toNat aa).foldl (·++·) #[]).size<=sizeLine):
  wpAny (model prog w) A (Builtin.«tuple.__mul__» ⟨[.ref a,.int k t],[]⟩) P E s:=by
 show wpAny _ _ (asIndex (.int k t) >>= _) _ _ s;refine yaa ?_;unfold asIndex;refine yaa (yaf ?_);dsimp only;refine yaf ?_
 have d:(decide (k < -(2 ^ 63))||decide (k ≥ 2 ^ 63))=false:=by
  rw[Bool.or_eq_false_iff];refine⟨yaB ?_,yaB ?_⟩
  ·omega
  ·omega
 rw[d];simp only[yaG,ybL];refine yaa (wpAny_tupleItemsOf ho hd ?_)
 have c:(aa.isEmpty||k==1)=false:=by rw[J,Bool.false_or];simp;omega
 rw[c];simp only[yaG,ybL]
 have e2:(decide (k<=0)||aa.isEmpty)=false:=by rw[J,Bool.or_false];exact yaB (by omega)
 rw[e2];simp only[yaG,ybL];rw[if_neg (by omega)]
 have b:Builtin.Tuple.tupleTooMany (aa.size*k)=false:=by
  unfold Builtin.Tuple.tupleTooMany;refine yaB ?_
  have:(1000000:Int)<=(sizeLine:Int):=by decide
  omega
 rw[b];simp only[yaG,ybL];unfold Builtin.Tuple.tupleExact;exact yaa (yaX (yaf h) hsz)
def zh5(ho:s.heap.get? a=some o)(J:o.cls=.type "tuple")(hd:o.data=.seq aa n)(h:P (.done (.ret (.ref a))) s):
  wpAny (model prog w) A (Builtin.«tuple.__mul__» ⟨[.ref a,.int 1 t],[]⟩) P E s:=by
 show wpAny _ _ (asIndex (.int 1 t) >>= _) _ _ s;refine yaa ?_;unfold asIndex;refine yaa (yaf ?_);dsimp only;refine yaf ?_
 have c:(decide ((1:Int) < -(2 ^ 63))||decide ((1:Int) ≥ 2 ^ 63))=false:=by decide
 rw[c];simp only[yaG,ybL];refine yaa (wpAny_tupleItemsOf ho hd ?_)
 have b:(aa.isEmpty||(1:Int)==1)=true:=by simp
 rw[b];simp only[yb2];unfold Builtin.Tuple.tupleIsExact;refine yaa (yaa (ycm (T:="tuple") ⟨o,ho,J⟩ (yaf ?_)));simp only[ybJ,yb2];exact yaa (ycY (yaf h))
def zsE{a:Addr}{o:Obj}{aa:Array Value}{n:Nat}{k:Int}{t:Tok}{Q:Z5}(ho:s.heap.get? a=some o)(hc:o.cls=.type "tuple")(hd:o.data=.seq aa n)(J:aa.isEmpty=false)(h2:2<=k)(hz:(aa.size:Int)*k<=1000000)(hk:k<=1000)
  (h:Q (.ref s.heap.objs.size) {s with heap:=s.heap.push {cls:=.type "tuple",data:=.seq ((List.replicate k.toNat aa).foldl (·++·) #[])}}) (hsz:((List.replicate k.toNat aa).foldl (·++·) #[]).size<=sizeLine):
  wpAny (model prog w) A (binaryOp .Mult (.ref a) (.int k t)) Q E s:=by
 have b:s.TypeIs (.ref a) "tuple":=⟨o,ho,hc⟩
 refine wpAny_binaryOp_repeat_ref (T:="tuple") (U:="int") (by decide) b (fun s'=>ydH s' k t) zd0 F.fills_int_mul ydm zgG F.slot_int_index.lookup
  (yce ydm (ydH s k t) F.entry_int_rmul (F.args_int_rmul_2 _ _) (zfi k t a o hc hd) ⟨ho,rfl,b,?_⟩)
 exact yaL ydc b F.entry_tuple_mul (zh6 ho hc hd J h2 hz hk ⟨_,rfl,h⟩ hsz) (F.args_tuple_mul_2 _ _)
def zpB(ho:s.heap.get? a=some o)(J:o.cls=.type "tuple")(hd:o.data=.seq aa n)(h:Q (.ref a) s):wpAny (model prog w) A (binaryOp .Mult (.ref a) (.int 1 t)) Q E s:=by
 have b:s.TypeIs (.ref a) "tuple":=⟨o,ho,J⟩
 refine wpAny_binaryOp_repeat_ref (T:="tuple") (U:="int") (by decide) b (fun s'=>ydH s' 1 t) zd0 F.fills_int_mul ydm zgG F.slot_int_index.lookup
  (yce ydm (ydH s 1 t) F.entry_int_rmul (F.args_int_rmul_2 _ _) (zfi 1 t a o J hd) ⟨ho,rfl,b,?_⟩)
 exact yaL ydc b F.entry_tuple_mul (zh5 ho J hd ⟨_,rfl,h⟩) (F.args_tuple_mul_2 _ _)
end
end PySem
namespace L2
open PySem PySem.Spec PyProof.Rows
set_option genInjectivity true in
inductive D where
 |non|bl (b:Bool)|int (i:Int)|str (x:Str)|tup (l:List D)|lst (l:List D)
mutual
inductive Rep(H:Hp):V->D->Prop
 |non:Rep H .non .non
 |bl (b:Bool):Rep H (.bl b) (.bl b)
 |int (i:Int):Rep H (.int i) (.int i)
 |str (x:Str):Rep H (.str x) (.str x)
 |tup {a:Addr}{xs:List V}{ds:List D}:H a=some (.tup xs)->Reps H xs ds->Rep H (.ref a) (.tup ds)
 |lst {a:Addr}{xs:List V}{ds:List D}:H a=some (.lst xs)->Reps H xs ds->Rep H (.ref a) (.lst ds)
inductive Reps(H:Hp):List V->List D->Prop
 |nil:Reps H [] []
 |cons {v:V}{d:D}{vs:List V}{ds:List D}:Rep H v d->Reps H vs ds->Reps H (v::vs) (d::ds)
end
section
variable{X:Cx}
theorem zsu:OpR X (binaryOp .Mult) (fun x y H Q=>∃(p:Addr) (k:Int) (xs:List V),x=.ref p/\y=.int k/\SqT X.K H p xs/\xs≠[]/\2<=k/\k<=1000/\xs.length<=1000/\∀l,H l=none->Q (.ref l) (upd H l (.tup (List.replicate k.toNat xs).flatten))):=by
 intro pins s σ H x y v u Q I i g h;obtain⟨p,k,xs,rfl,rfl,j,d,h2,hk,A,q⟩:=h;cases i;obtain⟨t,rfl⟩:=g;obtain⟨aa,f,⟨o,m,w,n,hd⟩,_⟩:=I.tuple j;have e:=f.length
 have c:(List.replicate k.toNat aa.toArray).foldl (·++·) #[]=(List.replicate k.toNat aa).flatten.toArray:=by
  have:=ziU aa k.toNat [];rwa[List.nil_append]at this
 have hsz:(List.replicate k.toNat aa).flatten.length<=1000000:=by
  rw[znz];exact yas (ybn (show k.toNat<=1000 by omega) (show aa.length<=1000 by omega)) (by decide)
 have ai:(1000000:Nat)<=sizeLine:=by decide
 refine zsE m w hd ?_ h2 ?_ hk ?_ ?_
 ·have:aa≠[]:=fun z=>d (by cases xs with|nil=>rfl|cons a r=>rw[z]at e;cases e)
  simpa using this
 ·rw[yai];have:=Int.mul_le_mul (show(aa.length:Int)<=1000 by omega) hk (by omega) (by omega);omega
 ·rw[c];refine⟨.ref s.heap.objs.size,_,I.laid (t':=s.toks) (o:=.tup (List.replicate k.toNat xs).flatten) (fun b ob q=>yad _ q) (yaj _) ?_,rfl,q _ (I.hok.fresh (yaj _))⟩;refine⟨?_,_,f.rep k.toNat,zoK.new _ _⟩;rw[znz]at hsz ⊢;rw[<-e]at hsz;omega
 ·rw[c,yai];omega
end
end L2
namespace HT
open PySem PySem.Spec PyProof.Rows L2
section
variable{prog:Program}{w:World}{A:Around}{E:Z5}{s:Shared}
def zeY{t sl:Addr}{items:Array Value}{U J:Value}{lo hi:Option Int}{Q:Z5}(ht:IsTup s.heap t items)(hs:s.heap.IsSliceOf sl U J .none)(pl:IsPart U lo)(pu:IsPart J hi)
  (h1:sIx items.size 0 lo=0) (h2:sIx items.size items.size hi=items.size) (h:Q (.ref t) s):wpAny (model prog w) A (getItem (.ref t) (.ref sl)) Q E s:=by
 obtain⟨os,a,b,d⟩:=id hs;have c:s.TypeIs (.ref sl) "slice":=⟨os,a,b⟩;unfold getItem
 try with_reducible refine yaZ ?_
 first|refine yaa (yaf ?_)|skip
 refine yaa (wpAny_sequenceKey ht.typeIs (by decide) ?_)
 refine yaa (yaU (name:=Str.ofString "__getitem__") ht.typeIs ya5
  (yaL ya5 ht.typeIs entry_tuple_getitem ?_ (args_tuple_getitem _ _)))
 show wpAny _ _ (Builtin.Tuple.tupleItemsOf (.ref t) >>= _) _ _ s;refine yaa (tupleItemsOf_ ht ?_);refine yaa (ycm c ?_);rw[if_pos (by decide)];refine yaa (zdn hs pl pu ?_);rw[h1,h2];show wpAny _ _ (if((((0:Nat):Int)==0&&(1:Int)==1&&(items.size-0)==items.size)=true)then _ else _) _ _ s;rw[if_pos (by simp)];unfold Builtin.Tuple.tupleIsExact;refine yaa (yaa (ycm ht.typeIs (yaf ?_)));simp only[ybJ,yb2];refine yaa (ycY ?_)
 first
  |exact yaf ⟨_,rfl,yaf h⟩
  |exact yaa (yaf (yaf ⟨_,rfl,yaf h⟩))
end
end HT
namespace L2
open PySem PySem.Spec PyProof.Rows
def zlk:SlR X (fun x lo hi H Q=>∃(a:Addr) (xs:List V),x=.ref a/\SqT X.K H a xs/\HT.sIx xs.length 0 lo=0/\HT.sIx xs.length xs.length hi=xs.length/\Q (.ref a) H):=by
 intro pins s σ H x v e d lo hi f Q I b hs pl pu h;obtain⟨a,xs,rfl,c,h1,h2,q⟩:=h;cases b;obtain⟨aa,r,ht,g⟩:=I.tuple c
 have hlen:aa.toArray.size=xs.length:=by rw[yai];exact r.length.symm
 refine⟨"tuple",_,ya5.lookup,ht.typeIs,?_⟩;exact HT.zeY ht hs pl pu (by rw[hlen];exact h1) (by rw[hlen];exact h2) ⟨.ref a,H,I,rfl,q⟩
mutual
noncomputable def D.py:D->PyData
 |.non=>.none|.bl b=>.bool b|.int i=>.int i|.str x=>.str x|.tup l=>.tuple (D.pys l)|.lst l=>.list (D.pys l)
noncomputable def D.pys:List D->List PyData
 |[]=>[]|d::l=>d.py::D.pys l
end
mutual
noncomputable def D.fit:Nat->D->Bool
 |_,.non=>true|_,.bl _=>false|_,.int _=>true|_,.str x=>PyData.strOk x|0,.tup _=>false|n+1,.tup l=>D.fits n l|0,.lst _=>false|n+1,.lst l=>D.fits n l
noncomputable def D.fits:Nat->List D->Bool
 |_,[]=>true|n,d::l=>d.fit n&&D.fits n l
end
theorem D.fits_iff:∀{l:List D},D.fits n l=true↔∀d∈l,d.fit n=true
 |[]=>by simp[D.fits]
 |d::l=>by simp[D.fits,D.fits_iff (l:=l)]
mutual
theorem D.lay:∀{n:Nat}{d:D},d.fit n=true->d.py.canLay0=true/\d.py.depth<=n
 |_,.non,_=>⟨rfl,yaR _⟩|_,.bl _,h=>by simp[D.fit]at h
 |_,.int _,_=>⟨rfl,yaR _⟩|_,.str x,h=>⟨by simpa[D.fit,D.py,PyData.canLay0]using h,yaR _⟩
 |0,.tup _,h=>by simp[D.fit]at h
 |0,.lst _,h=>by simp[D.fit]at h
 |n+1,.tup l,h=>by
  have h':D.fits n l=true:=by simpa[D.fit]using h
  obtain⟨a,b⟩:=D.lays h';exact⟨by simpa[D.py,PyData.canLay0]using a,by simp only[D.py,PyData.depth];omega⟩
 |n+1,.lst l,h=>by
  have h':D.fits n l=true:=by simpa[D.fit]using h
  obtain⟨a,b⟩:=D.lays h';exact⟨by simpa[D.py,PyData.canLay0]using a,by simp only[D.py,PyData.depth];omega⟩
theorem D.lays:∀{n:Nat}{l:List D},D.fits n l=true->PyData.canLayAll0 (D.pys l)=true/\PyData.depthAll (D.pys l)<=n
 |_,[],_=>⟨rfl,yaR _⟩|n,d::l,h=>by
  simp only[D.fits,yab]at h;obtain⟨a,b⟩:=D.lay h.1;obtain⟨c,e⟩:=D.lays h.2;exact⟨by simp[D.pys,PyData.canLayAll0,a,c],by simp only[D.pys,PyData.depthAll];omega⟩
end
section
variable{X:Cx}
def zmZ(J:d.canLay0=true)(r:Reads h v d as):SeqAt.readOf h v=d:=by
 have a:∃d as,Reads h v d as:=⟨d,as,r⟩;unfold SeqAt.readOf;rw[dif_pos a];obtain⟨bs,b⟩:=a.choose_spec;exact(SeqAt.Reads.unique _ _ _ _ _ J r b).symm
end
noncomputable def ziV:V->D|.int i=>.int i|.str x=>.str x|_=>.non
noncomputable def Num(x:V):Prop:=x=.non\/∃i:Int,x=.int i
def zsB(h:Num x):Rep H x (ziV x)/\(ziV x).fit 0=true:=by
 rcases h with rfl|⟨i,rfl⟩
 ·exact⟨.non,rfl⟩
 ·exact⟨.int i,rfl⟩
def zut(r:List V):D:=.tup (r.map ziV)
theorem ziI:∀{r:List V},(∀x∈r,Num x)->Reps H r (r.map ziV)/\D.fits 0 (r.map ziV)=true
 |[],_=>⟨.nil,rfl⟩|x::r,h=>by
  obtain⟨a,b⟩:=ziI (H:=H) (r:=r) fun y e=>h y (yal _ e)
  obtain⟨c,d⟩:=zsB (H:=H) (h x yan);exact⟨.cons c a,by simp[D.fits,b,d]⟩
theorem zfy:∀{rs:List (List V)},(∀r∈rs,∀x∈r,Num x)->D.fits 1 (rs.map zut)=true
 |[],_=>rfl|r::rs,h=>by
  have a:=zfy (rs:=rs) fun y c=>h y (yal _ c)
  have b:=(ziI (H:=fun _=>none) (h r yan)).2;simp[D.fits,a,zut,D.fit,b]
def CXE(P:Program)(w:World):CXT:=fun outer H s E e s'=>∃(a:Addr) (cls a0:Value) (H':Hp) (B:Heap),e=.ref a/\Heap.FlyingW B outer a cls a0 s'.heap ∧
 (∀b o,s'.heap.get? b=some o->H' b≠none->B.get? b=some o)/\(∀b o,s.heap.get? b=some o->H b=none->b ∉ frs outer->B.get? b=some o) ∧
 (∀b o,s.heap.get? b=some o->b ∉ frs outer->∃o',B.get? b=some o') ∧
 s'.os=s.os/\AllBare s'.gens/\Un (frs outer) [] H H' s.heap s'.heap/\HOk P w H' s'.heap/\E cls none H'
def zba.has(x:zba P w H h a o):∃ob,h.get? a=some ob:=by
 cases o with
 |lst xs=>obtain⟨_,_,_,_,e⟩:=x;exact⟨_,e⟩|tup xs=>obtain⟨_,_,_,ob,e,_⟩:=x;exact⟨_,e⟩|dK kvs=>obtain⟨_,_,_,_,o,_,_,e,_⟩:=x;exact⟨_,e⟩|dT kvs=>obtain⟨_,_,_,_,o,_,_,e,_⟩:=x;exact⟨_,e⟩|set S n=>obtain⟨o,_,_,_,e,_⟩:=x;exact⟨_,e⟩|ins C dx fs=>obtain⟨_,_,_,e,_⟩:=x;exact⟨_,e⟩|own y=>exact x|xd fs=>obtain⟨_,⟨_,_,_,e,_⟩,_⟩:=x;exact⟨_,e⟩|rng lo hi=>obtain⟨_,_,_,e⟩:=x;exact⟨_,e⟩|frz ob u=>obtain⟨e,_⟩:=x;exact⟨_,e⟩|tbl ps=>exact⟨_,(show h.get? a=some _ from x)⟩|met f y=>exact⟨_,(show h.get? a=some _ from x)⟩|ext φ=>obtain⟨_,e,_⟩:=x;exact e
def HOk.same(x:HOk P w H h)(k:∀b u,h.get? b=some u->H b≠none->h'.get? b=some u):HOk P w H h':=fun a o e=>
 (x a o e).stay (fun b u hb q=>k b u q (hb.elim (fun z=>by rw[z,e];exact yaI _) (fun z=>by rw[z];exact yaI _))) (fun _ q=>q) fun _ _ q=>q
section
variable{X:Cx}{pins:Z3}{σ:St}{H:Hp}{s:Shared}{M:Model}
def zpX(l:List Env):∀env∈l,∀b,env.frame=some b->b∈frs l:=fun env he b hb=>yci.mpr ⟨env,he,hb⟩
def zlK(I:Inv X pins σ H s)(hx:X.ex=[])(hs:X.stack=X.env::X.outer)(hf:X.env.frame=some X.env.locals)(mk:Heap.MadeExcOf s.heap h' e cls vs)(q:E cls none H):
  wpAny M X.A (leaving X.env (.ref e)) (fun _ U=>CXE X.prog X.w X.outer X.H₀ X.s₀ E (.ref e) U) Er {s with heap:=h'}:=by
 have j:X.A.frames=some (X.env::X.outer):=by rw[<-hs];exact I.ok.frames
 have i:s.heap.FunFrames X.base (X.env::X.outer):=by rw[<-hs];exact I.stack
 refine wpAny_leaves_madeW (base:=PySem.W.hideAll s.heap (frs (X.env::X.outer))) j hf (fun b o z=>PySem.W.of_hideAll _ z) (PySem.W.funFrames_hide i (zpX _)) mk fun h2 t fl tup _ up=>?_
 have a:∀b o,s.heap.get? b=some o->b ∉ frs (X.env::X.outer)->(PySem.W.hideAll s.heap (frs (X.env::X.outer))).get? b=some o:=fun b o z n=>PySem.W.hideAll_get _ z n
 have sub:∀b,b∈frs (X.env::X.outer)->b=X.env.locals\/b∈X.fs:=fun b hb=>by
  rw[<-hs]at hb;exact yau.mp (I.stkSub b hb)
 have g:∀b,b∈frs (X.env::X.outer)->H b=none:=fun b hb=>by rw[<-hs]at hb;exact I.stkFree b hb
 have old:∀b o,X.s₀.heap.get? b=some o->b ∉ frs X.outer->b ∉ frs (X.env::X.outer):=fun b o z n hb=>by
  rcases sub b hb with r|r
  ·exact absurd (yat (yao z) I.ok.above) (by rw[r];exact ybi _)
  ·exact n r
 have nx:∀b:Addr,b ∉ X.ex:=fun b z=>by rw[hx]at z;cases z
 have trk:∀b o,s.heap.get? b=some o->H b≠none->h2.get? b=some o:=fun b o z n=>fl.1 b o (a b o z fun hb=>n (g b hb))
 have f:HOk X.prog X.w H h2:=I.hok.same trk
 have d:∀b o,s.heap.get? b=some o->b∈frs X.stack->∃l,h2.get? b=some {o with slots:=l}:=fun b o z hb=>by
  obtain⟨_,o',c,hd⟩:=I.stack.mem hb;rw[z]at c;cases c;exact up b o (mk.keeps b o z) hd
 have h:Un (frs X.stack) [] H H s.heap h2:=⟨fun b o z n hb _=>fl.1 b o (a b o z (by rw[<-hs];exact hb)),fun b o z n hb _=>d b o z hb,fun b o z n _=>n,
  fun b o z _=>by
   by_cases hb:b∈frs X.stack
   ·obtain⟨l,r⟩:=d b o z hb;exact⟨_,r⟩
   ·exact⟨o,fl.1 b o (a b o z (by rw[<-hs];exact hb))⟩,
  fun _ _ z=>z,fun _ _ _ z=>z,fun _ ps z=>⟨#[],by rw[z,Array.append_empty]⟩⟩
 have J:=I.call (g':=s.gens) (t':=s.toks) (d':=s.drawn) (ch:=[]) h f I.bare (fun b z=>absurd z (by simp));refine⟨e,cls,.ref t,H,_,rfl,fl,fun b o z n=>?_,fun b o z n hb=>?_,fun b o z hb=>?_,J.os,J.bare,?_,J.hok,q⟩
 ·cases k:H b with
  |none=>exact absurd k n|some u=>
   obtain⟨o',c⟩:=(I.hok b u k).has;have:=trk b o' c n;rw[show h2.get? b=some o from z]at this;cases this;exact a b o c fun hb=>n (g b hb)
 ·exact a b o (I.base.keep b o z n hb (nx b)) (old b o z hb)
 ·obtain⟨o',c⟩:=I.base.there b o z (nx b);exact⟨o',a b o' c (old b o z hb)⟩
 ·have:=J.base;rwa[hx]at this
def zpH(I:Inv X pins σ H s)(hx:X.ex=[])(hs:X.stack=X.env::X.outer)(hf:X.env.frame=some X.env.locals)(q:CXE X.prog X.w X.stack H s E e s'):
  wpAny M X.A (leaving X.env e) (fun _ U=>CXE X.prog X.w X.outer X.H₀ X.s₀ E e U) Er s':=by
 have l:X.A.frames=some (X.env::X.outer):=by rw[<-hs];exact I.ok.frames
 obtain⟨a,cls,a0,H',B,rfl,fl,c1,c2,p,os,bare,un,hok,q⟩:=q
 have m:Heap.FlyingW B (X.env::X.outer) a cls a0 s'.heap:=by rw[<-hs];exact fl
 refine wpAny_leaves_onW l hf m fun h2 c up=>?_
 have sub:∀b,b∈frs X.stack->b=X.env.locals\/b∈X.fs:=fun b hb=>yau.mp (I.stkSub b hb)
 have old:∀b o,X.s₀.heap.get? b=some o->b ∉ frs X.outer->b ∉ frs X.stack:=fun b o z n hb=>by
  rcases sub b hb with r|r
  ·exact absurd (yat (yao z) I.ok.above) (by rw[r];exact ybi _)
  ·exact n r
 have nx:∀b:Addr,b ∉ X.ex:=fun b z=>by rw[hx]at z;cases z
 have trk:∀b o,s'.heap.get? b=some o->H' b≠none->h2.get? b=some o:=fun b o z n=>c.1 b o (c1 b o z n)
 have g:HOk X.prog X.w H' h2:=hok.same trk
 have f:∀b o,s.heap.get? b=some o->H b=none->b∈frs X.stack->∃h,h2.get? b=some {o with slots:=h}:=fun b o z n hb=>by
  obtain⟨_,o',d,hd⟩:=I.stack.mem hb;rw[z]at d;cases d;obtain⟨h,r⟩:=un.slot b o z n hb (by simp);obtain⟨j,r'⟩:=up b ({o with slots:=h}:Obj) r hd;exact⟨j,r'⟩
 have i:Un (frs X.stack) [] H H' s.heap h2:=⟨fun b o z n hb _=>c.1 b o (c2 b o z n hb),fun b o z n hb _=>f b o z n hb,un.free,
  fun b o z _=>by
   by_cases hb:b∈frs X.stack
   ·obtain⟨h,r⟩:=f b o z (I.stkFree b hb) hb;exact⟨_,r⟩
   ·obtain⟨o',r⟩:=p b o z hb
    exact⟨o',c.1 b o' r⟩,
  un.tups,un.frzs,un.tbls⟩
 have J:=I.call (g':=s'.gens) (t':=s'.toks) (d':=s'.drawn) (ch:=[]) i g bare (fun b z=>absurd z (by simp));refine⟨a,cls,a0,H',B,rfl,c,fun b o z n=>?_,fun b o z n hb=>?_,fun b o z hb=>?_,os.trans I.os,bare,?_,J.hok,q⟩
 ·cases k:H' b with
  |none=>exact absurd k n|some u=>
   obtain⟨o',d⟩:=(hok b u k).has;have:=trk b o' d n;rw[show h2.get? b=some o from z]at this;cases this;exact c1 b o d n
 ·exact c2 b o (I.base.keep b o z n hb (nx b)) (I.base.free b o z n (nx b)) (old b o z hb)
 ·obtain⟨o',d⟩:=I.base.there b o z (nx b);exact p b o' d (old b o z hb)
 ·have:=J.base;rwa[hx]at this
end
def zxM{P:Program}{K:PySem.W.Frag}:
  zwu (CXE P w) (zqc (CXE P w) P w K mg base N qual scope f cd A outer s H E) E:=fun pins σ H1 s1 e s' I q=>
 zpH (X:=zqc (CXE P w) P w K mg base N qual scope f cd A outer s H E) I rfl rfl rfl q
def zs5{K:PySem.W.Frag}{h:Heap}(k:K.In h)(z:PySem.W.excIn K C U J=true):
  ∃bm N nm qn bs hd sn sub ab col dd c0 c1 c2 c3 c5 mN,h.get? C=some (excClassObj nm qn C N bs bm hd sn sub ab col dd c0 c1 c2 c3 c5 J)/\h.Ns N mN/\mN "__init__"=none/\OwnTail h U bm:=by
 unfold PySem.W.excIn at z;split at z
 case h_2=>cases z
 case h_1 dd cd sl ho=>
  split at z
  case h_2=>cases z
  case h_1 D bm c0 c1 c2 c3 n c5 e1 e2=>
   simp only[yab,ycB,yaJ]at z;obtain⟨⟨⟨⟨⟨g,f⟩,c⟩,e⟩,b⟩,d⟩:=z;subst g f
   have a:sl=#[c0,c1,c2,c3,some (.builtin n),c5]:=by
    cases sl with
    |mk l=>exact congrArg Array.mk e2
   have hcd:cd={cd with mro:=.ref D::bm,hasDel:=false}:=by
    cases cd;simp only at e1 c;simp only[e1,c]
   rw[a,hcd]at ho;exact⟨bm,cd.ns,cd.name,_,cd.bases,_,_,_,_,_,dd,c0,c1,c2,c3,c5,_,k _ _ ho,.of_isNs (PySem.W.isNs_of_in k b),PySem.W.nsMap_none_of_in k b d,PySem.W.tail_of_in k e⟩
noncomputable def zwt(X:Cx)(E:XK):Prop:=∀(C:Addr) (pins:Z3) (σ:St) (H:Hp) (s:Shared) (e:Addr) (h':Heap) (vs:List Value),Inv X pins σ H s->Heap.MadeExcOf s.heap h' e (.ref C) vs->E (.ref C) none H->X.xe (.ref e) {s with heap:=h'}
def zr4{P:Program}{K:PySem.W.Frag}:
  zwt (zqc (CXE P w) P w K mg base N qual scope f cd A outer s H E) E:=fun C pins σ H1 s1 e h' vs I mk q=>
 zlK (X:=zqc (CXE P w) P w K mg base N qual scope f cd A outer s H E) I rfl rfl rfl mk q
noncomputable def XP(X:Cx)(pins:Z3)(σ:St)(E:XK)(e:Value)(s':Shared):Prop:=∃H1 s1,Inv X pins σ H1 s1/\CXE X.prog X.w X.stack H1 s1 E e s'
noncomputable abbrev TX:=St->Hp->VK->XK->Prop
noncomputable def zws(K:PySem.W.Frag)(C D:Addr):Prop:=(∃c b,PySem.W.excIn K C c b=true)/\∃cd d cl a,K.lookup C=some ⟨cl,d,.cls cd,a⟩/\cd.mro.contains (.ref D)=true
end L2
namespace PySem.W
open PySem
structure ExcCls(K:Frag)(C:Addr):Prop where
 ga:findIn K (.ref C) "__getattribute__"=some (some (.builtin "BaseException.__getattribute__"))
 gt:findIn K (.ref C) "__getattr__"=some none
 cl:findIn K (.ref C) "__class__"=some (some (.builtin "object.__class__"))
 ob:subIn K (.ref C) (.type "object")=some true
 be:subIn K (.ref C) (.type "BaseException")=some true
 is:∃c d cd sl,K.lookup C=some ⟨c,d,.cls cd,sl⟩
end PySem.W
namespace L2
open PySem PySem.Spec PyProof.Rows
open PySem PySem.Spec PyProof.Rows PySem.SeqAt
theorem zkz(ns:List Int):∀j,j<=ns.length->preSum (fun i=>ns.getD i 0) j=(ns.take j).sum
 |0,_=>by rw[List.take_zero];rfl
 |j+1,h=>by
  have a:=zkz ns j (by omega);show preSum _ j+ns.getD j 0=_
  have e:ns.take (j+1)=ns.take j++[ns[j]]:=by rw[yc2,yac (by omega)];rfl
  have e2:ns.getD j 0=ns[j]:=by simp[List.getD,show j<ns.length by omega]
  rw[a,e,e2,List.sum_append];simp
theorem ziA(ns:List Int)(h:∀n∈ns,0<=n/\n<=1000000):∀j,j<=ns.length->0<=preSum (fun i=>ns.getD i 0) j/\preSum (fun i=>ns.getD i 0) j<=1000000*(j:Int)
 |0,_=>⟨Int.le_refl _,Int.le_refl _⟩|j+1,b=>by
  have a:=ziA ns h j (by omega)
  have e:ns.getD j 0=ns[j]:=by simp[List.getD,show j<ns.length by omega]
  have hb:=h ns[j] (ybK (by omega));show 0<=preSum _ j+ns.getD j 0/\preSum _ j+ns.getD j 0<=_;rw[e]
  push_cast
  omega
section
variable{X:Cx}
theorem zqh(J:X.calm=true):zdl X (.builtin "sum") (fun xs H Q=>∃(p:Addr) (ns:List Int),xs=[.ref p]/\SqT X.K H p (ns.map V.int)/\ns.length<=1000/\(∀n∈ns,0<=n/\n<=1000000)/\Q (.int ns.sum) H):=by
 intro pins s σ H xs us Q I r h;obtain⟨p,ns,rfl,y,c,hb,q⟩:=h;obtain⟨u,rfl,m⟩:=zeN r;cases m;obtain⟨aa,k,pl,C⟩:=I.tuple y;have g:=pl
 have a:p<s.heap.objs.size:=by obtain⟨_,e,_⟩:=g;exact yao e
 have f:aa.length=ns.length:=by have:=k.length;rw[yae]at this;exact this.symm
 refine call_sum_walk (ych g ?_);refine⟨s.heap.objs.size,[s.heap.objs.size,p],[s.heap.objs.size],aa.toArray.size,_,_,fun i=>ns.getD i 0,rfl,Walks.tuple (A:=X.A.in1) (I.ok.hd J) _ p (yav a) aa.toArray,⟨⟨_,yam _ rfl,rfl,rfl⟩,g.push _⟩,fun b hm=>?_,fun i v B=>?_,fun j d=>?_,fun h' tk t' hk=>?_⟩
 ·show b<(s.heap.push _).objs.size;rw[ybc];simp only[yau,ya8,ycR]at hm
  rcases hm with z|z
  ·rw[z];exact ycd _
  ·rw[z];exact ybe a
 ·have hv:aa[i]?=some v:=by simpa using B
  have hi:i<ns.length:=by rw[<-f];exact(yaq.mp hv).1
  obtain⟨u,l,w⟩:=k.get (i:=i) (x:=.int ns[i]) (by rw[yax,yac hi];rfl);rw[hv]at l;cases l;obtain⟨t,rfl⟩:=w;exact⟨t,by simp[List.getD,hi]⟩
 ·rw[yai,f]at d;have h1:=ziA ns hb (j+1) d
  have e:ns.getD j 0=ns[j]:=by simp[List.getD,d]
  have h2:=hb ns[j] (ybK d);refine⟨?_,?_⟩
  ·show InLong (ns.getD j 0);rw[e];exact⟨by omega,by omega⟩
  ·have:((j+1:Nat):Int)<=1000:=by omega
   exact⟨by omega,by omega⟩
 ·rw[yai,f,zkz ns ns.length (yaj _),ycx];refine⟨.int _,H,I.kept (t':=tk) fun b o e=>?_,⟨t',rfl⟩,q⟩;exact hk b o (fun hm=>by rw[yaD.mp hm]at e;exact ybi _ (yao e)) (yad _ e)
end
end L2
namespace S2
open PySem PySem.Spec PyProof.Rows L2
mutual
noncomputable def D.py:D->PyData
 |.non=>.none|.bl b=>.bool b|.int i=>.int i|.str x=>.str x|.tup l=>.tuple (D.pys l)|.lst l=>.list (D.pys l)|.scr l=>.list (l.map PyData.int)|.dic _=>.none|.ref _=>.none|.exc _=>.none
noncomputable def D.pys:List D->List PyData
 |[]=>[]|d::l=>d.py::D.pys l
end
mutual
noncomputable def D.fit:Nat->D->Bool
 |_,.non=>true|_,.bl _=>true|_,.int _=>true|_,.str x=>PyData.strOk x|0,.tup _=>false|n+1,.tup l=>D.fits n l|0,.lst _=>false|n+1,.lst l=>D.fits n l|0,.scr _=>false|_+1,.scr _=>true|_,.dic _=>false|_,.ref _=>false|_,.exc _=>false
noncomputable def D.fits:Nat->List D->Bool
 |_,[]=>true|n,d::l=>d.fit n&&D.fits n l
end
theorem D.fits_iff:∀{l:List D},D.fits n l=true↔∀d∈l,d.fit n=true
 |[]=>by simp[D.fits]
 |d::l=>by simp[D.fits,D.fits_iff (l:=l)]
theorem zkU:∀(l:List Int),PyData.canLayAll0 (l.map PyData.int)=true/\PyData.depthAll (l.map PyData.int)=0
 |[]=>⟨rfl,rfl⟩|i::l=>by
  obtain⟨a,b⟩:=zkU l;exact⟨by simp[PyData.canLayAll0,PyData.canLay0,a],by simp[PyData.depthAll,PyData.depth,b]⟩
mutual
theorem D.lay:∀{n:Nat}{d:D},d.fit n=true->d.py.canLay0=true/\d.py.depth<=n
 |_,.non,_=>⟨rfl,yaR _⟩|_,.bl _,h=>⟨rfl,yaR _⟩|_,.int _,_=>⟨rfl,yaR _⟩|_,.str x,h=>⟨by simpa[D.fit,D.py,PyData.canLay0]using h,yaR _⟩
 |0,.tup _,h=>by simp[D.fit]at h
 |0,.lst _,h=>by simp[D.fit]at h
 |0,.scr _,h=>by simp[D.fit]at h
 |n+1,.scr l,h=>by
  obtain⟨a,b⟩:=zkU l;exact⟨by simpa[D.py,PyData.canLay0]using a,by simp only[D.py,PyData.depth];omega⟩
 |_,.dic _,h=>by simp[D.fit]at h
 |_,.ref _,h=>by simp[D.fit]at h
 |_,.exc _,h=>by simp[D.fit]at h
 |n+1,.tup l,h=>by
  have h':D.fits n l=true:=by simpa[D.fit]using h
  obtain⟨a,b⟩:=D.lays h';exact⟨by simpa[D.py,PyData.canLay0]using a,by simp only[D.py,PyData.depth];omega⟩
 |n+1,.lst l,h=>by
  have h':D.fits n l=true:=by simpa[D.fit]using h
  obtain⟨a,b⟩:=D.lays h';exact⟨by simpa[D.py,PyData.canLay0]using a,by simp only[D.py,PyData.depth];omega⟩
theorem D.lays:∀{n:Nat}{l:List D},D.fits n l=true->PyData.canLayAll0 (D.pys l)=true/\PyData.depthAll (D.pys l)<=n
 |_,[],_=>⟨rfl,yaR _⟩|n,d::l,h=>by
  simp only[D.fits,yab]at h;obtain⟨a,b⟩:=D.lay h.1;obtain⟨c,e⟩:=D.lays h.2;exact⟨by simp[D.pys,PyData.canLayAll0,a,c],by simp only[D.pys,PyData.depthAll];omega⟩
end
section
variable{X:Cx}{cl:Cf}{w:Wd}
def TopV.lstI(h:TopV cl w v (.lst ds)):∃a xs,v=.ref a/\w.H a=some (.lst xs)/\Shds cl w xs ds:=by
 cases h with
 |sh h=>cases h with
  |lst e k r=>exact⟨_,_,rfl,e,r⟩
 |ow e t=>cases t with
  |lst r=>exact⟨_,_,rfl,e,r⟩
def TopV.tupI(h:TopV cl w v (.tup ds)):∃a xs,v=.ref a/\w.H a=some (.tup xs)/\w.ow a=none/\Shds cl w xs ds:=by
 cases h with
 |sh h=>cases h with
  |tup e k r=>exact⟨_,_,rfl,e,k,r⟩
 |ow e t=>cases t
def TopV.intI(h:TopV cl w v (.int i)):v=.int i:=by
 cases h with
 |sh h=>cases h;rfl|ow e t=>cases t
def TopV.strI(h:TopV cl w v (.str i)):v=.str i:=by
 cases h with
 |sh h=>cases h;rfl|ow e t=>cases t
def TopV.blI(h:TopV cl w v (.bl i)):v=.bl i:=by
 cases h with
 |sh h=>cases h;rfl|ow e t=>cases t
def TopV.nonI(h:TopV cl w v .non):v=.non:=by
 cases h with
 |sh h=>cases h;rfl|ow e t=>cases t
def Shd.scrI(J:X.K=cl.K)(h:Shd cl w v (.scr l)):∃a,v=.ref a/\SqL X.K w.H a (l.map V.int):=by
 cases h with
 |scr e k=>exact⟨_,rfl,.inl (.inr ⟨_,e⟩)⟩|scrK h=>exact⟨_,rfl,by rw[J];exact h _⟩
theorem TopV.scrI(J:X.K=cl.K)(h:TopV cl w v (.scr l)):∃a,v=.ref a/\SqL X.K w.H a (l.map V.int):=by
 cases h with
 |sh h=>exact h.scrI J|ow e t=>cases t
def zkt(I:Inv X pins σ w.H s)(J:X.K=cl.K)(h:Shd cl w v (.scr l))(r:zaV v u):∃as,Reads s.heap u (D.scr l).py as:=by
  obtain⟨a,rfl,e⟩:=h.scrI J;cases r;obtain⟨aa,c,p,_⟩:=I.list e;obtain⟨o,f,g,n,hd⟩:=id p.isList
  have go:∀{l:List Int}{us:List Value},Vals (l.map V.int) us->∃as,ReadsAll s.heap us (l.map PyData.int) as:=by
   intro l
   induction l with
   |nil=>intro us h;cases h;exact⟨_,.nil⟩|cons i l d=>
    intro us h
    cases h with
    |cons h1 h2=>
     obtain⟨t,rfl⟩:=h1;obtain⟨as,b⟩:=d h2;exact⟨_,.cons (.int i t) b⟩
  obtain⟨as,b⟩:=go c;exact⟨_,.list f g hd (by simpa using b)⟩
def zp3(h:(D.tup l).fit n=true):∃m,n=m+1:=by
 cases n with
 |zero=>simp[D.fit]at h|succ m=>exact⟨m,rfl⟩
def zp4(h:(D.lst l).fit n=true):∃m,n=m+1:=by
 cases n with
 |zero=>simp[D.fit]at h|succ m=>exact⟨m,rfl⟩
mutual
theorem zuu{pins:Z3}{σ:St}{s:Shared}(I:Inv X pins σ w.H s)(J:X.K=cl.K):∀{v:V}{d:D}{n:Nat},Shd cl w v d->d.fit n=true->∀{u:Value},zaV v u->∃as,Reads s.heap u d.py as
 |_,_,_,.non,_,_,r=>by cases r;exact⟨_,.none⟩
 |_,_,_,.bl b,_,_,r=>by cases r;exact⟨_,.bool b⟩
 |_,_,_,.int i,_,_,r=>by obtain⟨t,rfl⟩:=r;exact⟨_,.int i t⟩
 |_,_,_,.str x,_,_,r=>by obtain⟨t,rfl⟩:=r;exact⟨_,.str x t⟩
 |_,_,n,.tup (a:=a) e _ rs,h,_,r=>by
  obtain⟨n,rfl⟩:=zp3 h;cases r;obtain⟨aa,c,p,_⟩:=I.tuple (SqT.of (K:=X.K) e);obtain⟨o,g,j,n,hd⟩:=id p;obtain⟨as,f⟩:=zfM I J rs (by simpa[D.fit]using h) c;exact⟨_,.tuple g j hd (by simpa using f)⟩
 |_,_,n,.lst (a:=a) e _ rs,h,_,r=>by
  obtain⟨n,rfl⟩:=zp4 h;cases r;obtain⟨aa,c,p,_⟩:=I.list (SqL.of (K:=X.K) e);obtain⟨o,g,j,n,hd⟩:=id p.isList;obtain⟨as,f⟩:=zfM I J rs (by simpa[D.fit]using h) c;exact⟨_,.list g j hd (by simpa using f)⟩
 |_,_,n,.scr e k,h,_,r=>zkt I J (.scr e k) r|_,_,n,.scrK e,h,_,r=>zkt I J (.scrK e) r|_,_,n,.dicK _ _ _,h,_,_=>by simp[D.fit]at h
 |_,_,n,.ref _,h,_,_=>by simp[D.fit]at h
 |_,_,n,.exc _ _ _,h,_,_=>by simp[D.fit]at h
theorem zfM{pins:Z3}{σ:St}{s:Shared}(I:Inv X pins σ w.H s)(J:X.K=cl.K):∀{vs:List V}{ds:List D}{n:Nat},Shds cl w vs ds->D.fits n ds=true->∀{us:List Value},Vals vs us->∃as,ReadsAll s.heap us (D.pys ds) as
 |_,_,_,.nil,_,_,r=>by cases r;exact⟨_,.nil⟩
 |_,_,n,.cons h t,f,_,r=>by
  simp only[D.fits,yab]at f
  cases r with
  |cons r1 c=>
   obtain⟨as,a⟩:=zuu I J h f.1 r1;obtain⟨bs,b⟩:=zfM I J t f.2 c;exact⟨_,.cons a b⟩
end
def zjB(I:Inv X pins σ w.H s)(J:X.K=cl.K)(h:TopV cl w v d)(f:d.fit n=true)(r:zaV v u):∃as,Reads s.heap u d.py as:=by
 cases h with
 |sh h=>exact zuu I J h f r|ow e t=>
  cases t with
  |lst rs=>
   cases n with
   |zero=>simp[D.fit]at f|succ n=>
    cases r;obtain⟨aa,a,p,_⟩:=I.list (SqL.of (K:=X.K) e);obtain⟨o,c,g,n,hd⟩:=id p.isList;obtain⟨as,b⟩:=zfM I J rs (by simpa[D.fit]using f) a;exact⟨_,.list c g hd (by simpa using b)⟩
  |dicK _=>simp[D.fit]at f
noncomputable def zgJ(d e:D):Bool:=d.py.eqv e.py
def eqD(d e:D):Option D:=if d.fit 9&&e.fit 9 then some (.bl (zgJ d e))else none
noncomputable def neD(d e:D):Option D:=if d.fit 9&&e.fit 9 then some (.bl (!zgJ d e))else none
theorem zxT(J:X.K=cl.K)(U:X.A.units+64<cLine):OpD X cl (compareOp .Eq) eqD:=by
 intro pins s σ H x y v u Q I b a h;obtain⟨w,d,e,r,rfl,k,j,hg,q⟩:=h;unfold eqD at hg;split at hg
 ·rename_i hf;cases hg;rw[yab]at hf;obtain⟨as,f⟩:=zjB I J k hf.1 b;obtain⟨bs,c⟩:=zjB I J j hf.2 a;obtain⟨i,d1⟩:=D.lay hf.1;obtain⟨g,d2⟩:=D.lay hf.2;exact SeqAt.compareEq_reads f c i g (by omega) ⟨.bl _,w.H,I,rfl,q _ w (Grow.refl _) (.bl _)⟩
 ·cases hg
def zxR(J:X.K=cl.K)(U:X.A.units+64<cLine):OpD X cl (compareOp .NotEq) neD:=by
 intro pins s σ H x y v u Q I b a h;obtain⟨w,d,e,r,rfl,k,j,hg,q⟩:=h;unfold neD at hg;split at hg
 ·rename_i hf;cases hg;rw[yab]at hf;obtain⟨as,f⟩:=zjB I J k hf.1 b;obtain⟨bs,c⟩:=zjB I J j hf.2 a;obtain⟨i,d1⟩:=D.lay hf.1;obtain⟨g,d2⟩:=D.lay hf.2;exact SeqAt.compareNe_reads f c i g (by omega) ⟨.bl _,w.H,I,rfl,q _ w (Grow.refl _) (.bl _)⟩
 ·cases hg
noncomputable def zoI(d:D)(l:List D):Bool:=l.any fun e=>zgJ e d
noncomputable def zzt(d e:D):Option Bool:=match d,e with|.str x,.str y=>some (!(Builtin.Str.occurrences y x 0 y.length 1).isEmpty)|_,_=>none
def inD(d e:D):Option D:=(zzt d e).map D.bl
noncomputable def zhZ(d:D):D->Option D|.lst l=>if d.fit 8&&D.fits 8 l then some (.bl (!zoI d l))else none|.tup l=>if d.fit 8&&D.fits 8 l then some (.bl (!zoI d l))else none|_=>none
def zg0{s:Shared}{aa:List Value}{d:D}(J:ReadsAll s.heap aa (D.pys ds) as)(f:D.fits 8 ds=true):(aa.toArray.any fun y=>(SeqAt.readOf s.heap y).eqv d.py)=zoI d ds:=by
 rw[SeqAt.any_by_data (vs:=aa.toArray) (xs:=D.pys ds) (as:=as) (by simpa using J) (D.lays f).1]
 have:∀{l:List D},((D.pys l).any fun y=>y.eqv d.py)=zoI d l:=by
  intro l
  induction l with
  |nil=>rfl|cons e l a=>
   show(e.py.eqv d.py||(D.pys l).any fun y=>y.eqv d.py)=(zgJ e d||zoI d l);rw[a];rfl
 exact this
theorem zey{A:Around}{s:Shared}{d:D}(U:A.units+64<cLine)(J:Reads s.heap x d.py bs)(fd:d.fit 8=true):∀{aa:List Value}{ds:List D}{as:List Addr},ReadsAll s.heap aa (D.pys ds) as->D.fits 8 ds=true->∀y,y∈aa.toArray->SeqAt.EqAt A.in1 s y x ((SeqAt.readOf s.heap y).eqv d.py)
 |[],[],_,_,_,y,a=>by simp at a
 |[],_::_,_,h,_,_,_=>by cases h
 |_::_,[],_,h,_,_,_=>by cases h
 |v::aa,e::ds,_,h,f,y,a=>by
  simp only[D.fits,yab]at f
  cases h with
  |cons h1 h2=>
   simp at a
   rcases a with rfl|a
   ·rw[zmZ (D.lay f.1).1 h1];refine SeqAt.eqAt_reads _ _ _ _ _ _ _ _ h1 J (D.lay f.1).1 (D.lay fd).1 ?_;have:=(D.lay f.1).2;show A.units+1+_<cLine;omega
   ·exact zey U J fd h2 f.2 y (by simpa using a)
theorem zxS(U:X.K=cl.K)(J:X.A.units+64<cLine):OpD X cl (compareOp .In) inD:=by
 intro pins s σ H x y v u Q I c a h;obtain⟨w,d,e,r,rfl,g,f,hg,q⟩:=h;obtain⟨b,hb,rfl⟩:=ybx.mp hg;unfold zzt at hb;split at hb
 ·cases hb;obtain rfl:=g.strI;obtain rfl:=f.strI;exact znk pins s σ w.H _ _ v u Q I c a ⟨_,_,rfl,rfl,q _ w (Grow.refl _) (.bl _)⟩
 ·cases hb
def zu5(J:X.K=cl.K)(U:X.A.units+64<cLine):OpD X cl (compareOp .NotIn) zhZ:=by
 intro pins s σ H x y v u Q I i g h;obtain⟨w,d,e,r,rfl,k,j,hg,q⟩:=h;unfold zhZ at hg;split at hg
 ·split at hg
  ·rename_i hf;cases hg;rw[yab]at hf;obtain⟨bs,f⟩:=zjB I J k hf.1 i;obtain⟨a,xs,rfl,e,rs⟩:=j.lstI;cases g;obtain⟨aa,c,p,_⟩:=I.list (SqL.of (K:=X.K) e);obtain⟨as,b⟩:=zfM I J rs hf.2 c;refine SeqAt.notIn_listAt _ p.isList (zey U f hf.1 b hf.2) ?_;rw[zg0 b hf.2];exact⟨.bl _,w.H,I,rfl,q _ w (Grow.refl _) (.bl _)⟩
  ·cases hg
 ·split at hg
  ·rename_i hf;cases hg;rw[yab]at hf;obtain⟨bs,f⟩:=zjB I J k hf.1 i;obtain⟨a,xs,rfl,e,_,rs⟩:=j.tupI;cases g;obtain⟨aa,c,p,_⟩:=I.tuple (SqT.of (K:=X.K) e);obtain⟨as,b⟩:=zfM I J rs hf.2 c;refine SeqAt.notIn_tupleAt _ p (zey U f hf.1 b hf.2) ?_;rw[zg0 b hf.2];exact⟨.bl _,w.H,I,rfl,q _ w (Grow.refl _) (.bl _)⟩
  ·cases hg
 ·cases hg
def zb6:D->D->Option D
 |.int i,.int j=>some (.int (i+j))|.tup a,.tup b=>if zax (a.length+b.length)then some (.tup (a++b))else none
 |.lst a,.lst b=>if zax (a.length+b.length)then some (.lst (a++b))else none
 |.str a,.str b=>if zax (a.length+b.length)then some (.str (a++b))else none
 |_,_=>none
def zvb:OpD X cl (binaryOp .Add) zb6:=by
 intro pins s σ H x y v u Q I k g h;obtain⟨w,d,e,r,rfl,A,t,hg,q⟩:=h;unfold zb6 at hg;split at hg
 ·cases hg;rename_i i j;obtain rfl:=A.intI;obtain rfl:=t.intI;exact zu2 pins s σ w.H _ _ v u Q I k g ⟨i,j,rfl,rfl,q _ w (Grow.refl _) (.int _)⟩
 ·rename_i a b;split at hg
  ·rename_i m;cases hg;obtain⟨p,xs,rfl,ep,kp,rs⟩:=A.tupI;obtain⟨p2,ys,rfl,f,B,c⟩:=t.tupI
   by_cases n:xs=[]
   ·subst n;cases rs;exact zpw pins s σ w.H _ _ v u Q I k g ⟨p,p2,ys,rfl,rfl,SqT.of ep,SqT.of f,q _ w (Grow.refl _) (.tup f B c)⟩
   ·refine zsx pins s σ w.H _ _ v u Q I k g ⟨p,p2,xs,ys,rfl,rfl,SqT.of ep,SqT.of f,n,by rw[rs.length,c.length];exact zaM m,fun z=>?_,fun z l o=>?_⟩
    ·subst z;cases c;rw[yaO]at q;exact q _ w (Grow.refl _) (.tup ep kp rs)
    ·exact q _ (w.add l _) (zaq o _) (Shd.newT o (rs.append c))
  ·cases hg
 ·rename_i a b;split at hg
  ·rename_i m;cases hg;obtain⟨p,xs,rfl,ep,rs⟩:=A.lstI;obtain⟨p2,ys,rfl,f,c⟩:=t.lstI;exact zu1 pins s σ w.H _ _ v u Q I k g ⟨p,p2,xs,ys,rfl,rfl,ep,f,by rw[rs.length,c.length];exact zaM m,fun l o=>q _ (w.add l _) (zaq o _) (Shd.newL o (rs.append c))⟩
  ·cases hg
 ·rename_i a b;split at hg
  ·rename_i m;cases hg;obtain rfl:=A.strI;obtain rfl:=t.strI;exact zlE pins s σ w.H _ _ v u Q I k g ⟨a,b,rfl,rfl,zaM m,q _ w (Grow.refl _) (.str _)⟩
  ·cases hg
 ·cases hg
noncomputable def ztU:D->D->Option D|.int i,.int j=>some (.int (i-j))|_,_=>none
def zu4:OpD X cl (binaryOp .Sub) ztU:=by
 intro pins s σ H x y v u Q I b a h;obtain⟨w,d,e,r,rfl,f,c,hg,q⟩:=h;unfold ztU at hg;split at hg
 ·cases hg;rename_i i j;obtain rfl:=f.intI;obtain rfl:=c.intI;exact zuW pins s σ w.H _ _ v u Q I b a ⟨i,j,rfl,rfl,q _ w (Grow.refl _) (.int _)⟩
 ·cases hg
noncomputable def zcA(i:Int):Bool:=decide (-(2 ^ 64)<i/\i<2 ^ 64)
def zjF:D->D->Option D
 |.int i,.int j=>if zcA i||zcA j then some (.int (i*j))else none
 |.tup a,.int j=>if decide (1<=j/\j<=1000/\a≠[]/\a.length<=1000)then some (.tup (List.replicate j.toNat a).flatten)else none
 |_,_=>none
theorem zu6:OpD X cl (binaryOp .Mult) zjF:=by
 intro pins s σ H x y v u Q I g f h;obtain⟨w,d,e,r,rfl,C,B,hg,q⟩:=h;unfold zjF at hg;split at hg
 ·rename_i i j;split at hg
  ·rename_i c;cases hg;obtain rfl:=C.intI;obtain rfl:=B.intI;refine zuX pins s σ w.H _ _ v u Q I g f ⟨i,j,rfl,rfl,?_,q _ w (Grow.refl _) (.int _)⟩;rw[ycS]at c;exact c.imp (fun z=>yag z) fun z=>yag z
  ·cases hg
 ·rename_i a j;split at hg
  ·rename_i c;cases hg;have m:=yag c;obtain⟨p,xs,rfl,ep,kp,rs⟩:=C.tupI;obtain rfl:=B.intI;have b:=rs.length;obtain⟨k,rfl⟩:∃k:Nat,j=(k:Int):=⟨j.toNat,by omega⟩;have A:xs≠[]:=fun z=>m.2.2.1 (by cases a with|nil=>rfl|cons _ _=>rw[z]at b;cases b)
   by_cases hk:k=1
   ·subst hk;cases g;obtain⟨t,rfl⟩:=f;obtain⟨aa,F,⟨o,D,E,n,hd⟩,_⟩:=I.tuple (SqT.of (K:=X.K) ep);refine PySem.zpB D E hd ⟨.ref p,w.H,I,rfl,q _ w (Grow.refl _) (.tup ep kp ?_)⟩;simpa using rs
   ·refine zsu pins s σ w.H _ _ v u Q I g f ⟨p,k,xs,rfl,rfl,SqT.of ep,A,by omega,by omega,by omega,fun l b=>q _ (w.add l _) (zaq b _) (Shd.newT b (rs.flat _))⟩
  ·cases hg
 ·cases hg
noncomputable def zqW:D->D->Option D|.int i,.int j=>if 0<j then some (.int (i % j))else none|_,_=>none
noncomputable def zv0:D->D->Option D|.int i,.int j=>if 0<j/\j<1073741824 then some (.int (i / j))else none|_,_=>none
def zu7:OpD X cl (binaryOp .Mod) zqW:=by
 intro pins s σ H x y v u Q I b a h;obtain⟨w,d,e,r,rfl,g,f,hg,q⟩:=h;unfold zqW at hg;split at hg
 ·rename_i i j;split at hg
  ·rename_i c;cases hg;obtain rfl:=g.intI;obtain rfl:=f.intI;exact zuY pins s σ w.H _ _ v u Q I b a ⟨i,j,rfl,rfl,c,q _ w (Grow.refl _) (.int _)⟩
  ·cases hg
 ·cases hg
def zva:OpD X cl (binaryOp .FloorDiv) zv0:=by
 intro pins s σ H x y v u Q I b a h;obtain⟨w,d,e,r,rfl,g,f,hg,q⟩:=h;unfold zv0 at hg;split at hg
 ·rename_i i j;split at hg
  ·rename_i c;cases hg;obtain rfl:=g.intI;obtain rfl:=f.intI;exact zsw pins s σ w.H _ _ v u Q I b a ⟨i,j,rfl,rfl,c,q _ w (Grow.refl _) (.int _)⟩
  ·cases hg
 ·cases hg
noncomputable def zsD:D->Option D|.int i=>some (.int (-i))|_=>none
def ztA:UnD X cl (unaryOp .USub) zsD:=by
 intro pins s σ H x v Q I a h;obtain⟨w,d,r,rfl,b,hg,q⟩:=h;unfold zsD at hg;split at hg
 ·cases hg;rename_i i;obtain rfl:=b.intI;exact ztz pins s σ w.H _ v Q I a ⟨i,rfl,q _ w (Grow.refl _) (.int _)⟩
 ·cases hg
noncomputable def zv9(p:Int->Int->Bool):D->D->Option D|.int i,.int j=>some (.bl (p i j))|_,_=>none
def zjD(ho:OpR X (compareOp op) (rI0 fun i j=>.bl (p i j))):OpD X cl (compareOp op) (zv9 p):=by
 intro pins s σ H x y v u Q I b a h;obtain⟨w,d,e,r,rfl,f,c,hg,q⟩:=h;unfold zv9 at hg;split at hg
 ·cases hg;rename_i i j;obtain rfl:=f.intI;obtain rfl:=c.intI;exact ho pins s σ w.H _ _ v u Q I b a ⟨i,j,rfl,rfl,q _ w (Grow.refl _) (.bl _)⟩
 ·cases hg
noncomputable def zx0:D->D->Option D
 |.str a,.str b=>some (.bl (!decide (b.cps.toList<a.cps.toList)))|d,e=>zv9 (fun i j=>decide (i<=j)) d e
def zu8:OpD X cl (compareOp .LtE) zx0:=by
 intro pins s σ H x y v u Q I f c h;obtain⟨w,d,e,r,rfl,i,g,hg,q⟩:=h;unfold zx0 at hg;split at hg
 ·cases hg;rename_i a b;obtain rfl:=i.strI;obtain rfl:=g.strI;exact zuZ pins s σ w.H _ _ v u Q I f c ⟨a,b,rfl,rfl,q _ w (Grow.refl _) (.bl _)⟩
 ·exact zjD zxO pins s σ w.H _ _ v u Q I f c ⟨w,_,_,r,rfl,i,g,hg,q⟩
noncomputable def zdp:D->Bool|.non=>true|_=>false
def zji(d e:D):Option D:=if zdp e then some (.bl (zdp d))else none
def zlF(d e:D):Option D:=if zdp e then some (.bl (!zdp d))else none
def TopV.non_iff(h:TopV cl w v d):decide (v=.non)=zdp d:=by
 cases h with
 |sh h=>cases h<;>simp[zdp]|ow e t=>cases t<;>simp[zdp]
def zf3(h:zdp d=true):d=.non:=by cases d<;>simp[zdp]at h;rfl
def zu9:OpD X cl (compareOp .Is) zji:=by
 intro pins s σ H x y v u Q I c b h;obtain⟨w,d,e,r,rfl,g,a,hg,q⟩:=h;unfold zji at hg;split at hg
 ·rename_i f;cases hg;rw[zf3 f]at a;obtain rfl:=a.nonI;refine zu0 pins s σ w.H _ _ v u Q I c b ⟨rfl,?_⟩;rw[g.non_iff];exact q _ w (Grow.refl _) (.bl _)
 ·cases hg
def zsA:OpD X cl (compareOp .IsNot) zlF:=by
 intro pins s σ H x y v u Q I c b h;obtain⟨w,d,e,r,rfl,g,a,hg,q⟩:=h;unfold zlF at hg;split at hg
 ·rename_i f;cases hg;rw[zf3 f]at a;obtain rfl:=a.nonI;refine zsv pins s σ w.H _ _ v u Q I c b ⟨rfl,?_⟩;rw[g.non_iff];exact q _ w (Grow.refl _) (.bl _)
 ·cases hg
def ixD:D->D->Option D
 |.lst l,.int i=>atI l i|.tup l,.int i=>atI l i|.scr l,.int i=>(atI l i).map D.int|.str x,.int i=>if zax x.length then(atI x.cps.toList i).map fun c=>.str ⟨#[c]⟩else none
 |_,_=>none
def zkj(r:Shds cl w xs ds)(h:atI ds i=some d):∃v,atI xs i=some v/\Shd cl w v d:=by
 unfold atI at h ⊢;rw[r.length]
 cases e:ixN ds.length i with
 |none=>rw[e]at h;cases h|some j=>
  rw[e]at h;exact r.at h
def zyf(J:X.K=cl.K)(U:X.A.units+64<cLine):IxD X cl ixD:=by
 intro value slice pins s σ H x y v u Q I m g h a;obtain⟨w,d,e,r,rfl,o,n,hg,q⟩:=h;unfold ixD at hg;split at hg
 ·rename_i l i;obtain⟨p,xs,rfl,ep,rs⟩:=o.lstI;obtain rfl:=n.intI;obtain⟨z,f,e2⟩:=zkj rs hg;exact znN value slice pins s σ w.H _ _ v u Q I m g ⟨p,xs,i,z,rfl,rfl,SqL.of ep,f,q _ w (Grow.refl _) e2⟩ a
 ·rename_i l i;obtain⟨p,xs,rfl,ep,_,rs⟩:=o.tupI;obtain rfl:=n.intI;obtain⟨z,f,e2⟩:=zkj rs hg;exact zvI value slice pins s σ w.H _ _ v u Q I m g ⟨p,xs,i,z,rfl,rfl,SqT.of ep,f,q _ w (Grow.refl _) e2⟩ a
 ·rename_i l i;obtain⟨p,rfl,ep⟩:=o.scrI J;obtain rfl:=n.intI
  cases b:atI l i with
  |none=>rw[b]at hg;cases hg|some k=>
   rw[b]at hg;cases hg
   have f:atI (l.map V.int) i=some (.int k):=by
    unfold atI at b ⊢;rw[yae]
    cases e:ixN l.length i with
    |none=>rw[e]at b;cases b|some j=>
     rw[e]at b;have t:l[j]?=some k:=b;show(l.map V.int)[j]?=_;rw[yax,t];rfl
   exact znN value slice pins s σ w.H _ _ v u Q I m g ⟨p,_,i,_,rfl,rfl,ep,f,q _ w (Grow.refl _) (.int _)⟩ a
 ·rename_i x i;split at hg
  ·rename_i B;obtain⟨c,C,rfl⟩:=ybx.mp hg;obtain rfl:=o.strI;obtain rfl:=n.intI;exact zvJ value slice pins s σ w.H _ _ v u Q I m g ⟨x,i,c,rfl,rfl,zaM B,C,q _ w (Grow.refl _) (.str _)⟩ a
  ·cases hg
 ·cases hg
def zd1:List D->Option D
 |[.lst l]=>some (.int l.length)|[.tup l]=>some (.int l.length)|[.scr l]=>some (.int l.length)|[.str x]=>if zax x.length then some (.int x.length)else none
 |_=>none
def zwe(J:X.K=cl.K):zjg X cl (.builtin "len") zd1:=by
 intro pins s σ H xs us Q I r h;obtain⟨w,ds,d,rfl,a,hg,q⟩:=h;unfold zd1 at hg;split at hg
 ·rename_i l;cases hg
  cases a with
  |cons h1 h2=>
   cases h2;obtain⟨p,ys,rfl,ep,rs⟩:=h1.lstI;refine zcD pins s σ w.H _ us Q I r ⟨p,ys,rfl,.inl (SqL.of ep),?_⟩;rw[rs.length];exact q _ w (Grow.refl _) (.int _)
 ·rename_i l;cases hg
  cases a with
  |cons h1 h2=>
   cases h2;obtain⟨p,ys,rfl,ep,_,rs⟩:=h1.tupI;refine zcD pins s σ w.H _ us Q I r ⟨p,ys,rfl,.inr (SqT.of ep),?_⟩;rw[rs.length];exact q _ w (Grow.refl _) (.int _)
 ·rename_i l;cases hg
  cases a with
  |cons h1 h2=>
   cases h2;obtain⟨p,rfl,ep⟩:=h1.scrI J;refine zcD pins s σ w.H _ us Q I r ⟨p,l.map V.int,rfl,.inl ep,?_⟩;rw[yae];exact q _ w (Grow.refl _) (.int _)
 ·rename_i x;split at hg
  ·rename_i b;cases hg
   cases a with
   |cons h1 h2=>
    cases h2;obtain rfl:=h1.strI;exact zi7 pins s σ w.H _ us Q I r ⟨x,rfl,zaM b,q _ w (Grow.refl _) (.int _)⟩
  ·cases hg
 ·cases hg
noncomputable def zbu:List D->Option D
 |[.lst l]=>some (.tup l)|[.tup l]=>some (.tup l)|_=>none
def zqe:zjg X cl (.type "tuple") zbu:=by
 intro pins s σ H xs us Q I r h;obtain⟨w,ds,d,rfl,a,hg,q⟩:=h;unfold zbu at hg;split at hg
 ·rename_i l;cases hg
  cases a with
  |cons h1 h2=>
   cases h2;obtain⟨p,ys,rfl,ep,rs⟩:=h1.lstI;exact zeI pins s σ w.H _ us Q I r ⟨p,ys,rfl,.inl ⟨SqL.of ep,fun l b=>q _ (w.add l _) (zaq b _) (Shd.newT b rs)⟩⟩
 ·rename_i l;cases hg
  cases a with
  |cons h1 h2=>
   cases h2;obtain⟨p,ys,rfl,ep,kp,rs⟩:=h1.tupI;exact zeI pins s σ w.H _ us Q I r ⟨p,ys,rfl,.inr ⟨SqT.of ep,q _ w (Grow.refl _) (.tup ep kp rs)⟩⟩
 ·cases hg
noncomputable def zhU:List D->Option (List Bool)
 |[]=>some []|.bl b::l=>(zhU l).map (b::·)|_=>none
def zqn:∀{xs:List V},Shds cl w xs ds->zhU ds=some bs->xs=bs.map V.bl:=by
 induction ds generalizing bs with
 |nil=>intro xs r h;cases r;cases h;rfl|cons d ds c=>
  intro xs r e
  cases r with
  |cons h t=>
   cases d with
   |bl b=>
    cases h;unfold zhU at e
    cases a:zhU ds with
    |none=>rw[a]at e;cases e|some cs=>rw[a]at e;cases e;rw[c t a];rfl
   |_=>cases e
def zk9:List D->Option D
 |[.lst l]=>(zhU l).map fun bs=>.bl (bs.all id)|_=>none
def zwf(J:X.calm=true):zjg X cl (.builtin "all") zk9:=by
 intro pins s σ H xs us Q I r h;obtain⟨w,ds,d,rfl,a,hg,q⟩:=h;unfold zk9 at hg;split at hg
 ·rename_i l
  cases hb:zhU l with
  |none=>rw[hb]at hg;cases hg|some bs=>
   rw[hb]at hg;cases hg
   cases a with
   |cons h1 h2=>
    cases h2;obtain⟨p,ys,rfl,ep,rs⟩:=h1.lstI;obtain rfl:=zqn rs hb;exact zjU J pins s σ w.H _ us Q I r ⟨p,bs,rfl,SqL.of ep,q _ w (Grow.refl _) (.bl _)⟩
 ·cases hg
noncomputable def zcV:List D->Option (List Int)
 |[]=>some []|.int b::l=>(zcV l).map (b::·)|_=>none
def zf4:∀{xs:List V},Shds cl w xs ds->zcV ds=some bs->xs=bs.map V.int:=by
 induction ds generalizing bs with
 |nil=>intro xs r h;cases r;cases h;rfl|cons d ds c=>
  intro xs r e
  cases r with
  |cons h t=>
   cases d with
   |int b=>
    cases h;unfold zcV at e
    cases a:zcV ds with
    |none=>rw[a]at e;cases e|some cs=>rw[a]at e;cases e;rw[c t a];rfl
   |_=>cases e
def zto:List D->Option D
 |[.tup l]=>(zcV l).bind fun ns=>if decide (ns.length<=1000)&&ns.all (fun n=>decide (0<=n/\n<=1000000))then some (.int ns.sum)else none
 |_=>none
def zwb(J:X.calm=true):zjg X cl (.builtin "sum") zto:=by
 intro pins s σ H xs us Q I r h;obtain⟨w,ds,d,rfl,b,hg,q⟩:=h;unfold zto at hg;split at hg
 ·rename_i l
  cases hb:zcV l with
  |none=>rw[hb]at hg;cases hg|some ns=>
   rw[hb]at hg;dsimp only[Option.bind]at hg;split at hg
   ·rename_i a;cases hg;rw[yab,ybj]at a
    cases b with
    |cons h1 h2=>
     cases h2;obtain⟨p,ys,rfl,ep,_,rs⟩:=h1.tupI;obtain rfl:=zf4 rs hb;exact zqh J pins s σ w.H _ us Q I r ⟨p,ns,rfl,SqT.of ep,yag a.1,fun n c=>yag (a.2 n c),q _ w (Grow.refl _) (.int _)⟩
   ·cases hg
 ·cases hg
end
end S2
namespace L2
open PySem PySem.Spec PyProof.Rows
end L2
namespace S2
open PySem PySem.Spec PyProof.Rows L2
def zcm(g g':D->D->Option D)(f h k:Fe):Fe:=fun ρ S=>(f ρ S).bind fun a S1=>(h ρ S1).bind fun b S2=>match(g a b).bind isB with
 |some true=>(k ρ S2).bind fun c d=>Out.of (g' b c) d|some false=>.ok (.bl false) S2|none=>.bad
section
variable{X:Cx}{cl:Cf}{E:St->XK}{a b c e:Expr}{f h k:Fe}{pos:Pos}
def zkc(U:∀x y H Q,(∃w d e r,w.H=H/\TopV cl w x d/\TopV cl w y e/\g d e=some r/\∀v w',Grow w w'->Shd cl w' v r->Q v w'.H)->r x y H Q)
  (J:∀x y H Q,(∃w d e r,w.H=H/\TopV cl w x d/\TopV cl w y e/\g' d e=some r/\∀v w',Grow w w'->Shd cl w' v r->Q v w'.H)->r' x y H Q) (q:tE cl E (zcm g g' f h k) σ H Q):zmr r r' (tH cl E f) (tH cl E h) (tH cl E k) σ H Q:=by
 obtain⟨B,w,ρ,S,rfl,R,q⟩:=q;refine⟨B,w,ρ,S,rfl,R,?_⟩;unfold zcm at q
 cases hf:f ρ S with
 |bad=>rwa[hf]at q|exc c S1=>rwa[hf]at q|ok d S1=>
  rw[hf]at q;intro v F L n h1;refine⟨B,F,ρ,S1,rfl,L,?_⟩;dsimp only[Out.bind]at q
  cases hh:h ρ S1 with
  |bad=>rwa[hh]at q|exc c S2=>rw[hh]at q;exact fun p R2 b=>q p R2 (n.trans b)|ok e S2=>
   rw[hh]at q;intro y p R2 b h2;dsimp only at q
   cases hg:g d e with
   |none=>rw[hg]at q;exact q.elim|some z=>
    rw[hg]at q;dsimp only[Option.bind]at q
    cases hb:isB z with
    |none=>rw[hb]at q;exact q.elim|some A=>
     rw[hb]at q;rw[zdT hb]at hg;refine U _ _ _ _ ⟨p,d,e,_,rfl,(h1.up b).top R2,h2.top R2,hg,fun u t j sh=>⟨A,zii sh,?_⟩⟩;have C:=R2.grow j
     cases A with
     |false=>exact zq3 (q _ t C (n.trans (b.trans j.fut)) (.bl _))|true=>
      refine zq2 ⟨B,t,ρ,S2,rfl,C,?_⟩;dsimp only at q
      cases hk:k ρ S2 with
      |bad=>rwa[hk]at q|exc c K=>rw[hk]at q;exact fun o l m=>q o l (n.trans (b.trans (j.fut.trans m)))|ok c K=>
       rw[hk]at q;intro M o l m I;dsimp only at q
       cases a:g' e c with
       |none=>rw[a]at q;exact q.elim|some G=>
        rw[a]at q;exact J _ _ _ _ ⟨o,e,c,G,rfl,(h2.up (j.fut.trans m)).top l,I.top l,a,fun u D i s=>q u D (l.grow i) (n.trans (b.trans (j.fut.trans (m.trans i.fut)))) s⟩
def zo2(ho:OpD X cl (compareOp op) g)(U:OpD X cl (compareOp J) g')(ha:PE X a (tH cl E f))(hb:PE X b (tH cl E h))(hc:PE X c (tH cl E k))(hm:lastMarks [op,J] [b,c]=false):PE X (.Compare a [op,J] [b,c] pos) (tE cl E (zcm g g' f h k)):=
 PE.imp (zps ho U ha hb hc hm) fun _ _ _ q=>zkc (fun _ _ _ _ z=>z) (fun _ _ _ _ z=>z) q
def zoT(ho:OpD X cl (compareOp op) g)(U:OpD X cl (compareOp J) g')(ha:PE X a (tH cl E f))(hb:PE X b (tH cl E h))(hc:PE X c (tH cl E k))(hm:lastMarks [op,J] [b,c]=false):PT X (.Compare a [op,J] [b,c] pos) (tTr cl E (zcm g g' f h k)):=
 PT.imp (zpc ho U ha hb hc hm) fun _ _ _ q=>zkc (fun _ _ _ _ z=>z) (fun _ _ _ _ z=>z) (zh8 q)
def zol{α:Type}(l:List α)(lo hi:Option Int):List α:=(l.drop (HT.sIx l.length 0 lo)).take (HT.sIx l.length l.length hi-HT.sIx l.length 0 lo)
def slD(d:D)(lo hi:Option Int):Option D:=match d with
 |.lst l=>some (.lst (zol l lo hi))|.tup l=>some (.tup (zol l lo hi))|.str x=>if zax x.length then some (.str (Txt.slice x lo hi))else none
 |_=>none
def zdq(o:Option Fe)(ρ:Env)(S:Sto):Out (Option Int):=match o with
 |none=>.ok none S|some f=>(f ρ S).bind fun d S1=>match d with|.int i=>.ok (some i) S1|_=>.bad
def eSl(f:Fe)(lo hi:Option Fe):Fe:=fun ρ S=>(f ρ S).bind fun d S1=>(zdq lo ρ S1).bind fun l S2=>(zdq hi ρ S2).bind fun u a=>Out.of (slD d l u) a
def zi4(r:Shds cl w xs ds)(lo hi:Option Int):Shds cl w (zq9 xs lo hi) (zol ds lo hi):=by
 unfold zq9 zol;rw[r.length];exact(r.drop _).take _
noncomputable def SlD(X:Cx)(cl:Cf):Prop:=SlR X fun x lo hi H Q=>∃w d r,w.H=H/\TopV cl w x d/\slD d lo hi=some r/\∀v w',Grow w w'->Shd cl w' v r->Q v w'.H
def zxA:SlD X cl:=by
 intro pins s σ H x v c b lo hi e Q I f hs pl pu h;obtain⟨w,d,r,rfl,n,hg,q⟩:=h;unfold slD at hg;split at hg
 ·rename_i l;cases hg;obtain⟨p,xs,rfl,ep,rs⟩:=n.lstI;exact zrN pins s σ w.H _ v c b lo hi e Q I f hs pl pu ⟨p,xs,rfl,SqL.of ep,fun m a=>q _ (w.add m _) (zaq a _) (Shd.newL a (zi4 rs lo hi))⟩
 ·rename_i l;cases hg;obtain⟨p,xs,rfl,ep,kp,rs⟩:=n.tupI
  by_cases hw:HT.sIx xs.length 0 lo=0/\HT.sIx xs.length xs.length hi=xs.length
  ·refine zlk pins s σ w.H _ v c b lo hi e Q I f hs pl pu ⟨p,xs,rfl,SqT.of ep,hw.1,hw.2,q _ w (Grow.refl _) (.tup ep kp ?_)⟩
   have:zol l lo hi=l:=by
    unfold zol;rw[<-rs.length,hw.1,hw.2,ydw,Nat.sub_zero,yby (by rw[rs.length];exact yaj _)]
   rw[this];exact rs
  ·exact zt7 pins s σ w.H _ v c b lo hi e Q I f hs pl pu ⟨p,xs,rfl,SqT.of ep,hw,fun m a=>q _ (w.add m _) (zaq a _) (Shd.newT a (zi4 rs lo hi))⟩
 ·rename_i x;split at hg
  ·rename_i y;cases hg;obtain rfl:=n.strI;obtain⟨t,rfl⟩:=f;obtain⟨o,z,B,hd⟩:=hs
   have fin:∀l u:Option (Int×Tok),c=partValue l->b=partValue u->lo=l.map (·.1)->hi=u.map (·.1)->wpAny (model X.prog X.w) X.A (getItem (.str x t) (.ref e)) (EP X pins σ Q) X.xe s:=fun l u E e2 D C=>by
    subst E e2 D C;refine wpAny_getItem_str_slice (st:=none) ⟨o,z,B,hd⟩ rfl ?_;exact post_val_or_str ⟨yas (Txt.slice_le x _ _) (zaM y),fun t' k=>⟨.str _,w.H,I.tok _,⟨_,rfl⟩,q _ w (Grow.refl _) (.str _)⟩⟩
   refine⟨"str",_,F.slot_str_getitem.lookup,ycq _ _ _,?_⟩
   cases pl with
   |none=>cases pu with
    |none=>exact fin none none rfl rfl rfl rfl|int j g=>exact fin none (some (j,g)) rfl rfl rfl rfl
   |int i ti=>cases pu with
    |none=>exact fin (some (i,ti)) none rfl rfl rfl rfl|int j g=>exact fin (some (i,ti)) (some (j,g)) rfl rfl rfl rfl
  ·cases hg
 ·cases hg
noncomputable def zwD(cl:Cf)(E:St->XK)(o:Option Fe):TO:=match o with|none=>zmp|some f=>ztJ (tH cl E f)
def zxu{lo hi:Option Expr}{fl J:Option Fe}{p2:Pos}(he:PE X e (tH cl E f))(hl:PO X lo (zwD cl E fl))(U:PO X hi (zwD cl E J)):PE X (.Subscript e (.Slice lo hi none p2) pos) (tE cl E (eSl f fl J)):=by
 refine PE.imp (zpk (zxA (cl:=cl)) he hl U) ?_;rintro σ H Q ⟨B,w,ρ,S,rfl,R,q⟩;refine⟨B,w,ρ,S,rfl,R,?_⟩;unfold eSl at q
 cases hf:f ρ S with
 |bad=>rwa[hf]at q|exc c S1=>rwa[hf]at q|ok d S1=>
  rw[hf]at q;intro v m s o h1;dsimp only[Out.bind]at q
  have last:∀(l u:Option Int) (a:Wd) (g:Sto),Rel cl B σ a ρ g->Fut m a->(match Out.of (slD d l u) g with
    |.ok d S'=>∀v w',Rel cl B σ w' ρ S'->Fut w w'->Shd cl w' v d->Q v w'.H|.exc c S'=>∀w',Rel cl B σ w' ρ S'->Fut w w'->E σ (.ref (cl c)) none w'.H|.bad=>False)->∃w d r,w.H=a.H/\TopV cl w v d/\slD d l u=some r/\∀v w',Grow w w'->Shd cl w' v r->Q v w'.H:=by
   intro l u a g h F3 n
   cases hg:slD d l u with
   |none=>rw[hg]at n;exact n.elim|some r=>
    rw[hg]at n;exact⟨a,d,r,rfl,(h1.up F3).top h,hg,fun t w' p sh=>n t w' (h.grow p) (o.trans (F3.trans p.fut)) sh⟩
  have second:∀(l:Option Int) (j:Wd) (S2:Sto),Rel cl B σ j ρ S2->Fut m j->(match(zdq J ρ S2).bind fun u g=>Out.of (slD d l u) g with
    |.ok d S'=>∀v w',Rel cl B σ w' ρ S'->Fut w w'->Shd cl w' v d->Q v w'.H|.exc c S'=>∀w',Rel cl B σ w' ρ S'->Fut w w'->E σ (.ref (cl c)) none w'.H|.bad=>False)->zwD cl E J σ j.H fun u A=>∃w d r,w.H=A/\TopV cl w v d/\slD d l u=some r/\∀v w',Grow w w'->Shd cl w' v r->Q v w'.H:=by
   intro l j S2 R2 k b
   cases J with
   |none=>exact last l none j S2 R2 k b|some J=>
    refine⟨B,j,ρ,S2,rfl,R2,?_⟩;unfold zdq at b;dsimp only at b
    cases hh:J ρ S2 with
    |bad=>rwa[hh]at b|exc c g=>rw[hh]at b;exact fun a h F3=>b a h (o.trans (k.trans F3))|ok z g=>
     rw[hh]at b;intro y a h F3 x;dsimp only[Out.bind]at b
     cases z with
     |int i=>
      refine⟨i,(x.top h).intI,?_⟩;exact last l (some i) a g h (k.trans F3) b
     |_=>exact b.elim
  cases fl with
  |none=>exact second none m S1 s (Fut.refl _) q|some fl=>
   refine⟨B,m,ρ,S1,rfl,s,?_⟩;unfold zdq at q;dsimp only at q
   cases hh:fl ρ S1 with
   |bad=>rwa[hh]at q|exc c g=>rw[hh]at q;exact fun a h F3=>q a h (o.trans F3)|ok dl S2=>
    rw[hh]at q;intro y j R2 k h2;dsimp only[Out.bind]at q
    cases dl with
    |int i=>
     refine⟨i,(h2.top R2).intI,?_⟩;exact second (some i) j S2 R2 k q
    |_=>exact q.elim
noncomputable def zeA(T:String)(d:D):Option D:=
 if T="int"then(match d with|.int _=>some (.bl true)|.bl _=>some (.bl true)|.non=>some (.bl false)|.str _=>some (.bl false)|.tup _=>some (.bl false)|.lst _=>some (.bl false)|_=>none)
 else if T="bool"then(match d with|.int _=>some (.bl false)|.bl _=>some (.bl true)|.non=>some (.bl false)|.str _=>some (.bl false)|.tup _=>some (.bl false)|.lst _=>some (.bl false)|_=>none)
 else if T="tuple"then(match d with|.int _=>some (.bl false)|.bl _=>some (.bl false)|.non=>some (.bl false)|.str _=>some (.bl false)|.tup _=>some (.bl true)|.lst _=>some (.bl false)|_=>none)
 else if T="str"then(match d with|.int _=>some (.bl false)|.bl _=>some (.bl false)|.non=>some (.bl false)|.str _=>some (.bl true)|.tup _=>some (.bl false)|.lst _=>some (.bl false)|_=>none)
 else none
def zdU{K:PySem.W.Frag}{t:Value}{r:D}{T:String}{b1 b2 U J:Bool}(hg:(if T="int"then some (D.bl b1)else if T="bool"then some (.bl b2)else if T="tuple"then some (.bl U)else if T="str"then some (.bl J)else none)=some r)(k1:PySem.W.kitOne K t (.type "int")=some b1)(k2:PySem.W.kitOne K t (.type "bool")=some b2)(k3:PySem.W.kitOne K t (.type "tuple")=some U)(k4:PySem.W.kitOne K t (.type "str")=some J):∃b,PySem.W.kitOne K t (.type T)=some b/\r=.bl b:=by
 split at hg
 ·rename_i e;cases hg;exact⟨b1,by rw[e];exact k1,rfl⟩
 split at hg
 ·rename_i e;cases hg;exact⟨b2,by rw[e];exact k2,rfl⟩
 split at hg
 ·rename_i e;cases hg;exact⟨U,by rw[e];exact k3,rfl⟩
 split at hg
 ·rename_i e;cases hg;exact⟨J,by rw[e];exact k4,rfl⟩
 ·cases hg
def zsY{r:D}{T:String}(hg:(if T="int"then none else if T="bool"then none else if T="tuple"then none else if T="str"then none else none)=some r):False:=by
 simp at hg
def zsX{K:PySem.W.Frag}{w:Wd}(h:TopV cl w v d)(hg:zeA T d=some r):∃t b,TyOf K w.H v t/\PySem.W.kitOne K t (.type T)=some b/\r=.bl b:=by
 cases d with
 |int i=>obtain rfl:=h.intI;obtain⟨b,h1,h2⟩:=zdU (K:=K) (t:=.type "int") hg (by with_unfolding_all rfl) (by with_unfolding_all rfl) (by with_unfolding_all rfl) (by with_unfolding_all rfl);exact⟨_,b,.int _,h1,h2⟩
 |bl i=>obtain rfl:=h.blI;obtain⟨b,h1,h2⟩:=zdU (K:=K) (t:=.type "bool") hg (by with_unfolding_all rfl) (by with_unfolding_all rfl) (by with_unfolding_all rfl) (by with_unfolding_all rfl);exact⟨_,b,.bl _,h1,h2⟩
 |non=>obtain rfl:=h.nonI;obtain⟨b,h1,h2⟩:=zdU (K:=K) (t:=.type "NoneType") hg (by with_unfolding_all rfl) (by with_unfolding_all rfl) (by with_unfolding_all rfl) (by with_unfolding_all rfl);exact⟨_,b,.non,h1,h2⟩
 |str i=>obtain rfl:=h.strI;obtain⟨b,h1,h2⟩:=zdU (K:=K) (t:=.type "str") hg (by with_unfolding_all rfl) (by with_unfolding_all rfl) (by with_unfolding_all rfl) (by with_unfolding_all rfl);exact⟨_,b,.str _,h1,h2⟩
 |tup i=>obtain⟨_,_,rfl,e,_⟩:=h.tupI;obtain⟨b,h1,h2⟩:=zdU (K:=K) (t:=.type "tuple") hg (by with_unfolding_all rfl) (by with_unfolding_all rfl) (by with_unfolding_all rfl) (by with_unfolding_all rfl);exact⟨_,b,.tup e,h1,h2⟩
 |lst i=>obtain⟨_,_,rfl,e,_⟩:=h.lstI;obtain⟨b,h1,h2⟩:=zdU (K:=K) (t:=.type "list") hg (by with_unfolding_all rfl) (by with_unfolding_all rfl) (by with_unfolding_all rfl) (by with_unfolding_all rfl);exact⟨_,b,.lst e,h1,h2⟩
 |_=>exact(zsY hg).elim
theorem zov:bootBuiltins "isinstance"=some (.builtin "isinstance"):=by decide +kernel
def zrY(hg:Gl X "isinstance")(hm:X.mg "isinstance"=none)(a3:Gl X x)(U:X.mg x=none)(J:bootBuiltins x=some (.type T))(hn:x ≠ "__name__")(a4:(x==("__debug__":Str))=false)(hp:zbb e=true)(he:PE X e (tH cl E f)):
  PE X (.Call (.Name "isinstance" p) [e,.Name x p2] [] pos) (tE cl E (eUn (zeA T) f)):=by
 refine PE.imp (zcw zjT hg hm zov (zbg he (zbg (zsr (v:=.ty T) a3 U J rfl hn a4) zcx rfl) (zaG hp)) (he:=zaG hp) (af:=rfl)) ?_;rintro σ H Q ⟨B,w,ρ,S,rfl,R,q⟩;refine⟨B,w,ρ,S,rfl,R,?_⟩;unfold eUn at q
 cases hf:f ρ S with
 |bad=>rwa[hf]at q|exc c S1=>rwa[hf]at q|ok d S1=>
  rw[hf]at q;intro v g a i h1;dsimp only[Out.bind]at q
  cases hg:zeA T d with
  |none=>rw[hg]at q;exact q.elim|some r=>
   rw[hg]at q;obtain⟨t,b,h2,h,rfl⟩:=zsX (K:=X.K) (h1.top a) hg;exact⟨v,t,T,b,rfl,h2,h,q _ g a i (.bl _)⟩
noncomputable def zl3(x:Str):List D:=x.cps.toList.map fun c=>D.str ⟨#[c]⟩
def zjR(f:Fe):Fi:=fun ρ S=>(f ρ S).bind fun d S1=>match d with|.str x=>.ok (zl3 x) S1|_=>.bad
def zua(he:PE X e (tE cl E f)):PI X tg e (tI cl E (zjR f)):=by
 refine PI.imp (zuM he) ?_;rintro σ H Q ⟨B,w,ρ,S,rfl,R,q⟩;refine⟨B,w,ρ,S,rfl,R,?_⟩;unfold zjR at q
 cases hf:f ρ S with
 |bad=>rwa[hf]at q|exc c S1=>rwa[hf]at q|ok d S1=>
  rw[hf]at q;intro v w' j k h';dsimp only[Out.bind]at q
  cases h' with
  |str x=>
   refine⟨x,rfl,q _ w' j k ?_⟩
   have b:(zl3 x).length=x.cps.size:=by simp[zl3]
   refine⟨fun a g i hi=>?_,fun a g=>?_,fun a g i d v H1 hd y=>?_⟩
   ·show i<x.cps.size;rw[<-b];exact hi
   ·exact b
   ·obtain⟨rfl,c,h,rfl⟩:=y;refine⟨a,rfl,Grow.refl _,?_⟩
    have e:(zl3 x)[i]?=some (.str ⟨#[c]⟩):=by
     unfold zl3;rw[yax,ybl,h];rfl
    rw[hd]at e;cases e;exact .str _
  |_=>exact q.elim
def zap(f:Fe):Fi:=fun ρ S=>(f ρ S).bind fun d S1=>match d with|.str x=>.ok (zl3 x) S1|.lst l=>.ok l S1|.tup l=>.ok l S1|_=>.bad
def zud(J:X.K=cl.K)(he:PE X e (tE cl E f)):PI X tg e (tI cl E (zap f)):=by
 intro pins s σ H a I q;obtain⟨B,w,ρ,S,rfl,R,q⟩:=q;unfold zap at q
 cases hf:f ρ S with
 |bad=>rw[hf]at q;exact q.elim|exc c S1=>
  refine zmz he pins s σ w.H a I ⟨B,w,ρ,S,rfl,R,?_⟩;unfold zk1;rw[hf]at q ⊢;exact q
 |ok d S1=>
  rw[hf]at q;dsimp only[Out.bind]at q
  cases d with
  |lst l=>
   refine zmz he pins s σ w.H a I ⟨B,w,ρ,S,rfl,R,?_⟩;unfold zk1;rw[hf];exact q
  |tup l=>
   refine zt9 he pins s σ w.H a I ⟨B,w,ρ,S,rfl,R,?_⟩;unfold zjQ;rw[hf];exact q
  |str x=>
   refine zua he pins s σ w.H a I ⟨B,w,ρ,S,rfl,R,?_⟩;unfold zjR;rw[hf];exact q
  |_=>exact q.elim
end
end S2
namespace L2
open PySem PySem.Spec PyProof.Rows
noncomputable abbrev IsT(h:Heap)(T:Addr)(os:List Value):Prop:=h.get? T=some {cls:=.type "tuple",data:=.seq os.toArray}
noncomputable abbrev Stops(h:Heap)(e:Addr):Prop:=∃o,h.get? e=some o/\o.cls=.type "StopIteration"
structure ZSt(a l m i:Nat)(f:Value)(h:Heap):Prop where
 z:IsZip h (a+4) (a+2) (a+3) f
 ti:IsT h (a+2) [.ref a,.ref (a+1)]
 to:∃x y,IsT h (a+3) [x,y]
 i1:h.IsTupleIter a l i
 i2:h.IsTupleIter (a+1) m i
section
variable{prog:Program}{w:World}{A:Around}{E:Z5}{s:Shared}{a l m k:Nat}{us vs:Array Value}
def zj5{h h':Heap}{t:Addr}(p:h.IsTuple t vs)(q:∀o,h.get? t=some o->h'.get? t=some o):h'.IsTuple t vs:=by
 obtain⟨o,a,r⟩:=p;exact⟨o,q o a,r⟩
theorem zrg{β:Type}{f:Value×Nat->β->Sem (ForInStep β)}{b:β}{Q:β->Shared->Prop}{x0 y0:Value}
  (hf:∀(c l n:Nat) (vs:Array Value) (os:List Value) (s:Shared) (Q:ForInStep β->Shared->Prop),l<c->c<a+3->os.length=2->IsZip s.heap (a+4) (a+2) (a+3) .ellipsis->IsT s.heap (a+3) os->s.heap.IsTupleIter c l k->s.heap.IsTuple l vs->k<=vs.size →
   (∀x h' tk,vs[k]?=some x->IsT h' (a+3) (os.set n x)->h'.IsTupleIter c l (k+1)->h'.objs.size=s.heap.objs.size->(∀(d:Nat) (o:Obj),d≠a+3->d≠c->s.heap.get? d=some o->h'.get? d=some o)->Q (.yield b) {s with heap:=h',toks:=tk}) →
   (k=vs.size->∀h' e tk,(∀(d:Nat) (o:Obj),d≠a+4->d≠c->s.heap.get? d=some o->h'.get? d=some o)->Stops h' e->E (.ref e) {s with heap:=h',toks:=tk})->wpAny (model prog w) A (f (.ref c,n) b) Q E s)
  (hl:l<a) (hm:m<a) (U:IsZip s.heap (a+4) (a+2) (a+3) .ellipsis) (hO:IsT s.heap (a+3) [x0,y0]) (h1:s.heap.IsTupleIter a l k) (h2:s.heap.IsTupleIter (a+1) m k) (hu:s.heap.IsTuple l us) (hv:s.heap.IsTuple m vs) (hk:k<=us.size) (J:k<=vs.size)
  (hQ:∀x y h' tk,us[k]?=some x->vs[k]?=some y->IsT h' (a+3) [x,y]->h'.IsTupleIter a l (k+1)->h'.IsTupleIter (a+1) m (k+1)->h'.objs.size=s.heap.objs.size->(∀(d:Nat) (o:Obj),d≠a->d≠a+1->d≠a+3->s.heap.get? d=some o->h'.get? d=some o)->Q b {s with heap:=h',toks:=tk})
  (hE:(k=us.size\/k=vs.size)->∀h' e tk,(∀(d:Nat) (o:Obj),(d<a\/a+4<d)->s.heap.get? d=some o->h'.get? d=some o)->Stops h' e->E (.ref e) {s with heap:=h',toks:=tk}):
  wpAny (model prog w) A (forIn [((.ref a:Value),0),(.ref (a+1),1)] b f) Q E s:=by
 rw[ydj];refine yaa (hf a l 0 us _ s _ hl (by omega) rfl U hO h1 hu hk (fun x g tk F u z r k1=>?_) (fun e h' B tk k1=>hE (.inl e) h' B tk fun d o p q=>k1 d o (by omega) (by omega) q));show wpAny _ _ (forIn [((.ref (a+1):Value),1)] b f) _ _ _;rw[ydj];refine yaa (hf (a+1) m 1 vs _ _ _ (by omega) (by omega) rfl (k1 _ _ (by omega) (by omega) U) u (h2.at fun o e=>k1 _ o (by omega) (by omega) e) (zj5 hv fun o e=>k1 _ o (by omega) (by omega) e) J (fun y g2 h D t v j k2=>?_) (fun e h' B i k2=>hE (.inr e) h' B i fun d o p q=>k2 d o (by omega) (by omega) (k1 d o (by omega) (by omega) q)));exact yaf (hQ x y g2 h F D t (z.at fun o e=>k2 _ o (by omega) (by omega) e) v (j.trans r) fun d o C p2 p3 e=>k2 d o p3 p2 (k1 d o p3 C e))
theorem zj3{Q:Z5}(hh:A.handled=none)(Z:ZSt a l m k .none s.heap)(hl:l<a)(hm:m<a)(hu:s.heap.IsTuple l us)(hv:s.heap.IsTuple m vs)(hk:k<=us.size)(U:k<=vs.size)
  (hQ:∀x y h' tk,us[k]?=some x->vs[k]?=some y->ZSt a l m (k+1) (rawInt s.heap.objs.size) h'->IsT h' s.heap.objs.size [x,y]->(∀(c:Nat) (o:Obj),(c<a\/a+4<c)->s.heap.get? c=some o->h'.get? c=some o)->Q (.ref s.heap.objs.size) {s with heap:=h',toks:=tk})
  (hE:(k=us.size\/k=vs.size)->∀h' e tk,(∀(c:Nat) (o:Obj),(c<a\/a+4<c)->s.heap.get? c=some o->h'.get? c=some o)->Stops h' e->E (.ref e) {s with heap:=h',toks:=tk}):
  wpAny (model prog w) A (Builtin.«zip.__next__» ⟨[.ref (a+4)],[]⟩) (fun fin s'=>∃v,fin=.done (.ret v)/\Q v s') E s:=by
 obtain⟨G,N,⟨x0,y0,S⟩,h1,h2⟩:=Z;show wpAny _ _ (field (.ref (a+4)) 2 >>= _) _ _ _;refine yaa (ybk G rfl (x:=.bool false) rfl ?_);show wpAny _ _ (field (.ref (a+4)) 3 >>= _) _ _ _;refine yaa (ybk G rfl (x:=.ref (a+2)) rfl ?_);refine yaa (yb4 N rfl ?_);show wpAny _ _ (Builtin.SmallTypes.ownedTupleIsFree (.ref (a+4)) >>= _) _ _ _;refine yaa ?_;unfold Builtin.SmallTypes.ownedTupleIsFree;refine yaa (ybk G rfl (x:=.none) rfl (yaf ?_));simp only[yb2];refine yaa (ycY ?_);refine yaa (ybk G rfl (x:=.ref (a+3)) rfl ?_);refine yaa (ybG G (by simp) fun g r C=>?_);replace r:IsZip g (a+4) (a+2) (a+3) .ellipsis:=r;have k₁:∀(c:Nat) (o:Obj),c≠a+4->s.heap.get? c=some o->g.get? c=some o:=fun c o J e=>C.extBut _ _ J e
 refine yaa (zrg (a:=a) (l:=l) (m:=m) (k:=k) (us:=us) (vs:=vs) (fun c l n vs os s Q J hb ho G S N hv hk O he=>?_) hl hm r (k₁ _ _ (by omega) S) (h1.at fun o e=>k₁ _ o (by omega) e) (h2.at fun o e=>k₁ _ o (by omega) e) (zj5 hu fun o e=>k₁ _ o (by omega) e) (zj5 hv fun o e=>k₁ _ o (by omega) e) hk U (fun x y b tk O X i i1 i2 f k₂=>?_) (fun e h' Y tk k'=>hE e h' Y tk fun c o J q=>k' c o J (k₁ c o (by omega) q)))
 ·have D:=zog (prog:=prog) (w:=w) hh c l (yav J) vs;refine yaa (wpAny_onRaise ?_);show wpAny _ _ (Builtin.SmallTypes.nextOf (.ref c) >>= _) _ _ _
  rcases Nat.lt_or_eq_of_le hk with P|rfl
  ·refine yaa (D.item k _ _ _ P ⟨N,hv⟩ fun x b F px I f=>yaf ?_);have i:IsT b (a+3) os:=f.extBut _ _ (ya6 hb) S;refine yaa (yb4 i rfl ?_)
   have V:os.length<=9:=by omega
   refine yaa (wpAny_updateSeq i rfl ?_ (by simp;exact yas V (by decide)) (by simp;exact yas V (by decide)));have h:=Heap.SameBut.update b (a+3) (Obj.mapSeq (·.setIfInBounds n x));refine yaa (wpAny_letGo (yaf (O x _ F px ?_ (I.1.at fun o e=>h.extBut _ _ (yav hb) e) (h.1.trans f.1) fun d o c1 c2 e=>h.extBut _ _ c1 (f.extBut _ _ c2 e))));show Heap.get? _ (a+3)=_;rw[yb0 _ i rfl];simp[Obj.mapSeq]
  ·refine yaa (D.done _ _ _ ⟨N,hv⟩ fun b e f hs=>?_);obtain⟨W,H,M⟩:=hs;have j:=f _ _ (show a+4≠c by omega) G
   have R:e≠a+4:=fun x=>by subst x;rw[j]at H;cases H;simp at M
   exact ybG j (by simp) fun L _ h=>he rfl L e _ (fun d o c1 c2 q=>h.extBut _ _ c1 (f _ _ c2 q)) ⟨W,h.extBut _ _ R H,M⟩
 ·refine yaa (yb4 i rfl ?_);refine yaa (wpAny_newTuple ?_ (hsz:=by show(2:Nat)<=_;decide));have j:IsZip b (a+4) (a+2) (a+3) .ellipsis:=k₂ _ _ (by omega) (by omega) (by omega) r;have hsz:b.objs.size=s.heap.objs.size:=f.trans C.1;show wpAny _ _ (Builtin.SmallTypes.ownedTupleHandOut (.ref (a+4)) (.ref b.objs.size) >>= _) _ _ _;refine yaa ?_;unfold Builtin.SmallTypes.ownedTupleHandOut;refine yaa (ybG (yad _ j) (by simp) fun K t B=>?_);replace t:IsZip K (a+4) (a+2) (a+3) (rawInt b.objs.size):=t;refine ybG t (by simp) fun u p z=>?_
  replace p:IsZip u (a+4) (a+2) (a+3) (rawInt b.objs.size):=p;have lt:a+4<b.objs.size:=yao j;have up:∀(c:Nat) (o:Obj),c≠a+4->b.get? c=some o->u.get? c=some o:=fun c o c1 e=>z.extBut _ _ c1 (B.extBut _ _ c1 (yad _ e))
  have T:IsT u b.objs.size [x,y]:=z.extBut _ _ (ya6 lt) (B.extBut _ _ (ya6 lt) (yam _ rfl));rw[hsz]at p T;refine yaf ⟨_,rfl,?_⟩;show Q (.ref b.objs.size) _;rw[hsz];exact hQ x y u tk O X ⟨p,up _ _ (by omega) (k₂ _ _ (by omega) (by omega) (by omega) (k₁ _ _ (by omega) N)),⟨x,y,up _ _ (by omega) i⟩,i1.at fun o e=>up _ o (by omega) e,i2.at fun o e=>up _ o (by omega) e⟩ T fun c o J e=>up c o (by omega) (k₂ c o (by omega) (by omega) (by omega) (k₁ c o (by omega) e))
def znq:Meets (Builtin.«zip.__new__» ⟨[.type "zip",.ref l,.ref m],[]⟩) (fun _ R s=>s.heap.IsTuple l us/\s.heap.IsTuple m vs ∧
   ∀h' n,n=s.heap.objs.size->(∀(c:Nat) (o:Obj),s.heap.get? c=some o->h'.get? c=some o)->ZSt n l m 0 .none h'->R (.ok (.ret (.ref (n+4)))) {s with heap:=h'}):=
 .of_wp fun prog w A R s h=>by
  obtain⟨q,g,d,tk,os⟩:=s;obtain⟨f,b,h⟩:=h;have k:=sub_zip;have j:Heap.IsTuple (Shared.heap ⟨q,g,d,tk,os⟩) l us:=f;have i:Heap.IsTuple (Shared.heap ⟨q.push {cls:=.type "tuple_iterator",data:=.fields #[.ref l,.int 0 0]},g,d,tk,os⟩) m vs:=zj5 b fun o e=>yad _ e
  wp_walk using ych j,ych i
  refine⟨_,rfl,?_⟩;have p {h:Heap}{o':Obj}{a:Addr}{o:Obj} (e:h.get? a=some o):(h.push o').get? a=some o:=yad _ e
  have u:∀{h:Heap}{o:Obj}{a:Addr},a=h.objs.size->o.isFreed=false->(h.push o).get? a=some o:=fun e r=>by rw[e];exact yam _ r
  simp only[ybc];exact h _ _ rfl (fun c o e=>p (p (p (p (p e))))) ⟨u (by simp only[ybc]) rfl,p (p (u (by simp only[ybc]) rfl)),⟨_,_,p (u (by simp only[ybc]) rfl)⟩,⟨_,p (p (p (p (u rfl rfl)))),rfl,rfl⟩,⟨_,p (p (p (u (by simp only[ybc]) rfl))),rfl,rfl⟩⟩
end
noncomputable def zFp(a:Nat):List Addr:=(List.range 5).map (a+·)
theorem zeL{a b:Nat}:b∈zFp a↔a<=b/\b<a+5:=by
 unfold zFp;rw[yah];exact⟨fun⟨j,c,e⟩=>by rw[yaV]at c;have e:a+j=b:=e;omega,fun⟨h1,h2⟩=>⟨b-a,yaV.mpr (by omega),by show a+(b-a)=b;omega⟩⟩
theorem zjk{a b:Nat}(h:b ∉ zFp a):b<a\/a+4<b:=by rw[zeL]at h;omega
theorem ZSt.keep{a l m i:Nat}{f:Value}{h h':Heap}(Z:ZSt a l m i f h)(k:∀(c:Nat) (o:Obj),a<=c->c<a+5->h.get? c=some o->h'.get? c=some o):ZSt a l m i f h':=
 ⟨k _ _ (by omega) (by omega) Z.z,k _ _ (by omega) (by omega) Z.ti,let ⟨x,y,e⟩:=Z.to;⟨x,y,k _ _ (by omega) (by omega) e⟩,Z.i1.at fun o e=>k _ o (by omega) (by omega) e,Z.i2.at fun o e=>k _ o (by omega) (by omega) e⟩
section
variable{X:Cx}{pins:Z3}{σ:St}{H:Hp}{s:Shared}
noncomputable def ItZ(l m:Addr):It:=
 ⟨fun i H=>∃xs ys,H l=some (.tup xs)/\H m=some (.tup ys)/\i<xs.length/\i<ys.length,
  fun i H v H'=>∃t x y xs ys,v=.ref t/\H t=none/\H'=upd H t (.tup [x,y])/\H l=some (.tup xs)/\H m=some (.tup ys)/\xs[i]?=some x/\ys[i]?=some y,
  fun i H=>∃xs ys,H l=some (.tup xs)/\H m=some (.tup ys)/\i<=xs.length/\i<=ys.length/\(i=xs.length\/i=ys.length)⟩
def zrh{fp:List Addr}{T:Addr}{h2:Heap}{tk:Nat}{us:List Value}{ys:List V}(I:Inv X pins σ H s)(hf:∀b∈fp,zoG X pins H b)(J:T=s.heap.objs.size)(te:IsT h2 T us)
  (k:∀b o,b ∉ fp->s.heap.get? b=some o->h2.get? b=some o) (r:Vals ys us) (U:us.length<=9):Inv X pins σ (upd H T (.tup ys)) {s with heap:=h2,toks:=tk}/\H T=none:=by
 have fr:H T=none:=by rw[J];exact I.hok.fresh (yaj _)
 refine⟨?_,fr⟩;have e:Inv X pins σ H {s with heap:=h2,toks:=tk}:=I.turnedL (ch:=fp) (fun b o hb q=>k b o hb q) hf;refine e.track fr (by rw[J];exact I.sz) (by rw[J];exact ya6 I.lt) (fun z c q=>?_) (fun p a=>?_) ?_
 ·obtain⟨v,d⟩:=I.cell z c q;rw[J];exact yav d.lt
 ·rw[J];exact yav (yao (I.pin p a).1)
 ·exact⟨yas (r.length ▸ U) (by decide),us,r,_,te,rfl,_,rfl,rfl⟩
theorem zoN{P:Program}{w:World}{K:PySem.W.Frag}{elts:List Expr}{x1:Nat}{pos:Pos}{a l m:Nat}(hl:l<a)(hm:m<a):
  Turn P w K (.Tuple elts x1 pos) (ItZ l m) (zFp a) (a+4) (fun i h=>ZSt a l m i .none h)where
 mem:=zeL.mpr (by omega)
 obj:=fun i h st b hb=>by
  obtain⟨Y,hI,⟨x,y,hO⟩,⟨o1,U,_,d1⟩,⟨o2,e2,_,d2⟩⟩:=st;obtain⟨h1,h2⟩:=zeL.mp hb;obtain⟨j,rfl⟩:∃j,b=a+j:=⟨b-a,(Nat.add_sub_cancel' h1).symm⟩
  match j,h2 with
  |0,_=>exact⟨_,U,fun v e=>by rw[d1]at e;cases e⟩
  |1,_=>exact⟨_,e2,fun v e=>by rw[d2]at e;cases e⟩
  |2,_=>exact⟨_,hI,fun v e=>by cases e⟩
  |3,_=>exact⟨_,hO,fun v e=>by cases e⟩
  |4,_=>exact⟨_,Y,fun v e=>by cases e⟩
  |j+5,h=>omega
 keep:=fun i h h' st k=>st.keep fun c o c1 c2 e=>k _ (zeL.mpr ⟨c1,c2⟩) _ e
 item:=by
  intro X R M S n i pins s σ H E I hf st hg;subst R M S;obtain⟨xs,ys,g1,g2,hi,N⟩:=hg;obtain⟨us,f,t1,_⟩:=I.tuple (SqT.of g1);obtain⟨vs,d,t2,_⟩:=I.tuple (SqT.of g2);have p:s.TypeIs (.ref (a+4)) "zip":=⟨_,st.z,rfl⟩;unfold pyNext
  refine yaa (ycs (yaU (name:=Str.ofString "__next__") p ydn (yaL ydn p F.entry_zip_next
   (zj3 (A:=X.A.in1) (I.ok.hd n) st hl hm t1 t2 (by rw[yai,<-f.length];exact ycl hi) (by rw[yai,<-d.length];exact ycl N) (fun x y h' tk u t a1 a4 a5=>yaf ?_)
    (fun e=>by rw[yai,yai,<-f.length,<-d.length]at e;omega)) (F.args_zip_next_1 _))))
  have B:a+4<s.heap.objs.size:=yao st.z;refine⟨_,rfl,wpAny_letOwnedTupleGo_zip a1.z fun r C V=>?_⟩;have g:∀(c:Nat) (o:Obj),c≠a+4->h'.get? c=some o->r.get? c=some o:=fun c o n e=>(V.2 c n).trans e
  obtain⟨x',L,J⟩:=f.get (yac hi);obtain⟨y',G,D⟩:=d.get (yac N);rw[ydb,L]at u;cases u;rw[ydb,G]at t;cases t;obtain⟨I2,fr⟩:=zrh (tk:=tk) (h2:=r) I hf rfl (g _ _ (ya6 B) a4) (fun b o hb q=>g b o (by have:=zjk hb;omega) (a5 b o (zjk hb) q)) (.cons J (.cons D .nil)) (by simp);refine⟨.ref s.heap.objs.size,_,I2,rfl,⟨_,_,_,xs,ys,rfl,fr,rfl,g1,g2,yac hi,yac N⟩,⟨C,g _ _ (by omega) a1.ti,let ⟨x,y,e⟩:=a1.to;⟨x,y,g _ _ (by omega) e⟩,a1.i1.at fun o e=>g _ o (by omega) e,a1.i2.at fun o e=>g _ o (by omega) e⟩,fun b hb=>?_⟩;rw[zai (fun e=>by have:=(zeL.mp (e ▸ hb)).2;omega)];exact(hf b hb).1
 done:=by
  intro X R M S n i pins s σ H E I hf st hg;subst R M S;obtain⟨xs,ys,g1,g2,h1,h2,hi⟩:=hg;obtain⟨us,f,t1,_⟩:=I.tuple (SqT.of g1);obtain⟨vs,d,t2,_⟩:=I.tuple (SqT.of g2);have p:s.TypeIs (.ref (a+4)) "zip":=⟨_,st.z,rfl⟩;unfold pyNext
  refine yaa (ycs (yaU (name:=Str.ofString "__next__") p ydn (yaL ydn p F.entry_zip_next
   (zj3 (A:=X.A.in1) (I.ok.hd n) st hl hm t1 t2 (by rw [yai,<-f.length];exact h1) (by rw [yai,<-d.length];exact h2) (fun x y h' tk u t=>by
     have U:=(ybv.mp u).1;have e2:=(ybv.mp t).1;rw[yai,<-f.length]at U;rw[yai,<-d.length]at e2
     omega) (fun _ h' e tk hk O=>?_)) (F.args_zip_next_1 _))))
  obtain⟨o,Z,Q⟩:=O;refine yaa (ycy (T:="StopIteration") (b:=true) ⟨o,Z,Q⟩ isSubtype_stop ?_);exact yaf ⟨rfl,I.turnedL (ch:=zFp a) (fun b o hb q=>hk b o (zjk hb) q) hf⟩
 self:=fun _ _ _ _ _ st h=>wpAny_pyIter_zip st.z h
theorem zqj:bootBuiltins "zip"=some (.type "zip"):=by decide +kernel
def ztv(J:Inv X pins σ H1 s1)(g1:H1 l=some (.tup xs))(g2:H1 m=some (.tup ys))(q:R (ItZ l m) H1):
  wpAny (model X.prog X.w) X.A (call (.type "zip") [.ref l,.ref m]) (fun v s2=>wpAny (model X.prog X.w) X.A (pyIter v) (PIE X pins σ (.Tuple elts U tp) R) X.xe s2) X.xe s1:=by
 obtain⟨us,f,t1,_⟩:=J.tuple (SqT.of g1);obtain⟨vs,e,t2,_⟩:=J.tuple (SqT.of g2);refine callType_new F.called_zip (by decide) (F.typeCall_zip_2 _ _) (F.newCall_zip_2 _ _) (fun o=>F.args_object_init_3 o _ _) F.entry_zip_new znq ⟨t1,t2,fun h' n b hk Z=>?_⟩;refine⟨⟨_,Z.z,rfl⟩,wpAny_pyIter_zip Z.z ?_⟩;refine⟨n+4,zFp n,_,_,H1,rfl,J.kept (t':=s1.toks) hk,zoN ?_ ?_,Z,fun c hb=>?_,q⟩
 ·obtain⟨o,a,_⟩:=t1;rw[b];exact yao a
 ·obtain⟨o,a,_⟩:=t2;rw[b];exact yao a
 ·have d:s1.heap.objs.size<=c:=b ▸ (zeL.mp hb).1;exact J.fpOk d (J.hok.fresh d)
end
end L2
namespace S2
open PySem PySem.Spec PyProof.Rows L2
section
variable{X:Cx}{cl:Cf}{E:St->XK}{e tg:Expr}{f:Fe}{own:Bool}{pos pos':Pos}
noncomputable def ztr:List D->Option D|[.int i,.int j]=>some (.int (if j > i then j else i))|_=>none
def zwd(J:X.calm=true):zjg X cl (.builtin "max") ztr:=by
 intro pins s σ H xs us Q I r h;obtain⟨w,ds,d,rfl,a,hg,q⟩:=h;unfold ztr at hg;split at hg
 ·rename_i i j;cases hg
  cases a with
  |cons h1 h2=>cases h2 with
   |cons h2 b=>
    cases b;obtain rfl:=h1.intI;obtain rfl:=h2.intI;exact zot J pins s σ w.H _ us Q I r ⟨i,j,rfl,q _ w (Grow.refl _) (.int _)⟩
 ·cases hg
noncomputable def zgp:List D->List D->List D
 |x::xs,y::ys=>.tup [x,y]::zgp xs ys|_,_=>[]
theorem zft:∀(xs ys:List D),(zgp xs ys).length=min xs.length ys.length
 |[],_=>by simp[zgp]
 |_::_,[]=>by simp[zgp]
 |_::xs,_::ys=>by simp[zgp,zft xs ys]
theorem zg5:∀{xs ys:List D}{i:Nat}{d:D},(zgp xs ys)[i]?=some d->∃x y,xs[i]?=some x/\ys[i]?=some y/\d=.tup [x,y]
 |[],_,_,_,h=>by simp[zgp]at h
 |_::_,[],_,_,h=>by simp[zgp]at h
 |x::xs,y::ys,0,d,h=>by
  simp only[zgp,List.getElem?_cons_zero,Option.some.injEq]at h;exact⟨x,y,rfl,rfl,h.symm⟩
 |x::xs,y::ys,i+1,d,h=>by
  simp only[zgp,ycT]at h ⊢;exact zg5 h
def zp5(f g:Fe):Fi:=fun ρ S=>(zah [f,g] ρ S).bind fun ds S1=>match ds with|[.tup l,.tup k]=>.ok (zgp l k) S1|_=>.bad
theorem zvK(h1:∀w',Fut w w'->w'.H l1=some (.tup xs))(h2:∀w',Fut w w'->w'.H U=some (.tup ys))(r1:Shds cl w xs ds)(J:Shds cl w ys es):ItOk cl w (ItZ l1 U) (zgp ds es):=by
 have p:=r1.length;have e2:=J.length;have o:=zft ds es;refine⟨fun b a i hi=>⟨xs,ys,h1 b a,h2 b a,by omega,by omega⟩,fun b a=>⟨xs,ys,h1 b a,h2 b a,by omega,by omega,by omega⟩,fun b a i d x H1 hd y=>?_⟩;obtain⟨t,v1,v2,j,h,rfl,ht,rfl,g1,g2,l,k⟩:=y;obtain⟨n,m,e,c,rfl⟩:=zg5 hd;cases (h1 b a).symm.trans g1;cases (h2 b a).symm.trans g2;obtain⟨d1,g,s1⟩:=r1.get l;obtain⟨d2,f,s2⟩:=J.get k;rw[e]at g;cases g;rw[c]at f;cases f;exact⟨b.add t _,rfl,zaq ht _,Shd.newT ht (.cons (s1.up a) (.cons (s2.up a) .nil))⟩
def zt8(hg:Gl X "zip")(hm:X.mg "zip"=none)(U:PA X [a,e] (tAs cl E [fa,f]))(hs:starEach [a,e] X.env=(false,eval a X.env)::starEach [e] X.env)(J:(backTo pos (starEach [e] X.env)).any (·.1)=false):PI X (.Tuple es kk tp) (.Call (.Name "zip" p) [a,e] [] pos) (tI cl E (zp5 fa f)):=by
 intro pins s σ H o I q;refine Call_ (zfU I hg hm L2.zqj (ybo (thn (U pos pins s σ H (fun vs H1=>∃l m xs ys,vs=[.ref l,.ref m]/\H1 l=some (.tup xs)/\H1 m=some (.tup ys)/\o (ItZ l m) H1) I ?_) fun us s1 ⟨vs,H1,r,r1,i⟩=>?_) hs J))
 ·obtain⟨B,w,ρ,S,rfl,R,q⟩:=q;refine⟨B,w,ρ,S,rfl,R,?_⟩;dsimp only[zp5]at q
  cases hf:zah [fa,f] ρ S with
  |bad=>rw[hf]at q;exact q.elim|exc c S1=>rwa[hf]at q|ok ds S1=>
   rw[hf]at q;dsimp only[Out.bind]at q;intro vs w' R2 t sh
   have j:(∃l k,ds=[.tup l,.tup k])\/(match ds with|[.tup l,.tup k]=>Out.ok (zgp l k) S1|_=>.bad)=.bad:=by
    split
    ·exact .inl ⟨_,_,rfl⟩
    ·exact .inr rfl
   rcases j with⟨l,k,rfl⟩|e
   ·cases sh with
    |cons h1 h2=>
     cases h2 with
     |cons h2 n=>
      cases n
      cases h1 with
      |tup d k1 r1=>
       cases h2 with
       |tup e2 k2 h=>
        exact⟨_,_,_,_,rfl,(Fut.refl w').keep _ _ d k1 |>.1,(Fut.refl w').keep _ _ e2 k2 |>.1,q _ w' R2 t (zvK (fun g b=>(b.keep _ _ d k1).1) (fun g b=>(b.keep _ _ e2 k2).1) r1 h)⟩
   ·rw[e]at q;exact q.elim
 ·obtain⟨l,m,xs,ys,rfl,g1,g2,q⟩:=i
  cases r1 with
  |cons a1 r1=>
   cases r1 with
   |cons a2 r1=>cases r1;cases a1;cases a2;exact ztv r g1 g2 q
end
section
variable{X:Cx}{cl:Cf}{E:St->XK}{e:Expr}{f:Fe}{pos':Pos}
def eMt(g:List D->D->Option D)(i:Nat)(f:Fe):Fe:=fun ρ S=>match ρ[i]? with|some (some (_,.lst l))=>(f ρ S).bind fun d S1=>Out.of (g l d) S1|_=>.bad
def zeH(l:List D)(d:D):Option D:=if d.fit 8&&D.fits 8 l then some (.int ((l.countP (zgJ · d):Nat):Int))else none
def Rel.lstAny{B:Base}{σ:St}{w:Wd}{ρ:Env}{S:Sto}{i:Nat}{o:Bool}{l:List D}(R:Rel cl B σ w ρ S)(h:ρ[i]?=some (some (o,.lst l))):∃a xs,σ[i]?=some (some (.ref a))/\w.H a=some (.lst xs)/\Shds cl w xs l:=by
 cases o with
 |true=>obtain⟨a,xs,b,_,h2,t⟩:=R.list h;exact⟨a,xs,b,h2,t⟩|false=>
  obtain⟨v,b,sh⟩:=R.slots i false _ h
  cases sh with
  |lst ep k r=>exact⟨_,_,b,ep,r⟩
noncomputable def MtB(X:Cx)(cl:Cf)(id:String)(g:List D->D->Option D):Prop:=MtM X id fun x vs H Q=>∃(a:Addr) (xs:List V) (l:List D) (w:Wd) (d:D) (v:V) (r:Int),w.H=H/\x=.ref a/\vs=[v]/\w.H a=some (.lst xs)/\Shds cl w xs l/\TopV cl w v d/\g l d=some (.int r)/\Q (.int r) H
theorem zfk{s:Shared}{d:D}:∀{aa:List Value}{ds:List D}{as:List Addr},ReadsAll s.heap aa (D.pys ds) as->D.fits 8 ds=true->aa.countP (fun y=>(SeqAt.readOf s.heap y).eqv d.py)=ds.countP (zgJ · d)
 |[],[],_,_,_=>rfl|[],_::_,_,h,_=>by cases h
 |_::_,[],_,h,_=>by cases h
 |v::aa,e::ds,_,h,f=>by
  simp only[D.fits,yab]at f
  cases h with
  |cons h1 h2=>
   rw[ycz,ycz,zfk h2 f.2,zmZ (D.lay f.1).1 h1];rfl
def zpE(J:X.K=cl.K)(U:X.A.units+64<cLine):MtB X cl "list.count" zeH:=by
 intro pins s σ H x vs v us Q I c f h;obtain⟨a,xs,l,w,d,m,r,rfl,rfl,rfl,k,sh,tv,hg,q⟩:=h;unfold zeH at hg;split at hg
 ·rename_i hf;cases hg;rw[yab]at hf;cases c;obtain⟨u,rfl,g⟩:=f.one;obtain⟨bs,i⟩:=zjB I J tv hf.1 g;obtain⟨z,aa,n,r,o,e⟩:=I.lstM k;obtain⟨as,b⟩:=zfM I J sh hf.2 r;refine yce F.slot_list_count ⟨_,e,rfl⟩ F.entry_list_count (F.args_list_count_2 _ _) (SeqAt.list_countAt a _ n none #[] u (fun y=>(SeqAt.readOf s.heap y).eqv d.py)) ⟨e,fun y j=>zey U i hf.1 b hf.2 y j,?_⟩;rw[zfk b hf.2];exact⟨.int _,w.H,I.tok _,⟨_,rfl⟩,q⟩
 ·cases hg
def zxw{id:String}{ap cp:Pos}(slot:Slot "list" name id)(J:typeOf (.builtin id)=pure (.type "method_descriptor"))(hm:MtB X cl id g)(a3:∀l d r,g l d=some r->∃n,r=.int n)
  (hN:X.N[i]?=some x) (hv:Vis X.env.scope x) (hd:(x==("__debug__":Str))=false) (hcd:(x==("__classdict__":Str))=false) (he:PE X e (tH cl E f)) (af:zbb e=true) (U:(ap.endLine==cp.line)=true):
  PE X (.Call (.Attribute (.Name x pos') name ap) [e] [] cp) (tE cl E (eMt g i f)):=by
 refine PE.imp (znh (es:=[]) ybM slot J hm (zaQ hN hv hd hcd) (zmA he zqE (zaG af)) (hfew:=zga (by simp[af]) (by simp)) (ai:=U) (hs:=zaG af) (ao:=rfl)) ?_;rintro σ H Q ⟨B,w,ρ,S,rfl,R,q⟩
 have key:(∃o l,ρ[i]?=some (some (o,.lst l)))\/eMt g i f ρ S=.bad:=by
  unfold eMt;split
  ·rename_i o l b;exact .inl ⟨o,l,b⟩
  ·exact .inr rfl
 rcases key with⟨o,l,b⟩|hb
 ·have u:eMt g i f ρ S=(f ρ S).bind fun d S1=>Out.of (g l d) S1:=by unfold eMt;rw[b]
  rw[u]at q;obtain⟨a,xs,p,h2,t⟩:=R.lstAny b;refine⟨_,p,.inl ⟨rfl,_,SqL.of h2⟩,B,w,ρ,S,rfl,R,?_⟩
  cases hf:f ρ S with
  |bad=>rw[hf]at q;exact q.elim|exc c S1=>
   rw[hf]at q;simp only[zah,hf,Out.bind];exact q
  |ok d S1=>
   rw[hf]at q;simp only[zah,hf,Out.bind];intro vs w' m v sh;dsimp only[Out.bind]at q
   cases hg:g l d with
   |none=>rw[hg]at q;exact q.elim|some r=>
    rw[hg]at q;obtain⟨n,rfl⟩:=a3 l d r hg;obtain⟨y,j,h,k,t'⟩:=m.lstAny b;rw[p]at h;cases h
    cases sh with
    |cons h1 s=>
     cases s;exact⟨a,j,l,w',d,_,n,rfl,rfl,rfl,k,t',h1.top m,hg,q _ w' m v (.int _)⟩
 ·rw[hb]at q;exact q.elim
end
noncomputable def zAi(cl:Cf)(C:Str):Value:=if C="ValueError"then .type "ValueError"else .ref (cl C)
end S2
namespace PySem.F
def ziG:Manifest.owners.lookup (String.ofList ['d','e','s','r','e','v','e','r'].reverse)=some Manifest.sig_reversed:=by kernel_rfl
def zbm:Slot "reversed" "__next__" "reversed.__next__":=
 .of (owner:="reversed") (n:="__next__") (by rw[yb8,ybm];kernel_rfl) (by decide +kernel) (by decide +kernel) (by decide +kernel)
  (by first|exact .inl (by decide +kernel)|exact .inr (by decide +kernel)) (by rw[yb5];kernel_rfl)
def zd2:entryFor table "reversed.__next__"=some Builtin.«reversed.__next__»:=entryFor_of_tree (by kernel_rfl)
def zdJ(a:Value):argsOk "reversed.__next__" ⟨[a],[]⟩:=by
 unfold argsOk;rw[ydF (id:="reversed.__next__") (n:=['_','_','t','x','e','n','_','_']) (o:=['d','e','s','r','e','v','e','r']) (by kernel_rfl) ziG];kernel_rfl
def zem:Slot "reversed" "__iter__" "reversed.__iter__":=
 .of (owner:="reversed") (n:="__iter__") (by rw[yb8,ybm];kernel_rfl) (by decide +kernel) (by decide +kernel) (by decide +kernel)
  (by first|exact .inl (by decide +kernel)|exact .inr (by decide +kernel)) (by rw[yb5];kernel_rfl)
def zgo(a:Value):argsOk "reversed.__iter__" ⟨[a],[]⟩:=by
 unfold argsOk;rw[ydF (id:="reversed.__iter__") (n:=['_','_','r','e','t','i','_','_']) (o:=['d','e','s','r','e','v','e','r']) (by kernel_rfl) ziG];kernel_rfl
def zcO:typeLookup (.type "tuple") "__reversed__"=pure none:=by rw[yb8,ybm];kernel_rfl
def zhe:Slot "reversed" "__init__" "object.__init__":=
 .of (owner:="object") (n:="__init__") (by rw[yb8,ybm];kernel_rfl) (by decide +kernel) (by decide +kernel) (by decide +kernel)
  (by first|exact .inl (by decide +kernel)|exact .inr (by decide +kernel)) (by rw[yb5];kernel_rfl)
def zgj:TypeCalled "reversed" "reversed.__new__" "object.__init__":=
 ⟨by decide +kernel,by decide +kernel,⟨_,_,mro_reversed⟩,madeBy_type mro_reversed lookup_reversed_new (by decide +kernel),by decide +kernel,by rw[yb5];kernel_rfl,zhe⟩
end PySem.F
namespace L2
open PySem PySem.Spec PyProof.Rows
noncomputable def zwF(l:Addr)(i:Int):Obj:={cls:=.type "reversed",data:=.fields #[.ref l,rawInt i]}
def zev(l:Addr)(xs:Array Value):
  Meets (Builtin.«reversed.__new__» ⟨[.type "reversed",.ref l],[]⟩) (fun _ R s=>IsTup s.heap l xs/\xs.size<=sizeLine ∧
   R (.ok (.ret (.ref s.heap.objs.size))) {s with heap:=s.heap.push (zwF l ((xs.size:Int)-1)),toks:=s.toks+1+1}):=
 .of_wp fun prog w A R s h=>by
  obtain⟨j,g,d,tk,os⟩:=s;obtain⟨i,p,h⟩:=h;have f:=F.sub_reversed_self
  have e:(Shared.mk j g d tk os).TypeIs (.ref l) "tuple":=by obtain⟨o,k,n,_⟩:=i;exact⟨o,k,n⟩
  have m:=F.zcO
  have c:isSubtype (.type "tuple") (.type "dict")=pure false:=by rw[yb5];kernel_rfl
  have b:(xs.size:Int)<9223372036854775808:=by
   have:sizeLine<9223372036854775808:=by decide
   omega
  unfold Builtin.«reversed.__new__»;refine yaa (ybQ (newClass_reversed _) ?_)
  try dsimp only
  refine yaa (ybQ (a:=()) (by first|rfl|kernel_rfl) ?_);refine yaa (ybQ (a:=()) (by first|rfl|kernel_rfl) ?_)
  try dsimp only
  refine yaa (ycn e F.zcO ?_)
  try dsimp only
  refine yaa ?_;show wpAny _ _ (isInstance (.ref l) (.type "dict") >>= _) _ _ _;refine yaa (ycy e c ?_);simp only[yaG,ybL];refine yaa (ycn e F.slot_tuple_getitem.lookup ?_);dsimp only;rw[if_pos (by decide)];refine yaf ?_;simp only[Bool.not_true,yaG,ybL];refine yaa (len_tuple i b ?_)
  wp_walk
  exact⟨_,rfl,h⟩
section
variable{prog:Program}{w:World}{A:Around}{E:Z5}{s:Shared}
noncomputable abbrev IsRev(h:Heap)(it l:Addr)(i:Int):Prop:=h.get? it=some (zwF l i)
def zgA{l:Addr}{xs:Array Value}{Q:Z5}(U:IsTup s.heap l xs)(J:xs.size<=sizeLine)
  (h:Q (.ref s.heap.objs.size) {s with heap:=s.heap.push (zwF l ((xs.size:Int)-1)),toks:=s.toks+1+1}):wpAny (model prog w) A (call (.type "reversed") [.ref l]) Q E s:=by
 refine callType_new F.zgj (by decide) (F.typeCall_reversed_1 _) (F.newCall_reversed_1 _) (fun obj=>F.args_object_init_2 obj _) F.entry_reversed_new (zev l xs) ⟨U,J,?_⟩;exact⟨⟨_,yam _ rfl,rfl⟩,h⟩
def zgI(hit:IsRev s.heap it l i)(h:Q (.ref it) s):wpAny (model prog w) A (pyIter (.ref it)) Q E s:=by
 have a:s.TypeIs (.ref it) "reversed":=⟨_,hit,rfl⟩;refine ydC a F.zem (yaL F.zem a (show entryFor table "reversed.__iter__"=some Builtin.«dict_keyiterator.__iter__»from entryFor_alias (id':="dict_keyiterator.__iter__") (by kernel_rfl) (by first|rfl|decide +kernel|(unfold String.splitOn;simp +decide [String.splitOnAux])) (by decide +kernel) (by kernel_rfl)) ?_ (F.zgo _));show wpAny _ _ (ret (.ref it)) _ _ s;exact yaf ⟨_,rfl,"reversed",_,a,F.zbm.lookup,h⟩
def zhx{it l:Addr}{i:Nat}{xs:Array Value}{x:Value}{Q:Option Value->Shared->Prop}(hit:IsRev s.heap it l (i:Int))(U:IsTup s.heap l xs)(hz:xs.size<=sizeLine)(J:xs[i]?=some x)
  (hQ:∀h' tk,IsRev h' it l ((i:Int)-1)->Heap.SameBut it s.heap h'->Q (some x) {s with heap:=h',toks:=tk}):wpAny (model prog w) A (pyNext (.ref it)) Q E s:=by
 have e:s.TypeIs (.ref it) "reversed":=⟨_,hit,rfl⟩
 have d:s.TypeIs (.ref l) "tuple":=by obtain⟨o,g,h,_⟩:=U;exact⟨o,g,h⟩
 unfold pyNext
 refine yaa (ycs (yaU (name:=Str.ofString "__next__") e F.zbm
  (yaL F.zbm e F.zd2 ?_ (F.zdJ _))))
 unfold Builtin.«reversed.__next__»;refine yaa (ybQ (a:=(Value.ref it,[])) rfl ?_)
 try dsimp only
 refine yaa (ybk hit rfl (x:=.ref l) rfl ?_);refine yaa (ybk hit rfl (x:=rawInt (i:Int)) rfl ?_);show wpAny _ _ (if(i:Int)<0 then _ else _) _ _ s;rw[if_neg (by omega)];have hi:i<xs.size:=(ybv.mp J).1
 have f:sizeLine<9223372036854775808:=by decide
 refine yaa (ycn d F.slot_tuple_getitem.lookup ?_);simp only[Option.isNone_some,yaG,ybL];refine yaa (wpAny_mkInt ?_);refine yaa (ycs (getItem_tuple (s:={s with toks:=s.toks+1}) (j:=i) (x:=x) U (by omega) (by omega) ?_ J ?_))
 ·rw[seqIndex?];simp;omega
 dsimp only;refine yaa (ybk (s:={s with toks:=s.toks+1}) hit rfl (x:=rawInt (i:Int)) rfl ?_);refine yaa (ybG (s:={s with toks:=s.toks+1}) hit (by simp) fun h' b c=>?_);exact yaf ⟨x,rfl,yaf (hQ h' _ b c)⟩
def ziL{it l:Addr}{Q:Option Value->Shared->Prop}(hh:A.handled=none)(hit:IsRev s.heap it l (-1))
  (J:∀h' tk,Heap.ExtBut it s.heap h'->Q none {s with heap:=h',toks:=tk}):wpAny (model prog w) A (pyNext (.ref it)) Q E s:=by
 have h:s.TypeIs (.ref it) "reversed":=⟨_,hit,rfl⟩;unfold pyNext
 refine yaa (ycs (yaU (name:=Str.ofString "__next__") h F.zbm
  (yaL F.zbm h F.zd2 ?_ (F.zdJ _))))
 unfold Builtin.«reversed.__next__»;refine yaa (ybQ (a:=(Value.ref it,[])) rfl ?_)
 try dsimp only
 refine yaa (ybk hit rfl (x:=.ref l) rfl ?_);refine yaa (ybk hit rfl (x:=rawInt (-1)) rfl ?_);show wpAny _ _ (if(-1:Int)<0 then _ else _) _ _ s;rw[if_pos (by decide)];refine yaa (ycY ?_);refine yaa ?_;show wpAny _ _ (setField (.ref it) 1 (rawInt (-1)) >>= _) _ _ s;refine yaa (ybG hit (by simp) fun h1 c g=>?_);refine ybG c (by simp) fun h2 i f=>?_
 have d:Heap.ExtBut it s.heap h2:=fun b o hb e=>f.extBut b o hb (g.extBut b o hb e)
 refine yaa ?_;show wpAny _ _ (newExc (.type "StopIteration") [] >>= _) _ _ _;refine yaa ?_;simp only[newExc,newTuple];refine yaa (yaX ?_ (by size_fits));refine yaa (m:=firstArgMember _ _) (ybQ (a:=Value.none) (by first|rfl|(simp only[firstArgMember];rfl)) ?_);refine yaX ?_ (by size_fits);simp only[raiseNew];refine yaa (wpAny_handled ?_)
 first|rw[show A.in1.handled=none from hh]|rw[hh]
 refine yaa (yaf (wpAny_throw ?_));refine yaa (ycy (T:="StopIteration") (b:=true) ⟨_,yam _ rfl,rfl⟩ isSubtype_stop ?_);exact yaf (J _ _ ((d.push _).push _))
end
noncomputable def Itv(K:PySem.W.Frag)(a:Addr)(n:Nat):It:=
 ⟨fun i H=>∃xs x,SqT K H a xs/\xs.length=n/\xs.reverse[i]?=some x,fun i H x H'=>H'=H/\∀xs,SqT K H a xs->xs.reverse[i]?=some x,fun i H=>∃xs,SqT K H a xs/\xs.length=n/\n<=i⟩
def zoO{P:Program}{w:World}{K:PySem.W.Frag}{tg:Expr}(a it:Addr)(n:Nat):Turn P w K tg (Itv K a n) [it] it (fun i h=>i<=n/\IsRev h it a ((n:Int)-1-(i:Int)))where
 mem:=by simp
 obj:=fun i h st b hb=>by
  have e:b=it:=by simpa using hb
  subst e;exact⟨_,st.2,fun v z=>by cases z⟩
 keep:=fun i h h' st k=>⟨st.1,k it (by simp) _ st.2⟩
 item:=by
  intro X q j r F i pins s σ H E I hf st hg;subst q j r;obtain⟨xs,x,l,D,f⟩:=hg;obtain⟨aa,C,p,R⟩:=I.tuple l;have S:=C.length
  have hi:i<xs.length:=by have:=(yaq.mp f).1;simpa using this
  have g:xs[n-1-i]?=some x:=by
   rw[List.getElem?_reverse hi]at f;rw[<-D];exact f
  obtain⟨u,M,J⟩:=C.get g;obtain⟨B,f1,f2,A,y,t⟩:=hf it (by simp)
  have O:(n:Int)-1-(i:Int)=((n-1-i:Nat):Int):=by omega
  have c:=st.2;rw[O]at c;refine zhx c p (by rw[yai];omega) (x:=u) (by simpa using M) fun h' tk d G=>?_
  have Q:Inv X pins σ H {s with heap:=h',toks:=tk}:=I.turned (t':=tk) (fun b o hb e=>(G.2 b hb).trans e) B f1 A y t
  have e2:((n-1-i:Nat):Int)-1=(n:Int)-1-((i+1:Nat):Int):=by omega
  rw[e2]at d;exact⟨u,rfl,zn0 (s:={s with heap:=h',toks:=tk}) d rfl rfl (by decide) ⟨x,H,Q,J,⟨rfl,fun ys L=>by rw[I.tuple_inj L l];exact f⟩,⟨by omega,d⟩,fun b hb=>(hf b hb).1⟩⟩
 done:=by
  intro X q j r F i pins s σ H E I hf st hg;subst q j r;obtain⟨xs,l,D,f⟩:=hg;obtain⟨B,f1,f2,A,y,t⟩:=hf it (by simp);have c:=st.2
  have m:(n:Int)-1-(i:Int)=-1:=by have:=st.1;omega
  rw[m]at c;exact ziL (I.ok.hd F) c fun h' tk N=>⟨rfl,I.turned (t':=tk) (fun b o hb e=>N b o hb e) B f1 A y t⟩
 self:=fun _ _ _ _ _ st h=>zgI st.2 h
def zqk:bootBuiltins "reversed"=some (.type "reversed"):=by decide +kernel
section
variable{X:Cx}
noncomputable def zB5(K:PySem.W.Frag)(ta:TA):TI:=fun σ H R=>ta σ H fun vs H1=>∃b xs,vs=[.ref b]/\SqT K H1 b xs/\R (Itv K b xs.length) H1
def zuN{K:PySem.W.Frag}{tg a:Expr}{ta:TA}{p pos:Pos}(hg:Gl X "reversed")(hm:X.mg "reversed"=none)(J:PA X [a] ta)(U:autoParam (X.K=K) yAW)(hs:autoParam (starEach [a] X.env=[(false,eval a X.env)]) yAW):
  PI X tg (.Call (.Name "reversed" p) [a] [] pos) (zB5 K ta):=by
 subst U;intro pins s σ H R I h;refine Call_ (zfU I hg hm zqk (ybo (thn (J pos pins s σ H _ I h) fun us s1 ⟨vs,H1,d,r1,j⟩=>?_) hs rfl));obtain⟨b,xs,e,k,q⟩:=j;subst e
 cases r1 with
 |cons r i=>
  cases i;cases r;obtain⟨aa,f,pl,m⟩:=d.tuple k;have l:=f.length;refine zgA (xs:=aa.toArray) pl (by rw[yai];omega) ?_
  have g:IsRev (s1.heap.push (zwF b ((aa.toArray.size:Int)-1))) s1.heap.objs.size b ((xs.length:Int)-1-((0:Nat):Int)):=by
   rw[show(xs.length:Int)-1-((0:Nat):Int)=(aa.toArray.size:Int)-1 by simp[l]];exact yam _ rfl
  refine zgI g ?_;refine⟨s1.heap.objs.size,[s1.heap.objs.size],_,_,H1,rfl,d.kept (t':=s1.toks+1+1) fun c o x=>yad _ x,zoO b _ xs.length,⟨yaR _,g⟩,fun c hb=>?_,q⟩
  have:c=s1.heap.objs.size:=by simpa using hb
  subst this;exact d.fpOk (yaj _) (d.hok.fresh (yaj _))
end
end L2
namespace PySem.F
end PySem.F
namespace L2
open PySem PySem.Spec PyProof.Rows
end L2
namespace S2
open PySem PySem.Spec PyProof.Rows L2
section
variable{X:Cx}{cl:Cf}{E:St->XK}{e tg:Expr}{f:Fe}{pos pos':Pos}
def zta(f:Fe):Fi:=fun ρ S=>(zah [f] ρ S).bind fun ds S1=>match ds with|[.tup l]=>.ok l.reverse S1|_=>.bad
def zvL{K:PySem.W.Frag}{w:Wd}{a:Addr}{xs:List V}{l:List D}(J:∀w',Fut w w'->SqT K w'.H a xs)(r:Shds cl w xs l):ItOk cl w (Itv K a xs.length) l.reverse:=by
 have h:=r.length;have f:=r.rev;refine⟨fun b c i hi=>⟨xs,xs.reverse[i]'(by rw[ydo]at hi ⊢;omega),J b c,rfl,yac (by rw[ydo]at hi ⊢;omega)⟩,fun b c=>⟨xs,J b c,rfl,by rw[ydo];omega⟩,fun b c i d x H1 hd y=>?_⟩;obtain⟨rfl,g⟩:=y;obtain⟨d',e,e2⟩:=f.get (g xs (J b c));rw[hd]at e;cases e;exact⟨b,rfl,Grow.refl _,e2.up c⟩
def zub(U:X.K=cl.K)(hg:Gl X "reversed")(hm:X.mg "reversed"=none)(J:PA X [e] (tAs cl E [f]))(hs:starEach [e] X.env=[(false,eval e X.env)]):PI X tg (.Call (.Name "reversed" p) [e] [] pos) (tI cl E (zta f)):=by
 intro pins s σ H b I q;obtain⟨B,w,ρ,S,rfl,R,q⟩:=q;unfold zta at q;refine zuN (tg:=tg) (p:=p) (pos:=pos) hg hm J rfl hs pins s σ w.H b I ⟨B,w,ρ,S,rfl,R,?_⟩
 cases hf:zah [f] ρ S with
 |bad=>rw[hf]at q;exact q.elim|exc c S1=>rwa[hf]at q|ok ds S1=>
  rw[hf]at q;dsimp only[Out.bind]at q;intro vs w' R2 d sh;split at q
  ·rename_i i S' a;split at a
   ·rename_i l;cases a
    cases sh with
    |cons h1 h2=>
     cases h2
     cases h1 with
     |tup ep k r=>exact⟨_,_,rfl,SqT.of ep,q _ w' R2 d (zvL (fun h g=>SqT.of (g.keep _ _ ep k).1) r)⟩
   ·cases a
  ·rename_i a;split at a<;>cases a
  ·exact q.elim
end
section
variable{X:Cx}{cl:Cf}{E:St->XK}{e:Expr}{f:Fe}{pos:Pos}
noncomputable def zsP:D->Option (List Int)|.tup l=>zcV l|_=>none
def keysOf:List D->Option (List (List Int))
 |[]=>some []|d::l=>(zsP d).bind fun k=>(keysOf l).bind fun ks=>some (k::ks)
def zd6:D->Option D|.tup l=>(keysOf l).bind fun ks=>if decide (ks.length<=4)then some (.int (ST.ddN ks))else none|_=>none
theorem znH{K:PySem.W.Frag}{w:Wd}:∀{xs:List V}{ds:List D}{ks:Z2},Shds cl w xs ds->keysOf ds=some ks->zjf K w.H xs ks
 |_,_,ks,.nil,h=>by cases h;exact .nil
 |_,_,ks,.cons r t,h=>by
  unfold keysOf at h;rename_i v d vs ds'
  cases hk:zsP d with
  |none=>rw[hk]at h;cases h|some k=>
   rw[hk]at h;dsimp only[Option.bind]at h
   cases a:keysOf ds' with
   |none=>rw[a]at h;cases h|some b=>
    rw[a]at h;cases h;refine .cons ?_ (znH t a)
    cases r with
    |tup c _ rs=>
     have:zcV _=some k:=hk;obtain rfl:=zf4 rs this;exact⟨_,rfl,SqT.of c⟩
    |_=>cases hk
theorem zmG(hc:X.calm=true)(hu:X.A.units+8<cLine)(hg:Gl X "len")(hm:X.mg "len"=none)(U:Gl X "set")(J:X.mg "set"=none)(he:PE X e (tE cl E f))(hs:starEach [e] X.env=[(false,eval e X.env)]):
  PE X (.Call (.Name "len" p) [.Call (.Name "set" p2) [e] [] pos2] [] pos) (tE cl E (eUn zd6 f)):=by
 refine PE.imp (zcw zhT hg hm PySem.boot_len (zbg (zdv (zgz hc hu) U J (by decide +kernel) (zcb he zeo hs) (he:=hs) (af:=rfl)) zcx)) ?_;rintro σ H Q ⟨B,w,ρ,S,rfl,R,q⟩;refine⟨B,w,ρ,S,rfl,R,?_⟩;unfold eUn at q
 cases hf:f ρ S with
 |bad=>rw[hf]at q;exact q.elim|exc c S1=>rw[hf]at q;simp only[zah,hf,Out.bind];exact q|ok d S1=>
  rw[hf]at q;simp only[zah,hf,Out.bind];intro vs g i j sh;dsimp only[Out.bind]at q
  cases d with
  |tup l=>
   cases hk:keysOf l with
   |none=>simp[zd6,hk,Out.of]at q|some ks=>
    by_cases a:ks.length<=4
    ·simp only[zd6,hk,Option.bind,a,decide_true,yb2]at q
     cases sh with
     |cons h1 h=>
      cases h
      cases h1 with
      |tup ep k r=>
       refine⟨_,_,ks,rfl,SqT.of ep,znH r hk,a,fun l b=>?_⟩;have hd:=ST.zys a;refine⟨l,_,rfl,zat,by omega,?_⟩;exact q _ (g.add l (.ext (zlb l (ST.ddN ks)))) (i.grow (zaq b _)) (j.trans (zaq b _).fut) (.int _)
    ·simp[zd6,hk,a,Out.of]at q
  |_=>exact q.elim
end
noncomputable def zlB(f:Str)(o:Bool)(d:D):List (Str×Bool×D)->List (Str×Bool×D)
 |[]=>[(f,o,d)]|(g,x)::r=>if g=f then(g,o,d)::r else(g,x)::zlB f o d r
def Ob.put(ob:Ob)(f:Str)(o:Bool)(d:D):Ob:=⟨ob.cls,zlB f o d ob.fs⟩
section
variable{cl:Cf}{w:Wd}{n:Nat}
def zdr.len(h:zdr cl w n fs gs):fs.length=gs.length:=Paired.length h
def zdr.look(h:zdr cl w n fs gs)(e:gs.lookup f=some (o,d)):∃v,fs.lookup f=some v/\zj1 cl w (.fld n f) o v d:=by
 induction h with
 |nil=>cases e| @cons p q i c h t b=>
  obtain⟨h1,h2⟩:=h;obtain⟨g,v⟩:=p;obtain⟨g',o',d'⟩:=q;have a:g=g':=h1;subst a;rw[yaM]at e ⊢
  cases hb:f==g with
  |true=>
   rw[hb]at e;cases e;have:=eq_of_beq hb;subst this;exact⟨v,rfl,h2⟩
  |false=>
   rw[hb]at e;exact b e
def zdr.miss(h:zdr cl w n fs gs)(e:gs.lookup f=none):fs.lookup f=none:=by
 induction h with
 |nil=>rfl| @cons p q d c h t b=>
  obtain⟨h1,h2⟩:=h;obtain⟨g,v⟩:=p;obtain⟨g',o',d'⟩:=q;have a:g=g':=h1;subst a;rw[yaM]at e ⊢
  cases hb:f==g with
  |true=>rw[hb]at e;cases e|false=>rw[hb]at e;exact b e
def zdr.put(h:zdr cl w n fs gs)(J:zj1 cl w (.fld n f) o y d):zdr cl w n (zdR f y fs) (zlB f o d gs):=by
 induction h with
 |nil=>exact .cons ⟨rfl,J⟩ .nil| @cons p q c b h t e=>
  obtain⟨h1,h2⟩:=h;obtain⟨g,v⟩:=p;obtain⟨g',o',d'⟩:=q;have a:g=g':=h1;subst a;show zdr cl w n (if g=f then(g,y)::c else(g,v)::zdR f y c) (if g=f then(g,o,d)::b else(g,o',d')::zlB f o d b)
  by_cases hg:g=f
  ·subst hg;rw[if_pos rfl,if_pos rfl];exact .cons ⟨rfl,J⟩ t
  ·rw[if_neg hg,if_neg hg];exact .cons ⟨rfl,h2⟩ e
def zdr.keepBut(f:Fut w w')(k:∀a o g,g≠x->w.H a=some o->w.ow a=some (.fld n g)->w'.H a=some o/\w'.ow a=some (.fld n g))(h:zdr cl w n fs gs)(J:∀q∈gs,q.1=x->q.2.1=false):zdr cl w' n fs gs:=by
 induction h with
 |nil=>exact .nil| @cons p q r m h t c=>
  obtain⟨h1,h2⟩:=h;refine .cons ⟨h1,?_⟩ (c fun q i=>J q (yal _ i))
  by_cases b:q.1=x
  ·have j:=J q yan b;rw[j]at h2 ⊢
   rcases h2 with⟨_,h2⟩|⟨e,_⟩
   ·exact .inl ⟨rfl,Shd.up f h2⟩
   ·cases e
  ·exact h2.keep f fun a o l d=>k a o q.1 b l d
def zdr.keepF(f:Fut w w')(k:∀a o g,w.H a=some o->w.ow a=some (.fld n g)->w'.H a=some o/\w'.ow a=some (.fld n g))(h:zdr cl w n fs gs):zdr cl w' n fs gs:=by
 induction h with
 |nil=>exact .nil| @cons p q i e h t b=>exact .cons ⟨h.1,h.2.keep f fun a o d c=>k a o q.1 d c⟩ b
variable{B:Base}{σ:St}{ρ:Env}{S:Sto}
def World'.atObj(W:World' cl B w S)(h:S[n]?=some ob)(e:w.mu[n]?=some a):zwv cl w n a ob:=by
 obtain⟨c,b,x⟩:=W.obj n ob h;rw[e]at b;cases b;exact x
def zjJ(h:(S.set n ob)[m]?=some J):(m=n/\J=ob)\/(m≠n/\S[m]?=some J):=by
 by_cases e:n=m
 ·subst e
  have a:n<S.length:=by
   have:=(yaq.mp h).1;rwa[yaS]at this
  rw[yaN a]at h;cases h;exact .inl ⟨rfl,rfl⟩
 ·rw[ya4 e]at h;exact .inr ⟨fun z=>e z.symm,h⟩
def Rel.setf(R:Rel cl B σ w ρ S)(hn:S[n]?=some ob)(J:w.mu[n]?=some a)(how:w.ow a=some (.obj n))(hH:w.H a=some (.ins (cl ob.cls) dx fs))(hF:zdr cl w n fs ob.fs)(U:Shd cl w y d):
  Rel cl B σ (w.mut a (.ins (cl ob.cls) dx (zdR f y fs))) ρ (S.set n (ob.put f false d))/\Fut w (w.mut a (.ins (cl ob.cls) dx (zdR f y fs))):=by
 have j:=zeZ (w:=w) (p:=a) (o:=.ins (cl ob.cls) dx (zdR f y fs)) (by rw[how];exact yaI _)
 have kp:∀b u,w.H b=some u->w.ow b≠some (.obj n)->(w.mut a (.ins (cl ob.cls) dx (zdR f y fs))).H b=some u/\(w.mut a (.ins (cl ob.cls) dx (zdR f y fs))).ow b=w.ow b:=fun b u hb c=>⟨by
  show upd w.H a _ b=_
  rw[zai (fun z=>c (by rw[z];exact how))];exact hb,rfl⟩
 have q:B.Fr a=none:=(R.wd.own a _ how).elim (fun z=>by cases z) fun z=>z
 refine⟨⟨⟨fun b u h=>?_,R.wd.own,by rw[yaS];exact R.wd.len,fun m k h=>?_,R.wd.tab.keep j fun P ps h1 h2=>⟨(kp P _ h1 (by rw[h2];simp)).1,(kp P _ h1 (by rw[h2];simp)).2.trans h2⟩⟩,R.len,fun i o e h=>?_⟩,j⟩
 ·refine⟨?_,(R.wd.fr b u h).2⟩;show upd w.H a _ b=_;rw[zai (fun z=>by rw[z,q]at h;cases h)];exact(R.wd.fr b u h).1
 ·rcases zjJ h with⟨rfl,rfl⟩|⟨c,h⟩
  ·refine⟨a,J,how,dx,_,zat,?_⟩;exact zdr.put (hF.keepF j fun b u g hb hg=>⟨(kp b u hb (by rw[hg];exact fun z=>by cases z)).1,hg⟩) (.inl ⟨rfl,U.up j⟩)
  ·obtain⟨b,e,x⟩:=R.wd.obj m k h;exact⟨b,e,x.keep j fun b u hb hm=>kp b u hb fun z=>by rw[z]at hm;exact c hm.symm⟩
 ·obtain⟨v,r,x⟩:=R.slots i o e h;exact⟨v,r,x.keep j fun b u hb l=>⟨(kp b u hb (by rw[l];exact fun z=>by cases z)).1,l⟩⟩
def Wd.addF(w:Wd)(p:Addr)(o:HO)(n:Nat)(f:Str):Wd:=⟨upd w.H p o,fun b=>if b=p then some (.fld n f)else w.ow b,w.mu⟩
noncomputable def zff(ob:Ob):Bool:=decide (ob.fs.map (·.1)).Nodup
def zdr.dic(J:Fut w w')(k:∀b o g,g≠f->w.H b=some o->w.ow b=some (.fld n g)->w'.H b=some o/\w'.ow b=some (.fld n g))(U:zj1 cl w' (.fld n f) true (.ref a) d):∀{fs:List (Str×V)}{gs:List (Str×Bool×D)},zdr cl w n fs gs->(gs.map (·.1)).Nodup->fs.lookup f=some (.ref a)->zdr cl w' n fs (zlB f true d gs):=by
 intro fs gs h
 induction h with
 |nil=>intro _ e;cases e| @cons p q j c h t l=>
  intro nd e;obtain⟨h1,h2⟩:=h;obtain⟨g,v⟩:=p;obtain⟨g',o',d'⟩:=q;have i:g=g':=h1;subst i;rw[yaw,ybp]at nd;show zdr cl w' n ((g,v)::j) (if g=f then(g,true,d)::c else(g,o',d')::zlB f true d c);rw[yaM]at e
  by_cases hg:g=f
  ·subst hg;rw[if_pos rfl];simp only[ybJ]at e;cases e;refine .cons ⟨rfl,U⟩ ?_;have t':zdr cl w n j c:=t;exact t'.keepBut J k fun q s m=>absurd (yah.mpr ⟨q,s,m⟩) nd.1
  ·rw[if_neg hg];have hb:(f==g)=false:=ybz.mpr fun z=>hg z.symm
   rw[hb]at e;exact .cons ⟨rfl,h2.keep J fun b o hb r=>k b o g hg hb r⟩ (l nd.2 e)
def Wd.addO(w:Wd)(x dx C:Addr)(n:Nat):Wd:=⟨upd (upd w.H dx (.own x)) x (.ins C dx []),fun b=>if b=x then some (.obj n)else if b=dx then none else w.ow b,w.mu++[x]⟩
theorem Rel.made(R:Rel cl B σ w ρ S)(U:w.H x=none)(J:w.H dx=none)(ne:dx≠x):Rel cl B σ (w.addO x dx (cl c) S.length) ρ (S++[⟨c,[]⟩])/\Fut w (w.addO x dx (cl c) S.length):=by
 have kp:∀b o,w.H b=some o->(w.addO x dx (cl c) S.length).H b=some o/\(w.addO x dx (cl c) S.length).ow b=w.ow b:=fun b o hb=>by
  have k:b≠x:=zam hb U;have j:b≠dx:=zam hb J;refine⟨?_,?_⟩
  ·show upd (upd w.H dx _) x _ b=_;rw[zai k,zai j];exact hb
  ·show(if b=x then _ else if b=dx then _ else w.ow b)=_;rw[if_neg k,if_neg j]
 have d:Fut w (w.addO x dx (cl c) S.length):=⟨fun b o hb hk=>⟨(kp b o hb).1,(kp b o hb).2.trans hk⟩,fun n a h=>by
  show(w.mu++[x])[n]?=some a
  rw[yaF (yaq.mp h).1];exact h⟩
 have g:B.Fr x=none:=by
  cases z:B.Fr x with
  |none=>rfl|some u=>have:=(R.wd.fr x u z).1;rw[U]at this;cases this
 refine⟨⟨⟨fun b o h=>?_,fun b r h=>?_,by show(w.mu++[x]).length=_;rw[yak,yak,R.wd.len];rfl,fun m ob h=>?_,R.wd.tab.keep d fun P ps h1 h2=>⟨(kp P _ h1).1,(kp P _ h1).2.trans h2⟩⟩,R.len,fun i o e h=>?_⟩,d⟩
 ·have:=kp b o (R.wd.fr b o h).1;exact⟨this.1,this.2.trans (R.wd.fr b o h).2⟩
 ·have h':(if b=x then some (Root.obj S.length)else if b=dx then none else w.ow b)=some r:=h;split at h'
  ·rename_i z;rw[z];exact .inr g
  ·split at h'
   ·cases h'
   ·exact R.wd.own b r h'
 ·by_cases hm:m<S.length
  ·rw[yaF hm]at h;obtain⟨b,e,y⟩:=R.wd.obj m ob h;exact⟨b,d.mu _ _ e,y.keep d fun b o hb _=>kp b o hb⟩
  ·have f:m=S.length:=by
    have:=(yaq.mp h).1;rw[yak,yc7]at this;omega
   subst f;rw[yaA (yaj _),ycI]at h;cases h;refine⟨x,?_,if_pos rfl,dx,[],zat,.nil⟩;show(w.mu++[x])[S.length]?=some x;rw[yaA (by rw[R.wd.len];exact yaj _),R.wd.len,ycI];rfl
 ·obtain⟨v,p,y⟩:=R.slots i o e h;exact⟨v,p,y.keep d fun b o hb l=>⟨(kp b o hb).1,(kp b o hb).2.trans l⟩⟩
end
noncomputable def zq5(cn f:Str)(d:D)(S:Sto):Option D:=match d with
 |.ref n=>(match S[n]? with
  |some ob=>if ob.cls=cn then(match ob.fs.lookup f with|some (false,d)=>some d|_=>none)else none
  |none=>none)
 |_=>none
def zof(cn f:Str)(fe:Fe):Fe:=fun ρ S=>(fe ρ S).bind fun d S1=>match zq5 cn f d S1 with|some r=>.ok r S1|none=>.bad
noncomputable def zg3(cl:Cf)(cn f:Str):Prop:=Cls cl.K (cl cn)/\zcE cl.K (cl cn) f
section
variable{cl:Cf}{cn:Str}{X:Cx}{E:St->XK}{e:Expr}{fe:Fe}{f:Str}{pos:Pos}{B:Base}{σ:St}{w:Wd}{ρ:Env}{S:Sto}
def zgn(R:Rel cl B σ w ρ S)(hv:Shd cl w v (.ref n))(J:S[n]?=some ob):∃a dx fs,v=.ref a/\w.mu[n]?=some a/\w.ow a=some (.obj n)/\w.H a=some (.ins (cl ob.cls) dx fs)/\zdr cl w n fs ob.fs:=by
 cases hv with
 |ref e=>
  obtain⟨h1,dx,fs,h2,b⟩:=R.wd.atObj J e;exact⟨_,dx,fs,rfl,e,h1,h2,b⟩
def zwm(hk:zg3 cl cn f)(R:Rel cl B σ w ρ S)(hv:Shd cl w v d)(hd:zq5 cn f d S=some r):∃a C dx fs y,v=.ref a/\w.H a=some (.ins C dx fs)/\Cls cl.K C/\zcE cl.K C f/\fs.lookup f=some y/\Shd cl w y r:=by
 unfold zq5 at hd
 cases d with
 |ref n=>
  dsimp only at hd
  cases c:S[n]? with
  |none=>rw[c]at hd;cases hd|some ob=>
   rw[c]at hd;dsimp only at hd;split at hd
   ·rename_i b;split at hd
    ·rename_i d e;cases hd;obtain⟨a,dx,fs,rfl,_,_,g,h⟩:=zgn R hv c;obtain⟨v,lv,fr⟩:=h.look e
     rcases fr with⟨_,fr⟩|⟨z,_⟩
     ·exact⟨a,_,dx,fs,v,rfl,g,b ▸ hk.1,b ▸ hk.2,lv,fr⟩
     ·cases z
    ·cases hd
   ·cases hd
 |_=>cases hd
def zuk(hk:zg3 cl cn f)(kk:X.K=cl.K)(he:PE X e (tE cl E fe))(hb:attributeBase e f X.env (eval e X.env)=eval e X.env):PE X (.Attribute e f pos) (tE cl E (zof cn f fe)):=by
 refine PE.imp (zcv he hb) ?_;rintro σ H Q ⟨B,w,ρ,S,rfl,R,q⟩;refine⟨B,w,ρ,S,rfl,R,?_⟩;unfold zof at q
 cases hf:fe ρ S with
 |bad=>rwa[hf]at q|exc c S1=>rwa[hf]at q|ok d S1=>
  rw[hf]at q;intro v g b l h1;dsimp only[Out.bind]at q
  cases hd:zq5 cn f d S1 with
  |none=>rw[hd]at q;exact q.elim|some r=>
   rw[hd]at q;obtain⟨a,C,dx,fs,y,rfl,k,e2,j,i,h⟩:=zwm hk b h1 hd;rw[kk];exact⟨a,C,dx,fs,y,rfl,k,e2,j,i,q y g b l h⟩
end
end S2
namespace L2
open PySem PySem.Spec PyProof.Rows
end L2
namespace S2
open PySem PySem.Spec PyProof.Rows L2
def zmL(cn f:Str)(fo fe:Fe):Fs:=fun ρ S=>match fe ρ S with
 |.bad=>.bad|.exc c S1=>.ex c ρ S1|.ok r S1=>(match fo ρ S1 with
  |.bad=>.bad|.exc c S2=>.ex c ρ S2|.ok (.ref n) S2=>(match S2[n]? with
   |some ob=>if decide (ob.cls=cn)&&decide (ob.fs.length<1000)then .nx ρ (S2.set n (ob.put f false r))else .bad
   |none=>.bad)
  |.ok _ _=>.bad)
noncomputable def zaJ(c m:Str)(d:D)(S:Sto):Bool:=match d with
 |.ref n=>(match S[n]? with|some ob=>decide (ob.cls=c)&&(ob.fs.lookup m).isNone|none=>false)
 |_=>false
def zbH(c m:Str)(G:List D->Sto->Out D)(fo:Fe)(fs:List Fe):Fe:=fun ρ S=>(fo ρ S).bind fun d S1=>if zaJ c m d S1 then(zah fs ρ S1).bind fun ds S2=>G (d::ds) S2 else .bad
def eMk(c:Str)(ah:List D)(G:List D->Sto->Out D)(fs:List Fe):Fe:=fun ρ S=>(zah fs ρ S).bind fun ds S1=>(G (.ref S1.length::(ds++ah)) (S1++[⟨c,[]⟩])).bind fun r S2=>match r with|.non=>.ok (.ref S1.length) S2|_=>.bad
structure Same'(cl:Cf)(X:Cx):Prop where
 kk:X.K=cl.K
 pp:X.prog=cl.P
 ww:X.w=cl.wo
section
variable{cl:Cf}{cn:Str}{X:Cx}{E:St->XK}{a o e:Expr}{fa fo fe:Fe}{f:Str}{pos apos:Pos}{own:Bool}
def zrE(sm:Same' cl X)(hk:zg3 cl cn f)(ho:PE X o (tE cl E fo))(he:PE X e (tE cl E fe))(hs:swapsWith e (some (.Attribute o f apos)) pos.line X.env=pure false):PS X (.Assign [.Attribute o f apos] e pos) (tS cl E own (zmL cn f fo fe)):=by
 refine PS.imp (zky ho he hs) ?_;rintro A σ H ⟨B,w,ρ,S,rfl,R,q⟩;refine⟨B,w,ρ,S,rfl,R,?_⟩;unfold zmL at q
 cases hf:fe ρ S with
 |bad=>rwa[hf]at q|exc c S1=>rw[hf]at q;exact fun w' j k=>q σ w' j k|ok r S1=>
  rw[hf]at q;intro v t x s h1;dsimp only at q;refine⟨B,t,ρ,S1,rfl,x,?_⟩
  cases g:fo ρ S1 with
  |bad=>rwa[g]at q|exc c S2=>rw[g]at q;exact fun w' j k=>q σ w' j (s.trans k)|ok d S2=>
   rw[g]at q;intro y z R2 p h2
   cases d with
   |ref n=>
    dsimp only at q
    cases h:S2[n]? with
    |none=>rw[h]at q;exact q.elim|some ob=>
     rw[h]at q;dsimp only at q;split at q
     ·rename_i b;rw[yab]at b;obtain⟨a,dx,fs,rfl,i,how,l,m⟩:=zgn R2 h2 h;rw[sm.kk];refine⟨a,_,dx,fs,rfl,l,yag b.1 ▸ hk.1,yag b.1 ▸ hk.2,by rw[m.len];exact yag b.2,?_⟩;obtain⟨u,F3⟩:=R2.setf (f:=f) h i how l m (h1.up p);exact q σ _ u (s.trans (p.trans F3))
     ·exact q.elim
   |_=>exact q.elim
end
noncomputable def zh9(C:Addr)(m:Str)(sp:Sp)(dvs:List V)(E:St->XK)(ta:TE)(t:TA):TE:=fun σ H Q=>ta σ H fun x H1=>∃a dx fs,x=.ref a/\H1 a=some (.ins C dx fs)/\fs.lookup m=none ∧
 t σ H1 fun vs H2=>sp (x::(vs++dvs)) H2 Q (E σ)
noncomputable def zqx(C:Addr)(sp:Sp)(dvs:List V)(E:St->XK)(t:TA):TE:=fun σ H Q=>t σ H fun vs H1=>∀x dx,H1 x=none->H1 dx=none->dx≠x →
 sp (.ref x::(vs++dvs)) (upd (upd H1 dx (.own x)) x (.ins C dx [])) (fun v H2=>v=.non/\Q (.ref x) H2) (E σ)
section
variable{X:Cx}{CX:CXT}{k:Nat}{f C:Addr}{fd:FuncData}{ps:List Str}{sp:Sp}{dvs:List V}{ds:List Value}{E:St->XK}{x m:Str}{p pos apos:Pos}{e o:Expr}{es:List Expr}{ta:TE}{t:TA}
def zpl(he:PE X o ta)(c:Cls X.K C)(hm:Meth X.K C m f)(F:FnOk X.prog X.w X.K X.mg X.base CX k f fd ps sp)(hr:Room k X.A)(hb:zdm X.K fd ps ds)(hd:Vals dvs ds)(U:zdL CX X E)(ha:PA X (e::es) t)
  (J:starEach (e::es) X.env=(false,eval e X.env)::starEach es X.env) (af:(backTo pos (starEach es X.env)).any (·.1)=false)
  (ht:eval (.Call (.Attribute o m apos) (e::es) [] pos) X.env=(do
   let ov ← eval o X.env
   standAt apos.atName
   let (f,first) ← holding [ov] (getMethod ov m pl)
   callWith pos f first (backTo pos (starEach (e::es) X.env)) (backToKw pos (keywordEach [] X.env)))):
  PE X (.Call (.Attribute o m apos) (e::es) [] pos) (zh9 C m sp dvs E ta t):=by
 intro pins s σ H Q I h;refine PySem.W.methodCall_KW (pl:=pl) (thn (he pins s σ H _ I h) fun u s1 ⟨x,H1,d,g,a,dx,fs,ex,j,l,q⟩=>?_) ht;subst ex;obtain rfl:u=Value.ref a:=g;refine zgQ d j c hm l ?_;refine ydv (first:=[.ref a]) (h₀:=X.base) I.ok.mod.kin hm.kp (thn (ha pos pins s1 σ H1 _ d q) fun us s2 ⟨vs,H2,b,r,i⟩=>⟨b.kIn,?_⟩) J af;exact zhj (us:=.ref a::us) (vs:=.ref a::vs) F hr hb hd U b (.cons rfl r) i
def zne(he:PE X o ta)(c:Cls X.K C)(hm:Meth X.K C m f)(F:FnOk X.prog X.w X.K X.mg X.base CX k f fd ps sp)(U:Room k X.A)(hb:zdm X.K fd ps ds)(hd:Vals dvs ds)(J:zdL CX X E)
  (ht:eval (.Call (.Attribute o m apos) [] [] pos) X.env=(do
   let ov ← eval o X.env
   standAt apos.atName
   let (f,first) ← holding [ov] (getMethod ov m pl)
   callWith pos f first (backTo pos (starEach [] X.env)) (backToKw pos (keywordEach [] X.env)))):
  PE X (.Call (.Attribute o m apos) [] [] pos) (zh9 C m sp dvs E ta zwE):=by
 intro pins s σ H Q I h;refine PySem.W.methodCall_KW (pl:=pl) (thn (he pins s σ H _ I h) fun u s1 ⟨x,H1,b,d,a,dx,fs,ex,e,l,q⟩=>?_) ht;subst ex;obtain rfl:u=Value.ref a:=d;refine zgQ b e c hm l ?_;exact PySem.W.callWith_K0 (first:=[.ref a]) b.kIn hm.kp (zhj (us:=[.ref a]) (vs:=[.ref a]) F U hb hd J b (.cons rfl .nil) q)
def zmT(M:Mk X.K C f)(F:FnOk X.prog X.w X.K X.mg X.base CX k f fd ps sp)(U:Room (k+1) X.A)(hb:zdm X.K fd ps ds)(hd:Vals dvs ds)
  (J:zdL CX X E) (I:Inv X pins σ H s) (r:Vals vs us)
  (h:∀x dx,H x=none->H dx=none->dx≠x->sp (.ref x::(vs++dvs)) (upd (upd H dx (.own x)) x (.ins C dx [])) (fun v H2=>v=.non/\Q (.ref x) H2) (E σ)):
  wpAny (model X.prog X.w) X.A (call (.ref C) us) (EP X pins σ Q) X.xe s:=by
 have d:=h (s.heap.objs.size+1) s.heap.objs.size (I.hok.fresh (yb3 _)) (I.hok.fresh (yaj _)) (yav (ycd _));have b:=Inv.made (C:=C) I;have c:Vals (V.ref (s.heap.objs.size+1)::(vs++dvs)) (Value.ref (s.heap.objs.size+1)::(us++ds)):=.cons rfl (r.append hd)
 have j:(Value.ref (s.heap.objs.size+1)::us++ds).length=ps.length:=by
  have e:=c.length;rw[F.len _ _ _ _ d]at e;exact e.symm
 refine wpAny_call (zpF (f:=f) I.kIn M.makes M.init (ycB.mp M.fn) (yc8 (F.run _ X.stack _ _ ⟨Value.ref (s.heap.objs.size+1)::us,[]⟩ (Value.ref (s.heap.objs.size+1)::(us++ds)) _ _ (E σ) (U.make C us [])
  (b.env0.make C us []) (hb _ (Value.ref (s.heap.objs.size+1)::us) b.kIn j) c d) fun r s' a=>?_))
 cases r with
 |error e=>exact J pins σ _ _ e s' b a|ok fl=>
  cases fl with
  |ret u=>
   obtain⟨v,H',l,g,ev,i⟩:=b.after a;subst ev;exact⟨g,⟨V.ref (s.heap.objs.size+1),H',l,rfl,i⟩⟩
  |next=>exact False.elim a|brk=>exact False.elim a|cont=>exact False.elim a
def zpm(M:Mk X.K C f)(F:FnOk X.prog X.w X.K X.mg X.base CX k f fd ps sp)(hr:Room (k+1) X.A)(hg:Gl X x)(hm:X.mg x=some (.ref C))(hb:zdm X.K fd ps ds)(hd:Vals dvs ds)(U:zdL CX X E)
  (ha:PA X (e::es) t) (J:(x==("__debug__":Str))=false) (he:starEach (e::es) X.env=(false,eval e X.env)::starEach es X.env) (af:(backTo pos (starEach es X.env)).any (·.1)=false):
  PE X (.Call (.Name x p) (e::es) [] pos) (zqx C sp dvs E t):=by
 intro pins s σ H Q I h;refine ycj (zfT I hg hm ?_ J);refine ydv (h₀:=X.base) I.ok.mod.kin M.kp (thn (ha pos pins s σ H _ I h) fun us s1 ⟨vs,H1,a,r,q⟩=>⟨a.kIn,?_⟩) he af;exact zmT M F hr hb hd U a r q
end
section
variable{cl:Cf}{E:St->XK}{fs:List Fe}{fo:Fe}{G:List D->Sto->Out D}{σ:St}{H:Hp}{Q:VK}{n:Nat}{c m:Str}{ρ:Env}
theorem zeD:∀{fs:List Fe}{S S1:Sto}{ds:List D},zah fs ρ S=.ok ds S1->ds.length=fs.length
 |[],S,S1,ds,h=>by cases h;rfl
 |f::fs,S,S1,ds,h=>by
  unfold zah at h
  cases h1:f ρ S with
  |bad=>rw[h1]at h;cases h|exc c S2=>rw[h1]at h;cases h|ok d S2=>
   rw[h1]at h;dsimp only[Out.bind]at h
   cases h2:zah fs ρ S2 with
   |bad=>rw[h2]at h;cases h|exc c a=>rw[h2]at h;cases h|ok es a=>rw[h2]at h;cases h;rw[yap,yap,zeD h2]
def zno(R:Rel cl B σ w ρ S)(hv:Shd cl w v d)(h:zaJ c m d S=true):∃a dx fs,v=.ref a/\w.H a=some (.ins (cl c) dx fs)/\fs.lookup m=none:=by
 unfold zaJ at h
 cases d with
 |ref n=>
  dsimp only at h
  cases b:S[n]? with
  |none=>rw[b]at h;cases h|some ob=>
   rw[b]at h;dsimp only at h;rw[yab]at h;obtain⟨a,dx,fs,rfl,_,_,f,g⟩:=zgn R hv b;have e:=yag h.1;subst e;exact⟨a,dx,fs,rfl,f,g.miss (by simpa using h.2)⟩
 |_=>cases h
def zvk(q:tE cl E (zbH c m G fo fs) σ H Q)(J:fs.length+1=n):zh9 (cl c) m (zjh cl n false G) [] E (tE cl E fo) (tAs cl E fs) σ H Q:=by
 obtain⟨B,w,ρ,S,rfl,R,q⟩:=q;refine⟨B,w,ρ,S,rfl,R,?_⟩;unfold zbH at q
 cases e:fo ρ S with
 |bad=>rwa[e]at q|exc c S1=>rwa[e]at q|ok d j=>
 rw[e]at q;intro v p o F0 h0;dsimp only[Out.bind]at q
 cases hok:zaJ c m d j with
 |false=>rw[hok]at q;exact q.elim|true=>
 rw[hok,if_pos rfl]at q;obtain⟨a,dx,fs',rfl,t,hm⟩:=zno o h0 hok;refine⟨a,dx,fs',rfl,t,hm,B,p,ρ,j,rfl,o,?_⟩
 cases hf:zah fs ρ j with
 |bad=>rwa[hf]at q|exc c S1=>rw[hf]at q;exact fun b f g=>q b f (F0.trans g)|ok ds S1=>
  rw[hf]at q;intro vs b f g h1;dsimp only at q;refine⟨?_,b.base,b.inn,d::ds,S1,rfl,f.wd.enter,?_,?_⟩
  ·rw[yaO,yap,h1.length,zeD hf];exact J
  ·rw[yaO];exact .cons ((h0.up g).up (zcj b)) (h1.up (zcj b))
  cases hg:G (d::ds) S1 with
  |bad=>rwa[hg]at q|exc c S2=>
   rw[hg]at q;intro i h l;obtain⟨k,F3⟩:=f.leave h l;exact q (b.back i) k (F0.trans (g.trans F3))
  |ok r S2=>
   rw[hg]at q;intro v i h l s;obtain⟨k,F3⟩:=f.leave h l;exact q v (b.back i) k (F0.trans (g.trans F3)) (Shd.up (zdV h) s)
def zvj(q:tN cl E (zbH c m G fo fs) σ H Q)(J:fs.length+1=n):zh9 (cl c) m (zjh cl n true G) [] E (tE cl E fo) (tAs cl E fs) σ H Q:=by
 obtain⟨B,w,ρ,S,rfl,R,q⟩:=q;refine⟨B,w,ρ,S,rfl,R,?_⟩;unfold zbH at q
 cases g:fo ρ S with
 |bad=>rwa[g]at q|exc c S1=>rwa[g]at q|ok d l=>
 rw[g]at q;intro v y x F0 h0;dsimp only[Out.bind]at q
 cases hok:zaJ c m d l with
 |false=>rw[hok]at q;exact q.elim|true=>
 rw[hok,if_pos rfl]at q;obtain⟨a,dx,fs',rfl,C,hm⟩:=zno x h0 hok;refine⟨a,dx,fs',rfl,C,hm,B,y,ρ,l,rfl,x,?_⟩
 cases hf:zah fs ρ l with
 |bad=>rwa[hf]at q|exc c S1=>rw[hf]at q;exact fun b h k=>q b h (F0.trans k)|ok ds S1=>
  rw[hf]at q;intro vs b h k h1;dsimp only at q;refine⟨?_,b.base,b.inn,d::ds,S1,rfl,h.wd.enter,?_,?_⟩
  ·rw[yaO,yap,h1.length,zeD hf];exact J
  ·rw[yaO];exact .cons ((h0.up k).up (zcj b)) (h1.up (zcj b))
  cases hg:G (d::ds) S1 with
  |bad=>rwa[hg]at q|exc c S2=>
   rw[hg]at q;intro e j s;obtain⟨p,F3⟩:=h.leave j s;exact q (b.back e) p (F0.trans (k.trans F3))
  |ok r S2=>
   rw[hg]at q;intro v e j s A;obtain⟨p,F3⟩:=h.leave j s;obtain⟨a,o,i,rfl,k1,k2,t⟩:=A;have f:b.base.Fr a=none:=(j.own a _ k1).elim (fun z=>by cases z) fun z=>z
   have k3:(b.back e).ow a=some .far:=by
    show(if(b.base.Fr a).isSome=true then b.ow a else Root.out (e.ow a))=_;rw[f,k1];rfl
   have hb:B.Fr a=none:=by
    cases z:B.Fr a with
    |none=>rfl|some u=>rw[zeh h.wd z]at f;cases f
   have hd:=zhG (w:=b.back e) (a:=a) (by rw[k3];exact yaI _);have:=q a o ((b.back e).del a) (p.del k3 hb) (F0.trans (k.trans (F3.trans hd))) (if_pos rfl) ((t.up (zdV j)).up hd);rwa[zmd (w:=b.back e) k2]at this
def zBp(J:∀w,Shds cl w dvs ah)(q:tE cl E (eMk c ah G fs) σ H Q)(U:fs.length+ah.length+1=n):zqx (cl c) (zjh cl n false G) dvs E (tAs cl E fs) σ H Q:=by
 obtain⟨B,w,ρ,S,rfl,R,q⟩:=q;refine⟨B,w,ρ,S,rfl,R,?_⟩;unfold eMk at q
 cases hf:zah fs ρ S with
 |bad=>rwa[hf]at q|exc c S1=>rwa[hf]at q|ok ds S1=>
  rw[hf]at q;intro vs a i k h1;dsimp only[Out.bind]at q;intro x dx m f ne;obtain⟨R2,j⟩:=i.made (c:=c) m f ne
  have b:(a.addO x dx (cl c) S1.length).mu[S1.length]?=some x:=by
   show(a.mu++[x])[S1.length]?=some x;rw[yaA (by rw[i.wd.len];exact yaj _),i.wd.len,ycI];rfl
  refine⟨?_,(a.addO x dx (cl c) S1.length).base,(a.addO x dx (cl c) S1.length).inn,.ref S1.length::(ds++ah),S1++[⟨c,[]⟩],rfl,R2.wd.enter,?_,?_⟩
  ·rw[yap,yak,h1.length,zeD hf,(J a).length];exact U
  ·exact .cons (.ref b) (((h1.up j).up (zcj _)).append (J _))
  cases hg:G (.ref S1.length::(ds++ah)) (S1++[⟨c,[]⟩])with
  |bad=>rwa[hg]at q|exc c S2=>
   rw[hg]at q;intro e g F3;obtain⟨h,d⟩:=R2.leave g F3;exact q ((a.addO x dx _ S1.length).back e) h (k.trans (j.trans d))
  |ok r S2=>
   rw[hg]at q;intro v e g F3 l
   cases r with
   |non=>
    obtain⟨h,d⟩:=R2.leave g F3;refine⟨by cases l;rfl,q (.ref x) ((a.addO x dx _ S1.length).back e) h (k.trans (j.trans d)) (.ref (d.mu _ _ b))⟩
   |_=>exact q.elim
end
end S2
namespace L2
open PySem PySem.Spec PyProof.Rows
end L2
namespace S2
open PySem PySem.Spec PyProof.Rows L2
end S2
namespace PySem
open Sem (wp)
namespace F
def ziN:typeLookup (.type "list") "keys"=pure none:=by rw[yb8,ybm];kernel_rfl
end F
section
variable{prog:Program}{w:World}{A:Around}{E:Z5}{s:Shared}{a:Addr}{o:Obj}
theorem znG{xs:Array Value}{k:Nat}{sl:Array (Option Value)}{Q:Option Value->Shared->Prop}(J:s.heap.get? a=some {cls:=.type "list",dict:=none,data:=.seq xs k,slots:=sl})(U:A.handled=none)
  (h:∀h' tk,(∀b o,s.heap.get? b=some o->h'.get? b=some o)->Q none {s with heap:=h',toks:=tk}):
  wpAny (model prog w) A (getAttr? (.ref a) "keys") Q E s:=by
 obtain⟨j,g,d,tk,os⟩:=s;have i:∀c,(⟨j,g,d,c,os⟩:Shared).TypeIs (.ref a) "list":=fun _=>⟨_,J,rfl⟩
 have f1:=sub_AttributeError;have p:=ycJ.lookup;have n:=ycJ.bind (.ref a);have m:=am_list_getattr_none;unfold getAttr? getAttrBy? getAttrBy
 repeat (any_goals (first|assumption|exact i _|((with_reducible show wpAny _ _ (call (Value.builtin "list.__getattribute__") _ _) _ _ _);refine yce ycJ (i _) am_entry_list_getattribute (F.args_list_getattribute_2 _ _) (meets_getattribute_miss_list a xs k sl "keys" _ F.ziN (by decide)) ⟨J,U,fun h' c e f=>?_⟩)|wp_step))
 obtain⟨t',l,he⟩:=f.there;show wpAny _ _ (getattributeRaised _ _ _ _ _ _ _) _ _ _;unfold getattributeRaised
 repeat (any_goals (first|assumption|wp_step))
 exact h _ _ fun b o e=>f.keeps b o e
end
namespace F
def zbw:entryFor table "dict.update.loop"=some Builtin.«dict.update.loop»:=entryFor_of_tree (by kernel_rfl)
theorem zaE:plainId "dict.update.loop"=true:=by decide +kernel
end F
end PySem
namespace ST
open PySem PySem.Spec PyProof.Rows
section
variable{prog:Program}{w:World}{K:Type}[DecidableEq K]{knd:KeyKind prog w K}{A:Around}{R:Result->Shared->Prop}{I:Addr}{fp wr:List Addr}{G:Array GenState->Array GenState->Prop}{n:Nat}{P:Nat->Value->Prop}{St:Nat->Shared->Prop}
noncomputable def zqI(ks:Nat->K)(vf:Nat->Value)(i:Nat):List (K×Value):=(List.range i).foldl (fun acc j=>stored acc (ks j) (vf j)) []
def zfN{ks:Nat->K}{vf:Nat->Value}{i:Nat}:zqI ks vf (i+1)=stored (zqI ks vf i) (ks i) (vf i):=by
 unfold zqI;rw[ybE,ydB];rfl
theorem zkx{ks:Nat->K}{vf:Nat->Value}:∀{i:Nat},(zqI ks vf i).length<=i
 |0=>yaj _|i+1=>by
  rw[zfN];refine yas ?_ (Nat.succ_le_succ (zkx (ks:=ks) (vf:=vf) (i:=i)));unfold stored;split
  ·rw[yae];exact yb3 _
  ·rw[yak];exact yaj _
theorem zoi(W:WalksS prog w A.in1 I fp wr G n P St)(S:Addr)(a3:S ∉ fp)(T:Nat->Addr)(ks:Nat->K)(J vf:Nat->Value)(U:∀i v,P i v->v=.ref (T i))(hk:∀i,i<n->knd.is (ks i) (J i)=true)(hT:∀i,i<n->T i ∉ S::wr)(hn:n<=sizeLine):
  ∀(k i:Nat) (tk:Tok) (s:Shared),n-i=k->i<=n->St i s->s.heap.DictOf knd S (zqI ks vf i)->(∀i,i<n->s.heap.IsTuple (T i) #[J i,vf i]) →
   (∀s',Moved (S::wr) G s s'->s'.heap.DictOf knd S (zqI ks vf n)->R (.ok (.ret .none)) s') →
   codeAny (model prog w) A (.builtin "dict.update.loop" ⟨[.ref S,.ref I,.int i tk,.none],[]⟩) R s:=by
 have u:S ∉ wr:=fun h=>a3 (W.sub _ h)
 have a:∀b∈wr,b∈S::wr:=fun b hb=>yal _ hb
 intro k
 induction k with
 |zero=>
  intro i tk s B hi f M t N
  have C:i=n:=by omega
  subst C;refine ybR PySem.F.zbw ?_;rw[ybu PySem.F.zaE _];show wpAny _ A.in1 (pyNext (.ref I) >>= _) _ _ s;refine yaa (W.done s _ _ f fun s' hm=>?_);show wpAny _ A.in1 (Builtin.Dict.addKeywords S [] >>= _) _ _ s';exact yaa (yaf (yaf (N s' (hm.mono a) (M.at fun o l=>hm.heap S _ u l))))
 |succ k V=>
  intro i tk s B hi f M t N
  have c:i<n:=by omega
  refine ybR PySem.F.zbw ?_;rw[ybu PySem.F.zaE _];show wpAny _ A.in1 (pyNext (.ref I) >>= _) _ _ s;refine yaa (W.item i s _ _ c f fun v s' X m hm=>?_);obtain rfl:=U i v X
  have d:∀i,i<n->s'.heap.IsTuple (T i) #[J i,vf i]:=fun i hi=>by
   obtain⟨o,l,r⟩:=t i hi;exact⟨o,hm.heap _ _ (fun z=>hT i hi (a _ z)) l,r⟩
  have L:=M.at (h':=s'.heap) fun o l=>hm.heap S _ u l
  refine yaa (yaZ (yaa ?_));refine wpAny_tryCatch ?_;unfold Builtin.Dict.pairItems;obtain⟨Q,p,E,Y,D⟩:=d i c;have H:s'.TypeIs (.ref (T i)) "tuple":=⟨Q,p,E⟩;refine yaa (ycm H ?_);rw[if_pos (by decide)];refine yaa (yb4 p D (yaf ?_));show wpAny _ _ (holding [J i,vf i] (dictSet S (J i) (vf i))) _ _ _;refine yaZ (wpAny_dictSet_pairs (hk i c) L (fun h' hd g=>?_) (yas zkx (by omega)));rw[<-zfN]at hd;refine yaf ⟨ydg PySem.F.zaE _,?_⟩;refine V (i+1) _ _ (by omega) c (W.frame _ s' _ _ m (yb3 _) fun b hb o e=>?_) hd (fun j O=>?_) fun y q x=>?_
  ·rw[g.2 b (fun h:b=S=>a3 (by rw[<-h];exact hb))];exact e
  ·obtain⟨o,l,r⟩:=d j O;exact⟨o,(g.2 _ (fun z=>hT j O (by rw[z];exact yan))).trans l,r⟩
  ·refine N y (Moved.trans W.gtrans ((hm.mono a).then_heap (yb3 _) fun b o hb e=>?_) q) x;rw[g.2 b (fun h:b=S=>hb (by rw[h];exact yan))];exact e
end
end ST
namespace PySem
section
variable{prog:Program}{w:World}{K:Type}[DecidableEq K]{knd:KeyKind prog w K}{A:Around}{E:Z5}{s:Shared}
theorem zlY{l:Addr}{items:Array Value}{Q:Z5}(T:Nat->Addr)(ks:Nat->K)(J vf:Nat->Value)(hh:A.handled=none){kl:Nat}{sl:Array (Option Value)}(U:s.heap.get? l=some {cls:=.type "list",dict:=none,data:=.seq items kl,slots:=sl})
  (hi:∀(i:Nat) (v:Value),items[i]?=some v->v=.ref (T i)) (hk:∀i,i<items.size->knd.is (ks i) (J i)=true) (hT:∀i,i<items.size->s.heap.IsTuple (T i) #[J i,vf i]) (hn:items.size<=sizeLine)
  (h:∀(h':Heap) (tk:Nat),h'.DictOf knd s.heap.objs.size (ST.zqI ks vf items.size)->(∀b o,s.heap.get? b=some o->h'.get? b=some o)->Q (.ref s.heap.objs.size) {s with heap:=h',toks:=tk}):
  wpAny (model prog w) A (call (.type "dict") [.ref l]) Q E s:=by
 refine callType_codes (Q₁:=fun obj f=>obj=.ref s.heap.objs.size/\f={s with heap:=s.heap.push {cls:=.type "dict",data:=.dict #[]}}) F.kt_called_dict (F.kt_typeCall_dict_1 _) F.entry_dict_init (kt_code_dict_new _ ⟨rfl,rfl⟩) ?_;rintro obj f ⟨rfl,rfl⟩;generalize D:s.heap.push {cls:=.type "dict",data:=.dict #[]}=G;have c:G.DictOf knd s.heap.objs.size []:=D ▸ Heap.DictOf.new s.heap;have j:∀b o,s.heap.get? b=some o->G.get? b=some o:=fun b o e=>D ▸ yad _ e
 have g:=j _ _ U;refine⟨c.typeIs,F.args_dict_init_2 _ _,?_⟩;unfold Builtin.«dict.__init__»;refine yaa ?_;unfold Builtin.Dict.selfAndRest;refine yaa (wpAny_notOrdered_dict c.typeIs ?_);show wpAny _ _ (pure (s.heap.objs.size,[Value.ref l])) _ _ _;refine yaf ?_;show wpAny _ _ (Builtin.Dict.updateFrom "dict.__init__" s.heap.objs.size (.ref l) [] .none) _ _ _;unfold Builtin.Dict.updateFrom;refine yaa (ycm (T:="list") ⟨_,g,rfl⟩ ?_);rw[if_pos (by decide)];refine yaa (znG g (by simp[hh]) fun a q k₁=>?_);refine yaa (ycY ?_);have p:a.IsList l items:=⟨_,k₁ _ _ g,rfl,_,rfl⟩;refine yaa (ycZ p ?_);have n:l<s.heap.objs.size:=yao U
 have d:s.heap.objs.size<a.objs.size:=by
  obtain⟨o,_,_,k,_⟩:=c;exact yao (k₁ _ _ k)
 have x:A.in1.in1.handled=none:=by simp[hh]
 have m:l≠a.objs.size:=yav (Nat.lt_trans n d);have C:∀b o,s.heap.get? b=some o->∀o',(a.push o').get? b=some o:=fun b o e o'=>yad _ (k₁ _ _ (j _ _ e))
 refine yaf ⟨ydg F.zaE _,?_⟩;refine ST.zoi ((Walks.list x _ l m items).toS) s.heap.objs.size ?_ T ks J vf hi hk (fun i hi=>?_) hn (items.size-0) 0 _ _ (by omega) (yaR _) ⟨⟨_,yam _ rfl,rfl,rfl⟩,(p.push _)⟩ ?_ (fun i hi=>?_) ?_
 ·simp only[yau,yaD,ya8,ycR,not_or];exact⟨yav d,ya6 n⟩
 ·obtain⟨o,k,_⟩:=hT i hi;have:=yao k;simp only[yau,yaD,ya8,ycR,not_or];exact⟨yav this,yav (Nat.lt_trans this d)⟩
 ·exact(c.at fun o e=>yad _ (k₁ _ _ e))
 ·obtain⟨o,k,r⟩:=hT i hi;exact⟨o,C _ _ k _,r⟩
 ·intro s' hm B;obtain⟨h',g',d',t,u⟩:=s';have I:g'=s.gens:=hm.gens;have L:d'=s.drawn:=hm.drawn;have H:u=s.os:=hm.os;subst I;subst L;subst H;refine⟨rfl,h h' t B fun b o e=>?_⟩;have z:b≠s.heap.objs.size:=yav (yao e);have y:b≠a.objs.size:=yav (Nat.lt_trans (yao e) d);exact hm.heap b o (by simp only[yau,yaD,ya8,ycR,not_or];exact⟨z,y⟩) (C _ _ e _)
end
end PySem
namespace L2
open PySem PySem.Spec PySem.W PyProof.Rows
noncomputable def leS(a b:Str):Prop:=a.cps.toList<=b.cps.toList
noncomputable def zts(x:Str):List Str->List Str
 |[]=>[x]|y::r=>if decide (y.cps.toList<x.cps.toList)then y::zts x r else x::y::r
noncomputable def zek:List Str->List Str
 |[]=>[]|x::r=>zts x (zek r)
theorem zf6(x:Str):∀l:List Str,(zts x l).Perm (x::l)
 |[]=>.refl _|y::r=>by
  unfold zts;split
  ·exact((zf6 x r).cons y).trans (List.Perm.swap x y r)
  ·exact .refl _
theorem zeP:∀l:List Str,(zek l).Perm l
 |[]=>.refl _|x::r=>(zf6 x (zek r)).trans ((zeP r).cons x)
def ziP(h:leS a b)(h':leS b c):leS a c:=List.le_trans h h'
theorem zkV(x:Str):∀l:List Str,l.Pairwise leS->(zts x l).Pairwise leS
 |[],_=>ycU _ _|y::r,h=>by
  have h1:=yck.mp h;unfold zts;split
  ·rename_i b;have b:=yag b;refine yck.mpr ⟨fun z a=>?_,zkV x r h1.2⟩
   rcases yau.mp ((zf6 x r).mem_iff.mp a)with rfl|a
   ·exact List.le_of_lt b
   ·exact h1.1 z a
  ·rename_i b;have b:¬ y.cps.toList<x.cps.toList:=fun z=>b (yaz z)
   have c:leS x y:=List.not_lt.mp b;refine yck.mpr ⟨fun z a=>?_,h⟩
   rcases yau.mp a with rfl|a
   ·exact c
   ·exact ziP c (h1.1 z a)
theorem zie:∀l:List Str,(zek l).Pairwise leS
 |[]=>.nil|x::r=>zkV x _ (zie r)
theorem ziw:∀(p:Str) (l:List Str),risingS p l=true->(p::l).Pairwise leS
 |p,[],_=>ycU _ _|p,x::r,h=>by
  have h':(!ltCps x.cps.toList p.cps.toList&&risingS x r)=true:=h;rw[yab,yaJ]at h';have c:=ziw x r h'.2
  have a:leS p x:=by
   have e:=h'.1;rw[ltCps_eq]at e;exact List.not_lt.mp (of_decide_eq_false e)
  refine yck.mpr ⟨fun z b=>?_,c⟩
  rcases yau.mp b with rfl|b
  ·exact a
  ·exact ziP a ((yck.mp c).1 z b)
theorem zmu:∀(l:List Str),sortedS l=true->l.Pairwise leS
 |[],_=>.nil|x::r,h=>ziw x r h
def zoS{a b:Str}(h:a.cps.toList=b.cps.toList):a=b:=by
 cases a;cases b;simp only at h;congr 1;exact ydd.mp h
def zlj(p:a.Perm b)(h:sortedS a=true):a=zek b:=
 List.Perm.eq_of_pairwise (le:=leS) (fun x y _ _ h1 h2=>zoS (List.le_antisymm h1 h2)) (zmu a h) (zie b) (p.trans (zeP b).symm)
section
variable{X:Cx}{pins:Z3}{σ:St}{H:Hp}{s:Shared}{a:Addr}{kvs:List (Key×V)}{A:Around}{E:Z5}{ks:List Str}
theorem zfa:∀{vs:List Value}{ss:List Str},StrsAre vs ss->Vals (ss.map V.str) vs
 |_,_,.nil=>.nil|_,_,.cons x t h=>.cons ⟨t,rfl⟩ (zfa h)
theorem zfb:∀{ks:List Str}{vs:List Value} (h:vs.length=ks.length),(∀(i:Nat) (v:Value) (k:Str),vs[i]?=some v->ks[i]?=some k->∃t,v=Value.str k t)->StrsAre vs ks
 |[],[],_,_=>.nil|k::ks,v::vs,h,hv=>by
  obtain⟨t,rfl⟩:=hv 0 v k rfl rfl;exact .cons k t (zfb (by simpa using h) fun i v k h1 h2=>hv (i+1) v k (by simpa using h1) (by simpa using h2))
theorem znB:∀{kvs:List (Key×V)}{vs:List (Key×Value)},KV kvs vs->kvs.map (·.1)=vs.map (·.1)
 |_,_,.nil=>rfl|_,_,.cons h t=>by rw[yaw,yaw,h.1,znB t]
def zpQ(h:(zaz P w).is (Sum.inr k) v=true):∃t,v=Value.str k t:=by
 have h':Value.isStrOf k v=true:=h
 cases v<;>first|(cases h';done)|skip
 rename_i x t
 have e:x=k:=by simpa[Value.isStrOf]using h'
 exact⟨t,by rw[e]⟩
theorem zqb(hh:A.handled=none)(I:Inv X pins σ H s)(e:Rd H a (.dK kvs))(hk:kvs.map (·.1)=ks.map Sum.inr)(J:ks.length<64)
  (h:∀p s',H p=none->Inv X pins σ (upd H p (.lst ((zek ks).map V.str))) s'->Q (.ref p) s'):wpAny (model X.prog X.w) A (call (.builtin "sorted") [.ref a]) Q E s:=by
 obtain⟨z,hd,vs,rel,dd⟩:=zgh I.hok e;obtain⟨ep,K⟩:=dd.dictAt
 have hlen:vs.length=ks.length:=by
  rw[<-rel.length];have:=congrArg List.length hk;simpa using this
 have f:vs.map (·.1)=ks.map Sum.inr:=by
  rw[<-hk];exact(znB rel).symm
 refine ycv kind_sorted plain_sorted entry_sorted (args_sorted1 _) ?_;unfold Builtin.«sorted»;refine yaa (m:=checkCount "sorted" 1 1 _) (yaf ?_);refine yaa (kdu_collect (A:=A.in1) (kdl_dict (prog:=X.prog) hd) hh K (by rw[hlen,ybH];omega) fun h' tk acc kp c=>?_)
 have n:acc.toList.length=ks.length:=by rw[yaH,c.1,hlen]
 have q:StrsAre acc.toList ks:=zfb n fun i v k h1 h2=>by
  obtain⟨k',x,F,e2⟩:=c.2 i v (by rw[<-ybl];exact h1);have u:=congrArg (fun l=>l[i]?) f;simp only[yax,F,h2,Option.map_some]at u;cases u;exact zpQ e2
 refine yaa (ydh ?_ (by rw[n,ybH];omega));have d:(h'.push (seqObj "list" acc.toList.toArray 0)).get? h'.objs.size=some (seqObj "list" acc.toList.toArray 0):=yam _ rfl;refine yaa (yaZ (yaL slot_list_sort ⟨_,d,rfl⟩ entry_list_sort (list_sort_treeK strKind_oneLt (s:={s with heap:=h'.push (seqObj "list" acc.toList.toArray 0),toks:=tk}) d q.keysOf (fun t r zcY e=>keyKind_strs (by rw[<-e];exact q)) (by rw[n];exact J) fun g C hs=>⟨_,rfl,?_⟩) (args_list_sort _)));refine yaf ⟨_,rfl,?_⟩;obtain⟨B,N,M,L⟩:=sorted_out_str q C hs;obtain⟨G,he⟩:=sortedHeap_at (out:=(arrOf g).map (·.2)) d;have y:=I.kept kp (t':=tk);have D:=zlj M L;refine h h'.objs.size _ (y.hok.fresh (yaj _)) (y.laid (t':=tk) (o:=.lst ((zek ks).map V.str)) (fun b o hb=>?_) (yaj _) (show zba X.prog X.w _ _ _ (.lst _)from⟨?_,((arrOf g).map (·.2)).toList,G,?_,?_⟩))
 ·have j:b<h'.objs.size:=yao hb;rw[sortedHeap_old (yav j) (by rw[size_push'];exact ybe j)];exact yad _ hb
 ·rw[yae,(zeP ks).length_eq,ybH];omega
 ·rw[<-D];exact zfa N
 ·rw[Array.toArray_toList];exact he
end
open PySem PySem.Spec PyProof.Rows
section
variable{X:Cx}
def zgy(J:X.calm=true):zdl X (.builtin "sorted") (fun xs H Q=>∃(a:Addr) (kvs:List (Key×V)) (ks:List Str),xs=[.ref a]/\Rd H a (.dK kvs)/\kvs.map (·.1)=ks.map Sum.inr/\ks.length<64/\∀p,H p=none->Q (.ref p) (upd H p (.lst ((zek ks).map V.str)))):=by
 intro pins s σ H xs us Q I r h;obtain⟨a,kvs,ks,rfl,e,hk,b,q⟩:=h;obtain⟨u,rfl,c⟩:=zeN r;cases c;exact zqb (I.ok.hd J) I e hk b fun p s' d f=>⟨.ref p,_,f,rfl,q p d⟩
end
end L2
namespace S2
open PySem PySem.Spec PyProof.Rows L2
section
variable{X:Cx}{cl:Cf}
theorem zfG:∀{l:List Str},Shds cl w (l.map V.str) (l.map D.str)
 |[]=>.nil|i::l=>.cons (.str i) (zfG (l:=l))
end
end S2
namespace L2
open PySem PySem.Spec PyProof.Rows
def zkk(J:X.A.units+1<cLine):zAm X (fun o i v H Q=>∃a H',o=.ref a/\zre H a i v H'/\Q H'):=by
 intro pins s σ H o i v ov j f Q I c d b h;obtain⟨a,H',rfl,g,q⟩:=h;cases c;exact zi3 J I g d b fun s' e=>⟨H',e,q⟩
end L2
namespace S2
open PySem PySem.Spec PyProof.Rows L2
noncomputable def zp6:Fe:=fun _ S=>.ok (.dic []) S
def zif(i:Nat)(ρ:Env):Option (List (D×D)):=match ρ[i]? with|some (some (true,.dic ds))=>if zaB ds&&zax ds.length then some ds else none|_=>none
def zgs(i:Nat)(fk fe:Fe):Fs:=fun ρ S=>match zif i ρ with
 |some ds=>(match fe ρ S with
  |.ok d S1=>(match fk ρ S1 with
   |.ok k S2=>(match k with
    |.str x=>.nx (ρ.set i (some (true,.dic (putS x d ds)))) S2|_=>.bad)
   |.exc c S2=>.ex c ρ S2|.bad=>.bad)
  |.exc c S1=>.ex c ρ S1|.bad=>.bad)
 |_=>.bad
section
variable{X:Cx}{cl:Cf}{E:St->XK}{own:Bool}{a b e:Expr}{f g fe fk:Fe}{pos pos':Pos}{i:Nat}{x:Str}{ap cp:Pos}
def zr2:PE X (.Dict [] [] pos) (tN cl E zp6):=PE.imp zkA fun σ H Q ⟨B,w,ρ,S,e,R,q⟩=>by
 subst e;intro p a;exact q p _ w R (Fut.refl _) a (.dicK .nil)
def zki(R:Rel cl B σ w ρ S)(h:zif i ρ=some ds):∃p kvs,σ[i]?=some (some (.ref p))/\w.ow p=some (.slot i)/\w.H p=some (.dK kvs)/\ShdK cl w kvs ds/\zaB ds=true/\zax ds.length=true:=by
 unfold zif at h;split at h
 ·rename_i ds' hd;split at h
  ·rename_i a;cases h;rw[yab]at a;obtain⟨v,b,p,o,rfl,h1,h2,t⟩:=R.slots i true _ hd
   cases t with
   |dicK t=>exact⟨p,_,b,h1,h2,t,a.1,a.2⟩
  ·cases h
 ·cases h
def zrz(hu:X.A.units+1<cLine)(hN:X.N[i]?=some x)(hv:Vis X.env.scope x)(hd:(x==("__debug__":Str))=false)(hcd:(x==("__classdict__":Str))=false)(hk:PE X a (tE cl E fk))(he:PE X e (tE cl E fe))(sw:swapsWithSole [.Subscript (.Name x pos') a p3] e pos.line X.env=pure false)(J:swappedStores [.Subscript (.Name x pos') a p3] e X.env=pure none)
  (ha:∀v,assign (.Subscript (.Name x pos') a p3) X.env v=(do
   let ov ← holding [v] (eval (.Name x pos') X.env)
   let U ← holding [v,ov] (eval a X.env)
   standAt p3
   holding [v,ov,U] (setItem ov U v)
   release [v,ov,U] [])):
  PS X (.Assign [.Subscript (.Name x pos') a p3] e pos) (tS cl E own (zgs i fk fe)):=by
 refine PS.imp (zm3 he (zqM (zaQ hN hv hd hcd) hk (zkk hu) ha) sw J rfl) ?_;rintro G σ H ⟨B,w,ρ,S,rfl,R,q⟩;unfold zgs at q
 cases hs:zif i ρ with
 |none=>rw[hs]at q;exact q.elim|some ds=>
  rw[hs]at q;refine⟨B,w,ρ,S,rfl,R,?_⟩
  cases f:fe ρ S with
  |bad=>rwa[f]at q|exc c S1=>rw[f]at q;exact fun w' j l=>q σ w' j l|ok d S1=>
   rw[f]at q;intro v s n r z;obtain⟨p,kvs,h,_,_,_,_,_⟩:=zki n hs;refine⟨_,h,B,s,ρ,S1,rfl,n,?_⟩;dsimp only at q
   cases b:fk ρ S1 with
   |bad=>rwa[b]at q|exc c S2=>rw[b]at q;exact fun w' j l=>q σ w' j (r.trans l)|ok k S2=>
    rw[b]at q;intro y D R2 o u;dsimp only at q
    cases k with
    |str k=>
     cases u;obtain⟨F,m,g,h1,h2,t,C,hm⟩:=zki R2 hs;rw[h]at g;cases g;refine⟨p,_,rfl,zre.k (k:=.inr k) h2 (by rw[t.length];exact zdN hm),?_⟩;exact q σ _ (R2.mut (d0:=.non) h h1 (.dicK (t.putS C (z.up o)))) ((r.trans o).trans (zeZ (by rw[h1];exact yaI _)))
    |_=>exact q.elim
end
noncomputable def zyA(nm:List (Str×NameKind))(ts:List Expr):Bool:=ts.any fun|.Name x _=>!decide (nm.lookup x=some .local)|_=>false
theorem zvR{α β:Type}(f:α->Option β):∀(l:List α),(∃a∈l,f a=none)->(l.filterMap f).length<l.length
 |[],h=>by obtain⟨_,h,_⟩:=h;cases h
 |a::l,h=>by
  rw[yap,yca];have hle:=List.length_filterMap_le f l
  cases g:f a with
  |none=>exact Nat.lt_succ_of_le hle|some b=>
   show(l.filterMap f).length+1<_;obtain⟨c,d,e⟩:=h
   rcases yau.mp d with rfl|d
   ·rw[g]at e;cases e
   ·have:=zvR f l ⟨c,d,e⟩;omega
section
variable{X:Cx}{cl:Cf}{E:St->XK}{own:Bool}{nm:List (Str×NameKind)}
def zte(hs:X.env.scope.names=nm)(h:zyA nm ts=true):swappedStores [.Tuple ts k p] (.Tuple vs k2 p2) X.env=pure none:=by
 unfold swappedStores;dsimp only;split
 ·rfl
 ·split
  ·rfl
  ·split
   ·rfl
   ·rename_i c;exfalso;apply c;rw[ycS];left;rw[bne_iff_ne];apply yav;apply zvR;unfold zyA at h;rw[List.any_eq_true]at h;obtain⟨x,b,hb⟩:=h;refine⟨x,b,?_⟩
    cases x with
    |Name y q=>
     have a:¬ nm.lookup y=some .local:=by simpa using hb
     have:¬ X.env.kindOf y=some .local:=by unfold Env.kindOf;rw[hs];exact a
     simp[this]
    |_=>cases hb
variable{i j h:Nat}{x y z:Str}{a e:Expr}{f f1:Fe}{px py pz pt pt2 p2 pos:Pos}{kt k2:Nat}
end
noncomputable def Base.hold(B:Base)(p:Addr)(o:HO):Base:=⟨fun a=>if a=p then some o else B.Fr a,fun a=>if a=p then some .far else B.fw a⟩
section
variable{cl:Cf}{B:Base}{σ:St}{w:Wd}{ρ:Env}{S:Sto}
theorem Rel.hold(R:Rel cl B σ w ρ S)(J:w.H p=none):Rel cl (B.hold p o) σ (w.addAs p o .far) ρ S:=by
 have d:=zbR (w:=w) (p:=p) (o:=o) (r:=.far) J
 have kp:∀a u,w.H a=some u->(w.addAs p o .far).H a=some u/\(w.addAs p o .far).ow a=w.ow a:=fun a u c=>by
  have n:a≠p:=zam c J;refine⟨?_,?_⟩
  ·show upd w.H p o a=_;rw[zai n];exact c
  ·show(if a=p then _ else if w.ow a=some Root.far then some Root.far else w.ow a)=_;rw[if_neg n];split
   ·rename_i e;exact e.symm
   ·rfl
 refine⟨⟨fun a u h=>?_,fun a r h=>?_,R.wd.len,fun n ob h=>?_,R.wd.tab.keep d fun P ps h1 h2=>⟨(kp P _ h1).1,(kp P _ h1).2.trans h2⟩⟩,R.len,fun j b e g=>?_⟩
 ·by_cases c:a=p
  ·subst c;have h':(if a=a then some o else B.Fr a)=some u:=h;rw[if_pos rfl]at h';cases h';exact⟨zat,by show(if a=a then some Root.far else _)=(if a=a then some Root.far else _);rw[if_pos rfl,if_pos rfl]⟩
  ·have h':(if a=p then some o else B.Fr a)=some u:=h;rw[if_neg c]at h';have:=kp a u (R.wd.fr a u h').1;refine⟨this.1,this.2.trans ?_⟩;show _=(if a=p then some Root.far else B.fw a);rw[if_neg c];exact(R.wd.fr a u h').2
 ·by_cases c:a=p
  ·have h':(if a=p then some Root.far else if w.ow a=some Root.far then some Root.far else w.ow a)=some r:=h;rw[if_pos c]at h';cases h';exact .inl rfl
  ·have h':(if a=p then some Root.far else if w.ow a=some Root.far then some Root.far else w.ow a)=some r:=h;rw[if_neg c]at h';split at h'
   ·cases h';exact .inl rfl
   ·rcases R.wd.own a r h' with z|z
    ·exact .inl z
    ·refine .inr ?_;show(if a=p then some o else B.Fr a)=none;rw[if_neg c];exact z
 ·obtain⟨a,e,x⟩:=R.wd.obj n ob h;exact⟨a,e,x.keep d fun b u hb _=>kp b u hb⟩
 ·obtain⟨v,i,x⟩:=R.slots j b e g;exact⟨v,i,x.keep d fun a u c f=>⟨(kp a u c).1,(kp a u c).2.trans f⟩⟩
def Rel.unhold(R:Rel cl (B.hold p o) σ w ρ S)(J:B.Fr p=none):Rel cl B σ w ρ S:=by
 refine⟨⟨fun a u h=>?_,fun a r h=>?_,R.wd.len,R.wd.obj,R.wd.tab⟩,R.len,R.slots⟩
 ·have c:a≠p:=fun z=>by rw[z,J]at h;cases h
  have h2:=R.wd.fr a u (show(if a=p then some o else B.Fr a)=some u by rw[if_neg c];exact h);exact⟨h2.1,h2.2.trans (show(if a=p then some Root.far else B.fw a)=_ from if_neg c)⟩
 ·rcases R.wd.own a r h with z|z
  ·exact .inl z
  ·have b:(if a=p then some o else B.Fr a)=none:=z;split at b
   ·cases b
   ·exact .inr b
end
section
variable{cl:Cf}{w:Wd}{n:Nat}{B:Base}{σ:St}{ρ:Env}{S:Sto}
def Rel.newo(R:Rel cl B σ w ρ S)(hn:S[n]?=some ob)(U:w.mu[n]?=some a)(how:w.ow a=some (.obj n))(hH:w.H a=some (.ins (cl ob.cls) dx fs))(hF:zdr cl w n fs ob.fs)(J:w.H p=none)(ht:Top cl w o0 d0):
  Rel cl B σ ((w.addF p o0 n f).mut a (.ins (cl ob.cls) dx (zdR f (.ref p) fs))) ρ (S.set n (ob.put f true (.tup [d0])))/\Fut w ((w.addF p o0 n f).mut a (.ins (cl ob.cls) dx (zdR f (.ref p) fs))):=by
 have k:a≠p:=zam hH J
 have kp:∀b u,w.H b=some u->w.ow b≠some (.obj n)->((w.addF p o0 n f).mut a (.ins (cl ob.cls) dx (zdR f (.ref p) fs))).H b=some u/\((w.addF p o0 n f).mut a (.ins (cl ob.cls) dx (zdR f (.ref p) fs))).ow b=w.ow b:=fun b u hb c=>by
  have j:b≠p:=zam hb J;refine⟨?_,?_⟩
  ·show upd (upd w.H p _) a _ b=_;rw[zai (fun z=>c (by rw[z];exact how)),zai j];exact hb
  ·show(if b=p then _ else w.ow b)=_;rw[if_neg j]
 have d:Fut w ((w.addF p o0 n f).mut a (.ins (cl ob.cls) dx (zdR f (.ref p) fs))):=⟨fun b u hb hk=>by
  have:=kp b u hb (by rw[hk];exact fun z=>by cases z)
  exact⟨this.1,this.2.trans hk⟩,fun _ _ h=>h⟩
 have D:B.Fr a=none:=(R.wd.own a _ how).elim (fun z=>by cases z) fun z=>z
 have t:B.Fr p=none:=by
  cases z:B.Fr p with
  |none=>rfl|some u=>have:=(R.wd.fr p u z).1;rw[J]at this;cases this
 have Hp:((w.addF p o0 n f).mut a (.ins (cl ob.cls) dx (zdR f (.ref p) fs))).H p=some o0:=by
  show upd (upd w.H p _) a _ p=_;rw[zai k.symm,zat]
 have l:((w.addF p o0 n f).mut a (.ins (cl ob.cls) dx (zdR f (.ref p) fs))).ow p=some (.fld n f):=if_pos rfl
 have q:((w.addF p o0 n f).mut a (.ins (cl ob.cls) dx (zdR f (.ref p) fs))).ow a=some (.obj n):=by
  show(if a=p then _ else w.ow a)=_;rw[if_neg k];exact how
 refine⟨⟨⟨fun b u h=>?_,fun b r h=>?_,by rw[yaS];exact R.wd.len,fun m s h=>?_,R.wd.tab.keep d fun P ps h1 h2=>⟨(kp P _ h1 (by rw[h2];simp)).1,(kp P _ h1 (by rw[h2];simp)).2.trans h2⟩⟩,R.len,fun i o e h=>?_⟩,d⟩
 ·have:=kp b u (R.wd.fr b u h).1 fun z=>by
   rcases R.wd.own b _ z with y|y
   ·cases y
   ·rw[h]at y;cases y
  exact⟨this.1,this.2.trans (R.wd.fr b u h).2⟩
 ·have h':(if b=p then some (Root.fld n f)else w.ow b)=some r:=h;split at h'
  ·rename_i z;rw[z];exact .inr t
  ·exact R.wd.own b r h'
 ·rcases zjJ h with⟨rfl,rfl⟩|⟨c,h⟩
  ·refine⟨a,U,q,dx,_,zat,?_⟩;refine zdr.put (hF.keepF d fun b u g hb hg=>?_) (.inr ⟨rfl,d0,rfl,p,o0,rfl,l,Hp,ht.up d⟩);have:=kp b u hb (by rw[hg];exact fun z=>by cases z);exact⟨this.1,this.2.trans hg⟩
  ·obtain⟨b,e,x⟩:=R.wd.obj m s h;exact⟨b,e,x.keep d fun b u hb hm=>kp b u hb fun z=>by rw[z]at hm;exact c hm.symm⟩
 ·obtain⟨v,C,x⟩:=R.slots i o e h
  exact⟨v,C,x.keep d fun b u hb A=>by
   have:=kp b u hb (by rw[A];exact fun z=>by cases z)
   exact⟨this.1,this.2.trans A⟩⟩
def Rel.seto(R:Rel cl B σ w ρ S)(hn:S[n]?=some ob)(U:w.mu[n]?=some a)(how:w.ow a=some (.obj n))(hH:w.H a=some (.ins (cl ob.cls) dx fs))(hF:zdr cl w n fs ob.fs)
  (hl:fs.lookup f=some (.ref c)) (J:w.ow c=some (.fld n f)) (ht:Top cl w o0 d0) (nd:zff ob=true):
  Rel cl B σ (w.mut c o0) ρ (S.set n (ob.put f true (.tup [d0])))/\Fut w (w.mut c o0):=by
 have j:=zeZ (w:=w) (p:=c) (o:=o0) (by rw[J];exact yaI _)
 have kp:∀b o,w.H b=some o->w.ow b≠some (.fld n f)->(w.mut c o0).H b=some o/\(w.mut c o0).ow b=w.ow b:=fun b o hb d=>⟨by
  show upd w.H c _ b=_
  rw[zai (fun z=>d (by rw[z];exact J))];exact hb,rfl⟩
 have r:B.Fr c=none:=(R.wd.own c _ J).elim (fun z=>by cases z) fun z=>z
 refine⟨⟨⟨fun b o h=>?_,R.wd.own,by rw[yaS];exact R.wd.len,fun q l h=>?_,R.wd.tab.keep j fun P ps h1 h2=>⟨(kp P _ h1 (by rw[h2];simp)).1,(kp P _ h1 (by rw[h2];simp)).2.trans h2⟩⟩,R.len,fun i o e h=>?_⟩,j⟩
 ·refine⟨?_,(R.wd.fr b o h).2⟩;show upd w.H c _ b=_;rw[zai (fun z=>by rw[z,r]at h;cases h)];exact(R.wd.fr b o h).1
 ·rcases zjJ h with⟨rfl,rfl⟩|⟨d,h⟩
  ·refine⟨a,U,how,dx,fs,?_,?_⟩
   ·exact(kp a _ hH (by rw[how];exact fun z=>by cases z)).1
   ·refine zdr.dic (a:=c) j (fun b o g hg hb k=>?_) (.inr ⟨rfl,d0,rfl,c,o0,rfl,J,zat,ht.up j⟩) hF (yag nd) hl
    ·exact⟨(kp b o hb (by rw[k];exact fun z=>hg (by cases z;rfl))).1,k⟩
  ·obtain⟨b,e,x⟩:=R.wd.obj q l h;exact⟨b,e,x.keep j fun b o hb hm=>kp b o hb fun z=>by rw[z]at hm;exact d hm.symm⟩
 ·obtain⟨m,s,x⟩:=R.slots i o e h;exact⟨m,s,x.keep j fun b o hb k=>⟨(kp b o hb (by rw[k];exact fun z=>by cases z)).1,k⟩⟩
end
noncomputable def ztq(cn f:Str)(d:D)(S:Sto):Option (Nat×Ob×D):=match d with
 |.ref n=>(match S[n]? with
  |some ob=>if ob.cls=cn then(match ob.fs.lookup f with|some (true,.tup [d])=>some (n,ob,d)|_=>none)else none
  |none=>none)
 |_=>none
section
variable{cl:Cf}{cn:Str}{X:Cx}{E:St->XK}{e:Expr}{fe:Fe}{f:Str}{pos:Pos}{B:Base}{σ:St}{w:Wd}{ρ:Env}{S:Sto}
def zwl(hk:zg3 cl cn f)(R:Rel cl B σ w ρ S)(hv:Shd cl w v d)(hd:ztq cn f d S=some (n,ob,d0)):
  ∃a dx fs c o,v=.ref a/\S[n]?=some ob/\w.mu[n]?=some a/\w.ow a=some (.obj n)/\w.H a=some (.ins (cl ob.cls) dx fs)/\zdr cl w n fs ob.fs/\Cls cl.K (cl ob.cls)/\zcE cl.K (cl ob.cls) f/\fs.lookup f=some (.ref c)/\w.ow c=some (.fld n f)/\w.H c=some o/\Top cl w o d0:=by
 unfold ztq at hd
 cases d with
 |ref j=>
  dsimp only at hd
  cases e:S[j]? with
  |none=>rw[e]at hd;cases hd|some i=>
   rw[e]at hd;dsimp only at hd;split at hd
   ·rename_i b;split at hd
    ·rename_i ds' k;cases hd;obtain⟨a,dx,fs,rfl,g,how,l,h⟩:=zgn R hv e;obtain⟨v,lv,fr⟩:=h.look k
     rcases fr with⟨z,_⟩|⟨_,d1,z,c,o,rfl,c1,c2,m⟩
     ·cases z
     ·cases z;exact⟨a,dx,fs,c,o,rfl,e,g,how,l,h,b ▸ hk.1,b ▸ hk.2,lv,c1,c2,m⟩
    ·cases hd
   ·cases hd
 |_=>cases hd
end
noncomputable abbrev Fq:=Env->Sto->Option D
noncomputable def tQ(cl:Cf)(g:Fq):TE:=fun σ H Q=>∃B w ρ S d,w.H=H/\Rel cl B σ w ρ S/\g ρ S=some d/\∀v,Shd cl w v d->Q v H
def zjO:List Fq->Env->Sto->Option (List D)
 |[],_,_=>some []|g::gs,ρ,S=>(g ρ S).bind fun d=>(zjO gs ρ S).map (d::·)
noncomputable def zbF(i:Nat):Fq:=fun ρ _=>match ρ[i]? with|some (some (false,d))=>some d|_=>none
section
variable{X:Cx}{cl:Cf}{e o:Expr}{es:List Expr}{g:Fq}{gs:List Fq}{pos:Pos}{f cn:Str}
def zuB(hN:X.N[i]?=some x)(hv:Vis X.env.scope x)(hd:(x==("__debug__":Str))=false)(hcd:(x==("__classdict__":Str))=false):PE X (.Name x pos) (tQ cl (zbF i)):=by
 refine PE.imp (zaQ hN hv hd hcd) ?_;rintro σ H Q ⟨B,w,ρ,S,d,rfl,R,hg,q⟩;unfold zbF at hg;split at hg
 ·rename_i d' hi;cases hg;obtain⟨v,ev,a⟩:=R.slots i false _ hi;exact⟨v,ev,q v a⟩
 ·cases hg
noncomputable def tQs(cl:Cf)(gs:List Fq):TA:=fun σ H Q=>∃B w ρ S ds,w.H=H/\Rel cl B σ w ρ S/\zjO gs ρ S=some ds/\∀vs,Shds cl w vs ds->Q vs H
def zuA:PA X [] (tQs cl []):=PA.imp zcx fun σ H Q ⟨B,w,ρ,S,ds,e,R,h,q⟩=>by cases h;exact q [] .nil
def zr7(he:PE X e (tQ cl g))(ht:PA X es (tQs cl gs))(hs:starEach (e::es) X.env=(false,eval e X.env)::starEach es X.env):PA X (e::es) (tQs cl (g::gs)):=by
 refine PA.imp (zbg he ht hs) ?_;rintro σ H Q ⟨B,w,ρ,S,ds,rfl,R,hg,q⟩;unfold zjO at hg
 cases h1:g ρ S with
 |none=>rw[h1]at hg;cases hg|some d1=>
  rw[h1]at hg
  cases h2:zjO gs ρ S with
  |none=>rw[h2]at hg;cases hg|some b=>
   rw[h2]at hg;cases hg;exact⟨B,w,ρ,S,d1,rfl,R,h1,fun v hv=>⟨B,w,ρ,S,b,rfl,R,h2,fun vs a=>q _ (.cons hv a)⟩⟩
end
noncomputable def zkD(cn f:Str)(ρ:Env)(S:Sto)(i:Nat):Option (Nat×Ob×D):=match ρ[i]? with|some (some (false,d))=>ztq cn f d S|_=>none
def zgt(cn f:Str)(i:Nat):Fs:=fun ρ S=>match ρ[i]? with
 |some (some (false,.ref n))=>(match S[n]? with
   |some ob=>if decide (ob.cls=cn)&&decide (ob.fs.length<1000)then .nx ρ (S.set n (ob.put f true (.tup [.lst []])))else .bad
   |none=>.bad)
 |_=>.bad
def zlr(cn f:Str)(i:Nat)(g:Fq):Fs:=fun ρ S=>match zkD cn f ρ S i,g ρ S with
 |some (n,ob,.lst l),some d=>if zax l.length&&zff ob then .nx ρ (S.set n (ob.put f true (.tup [.lst (l++[d])])))else .bad
 |_,_=>.bad
def zlP(cn f:Str)(i:Nat):Fe:=fun ρ S=>match zkD cn f ρ S i with
 |some (n,ob,.lst l)=>(match l[l.length-1]? with|some d=>if zff ob then .ok d (S.set n (ob.put f true (.tup [.lst l.dropLast])))else .bad|none=>.bad)
 |_=>.bad
def zlQ(cn f:Str)(i:Nat):Fe:=fun ρ S=>match zkD cn f ρ S i with
 |some (_,_,.lst l)=>.ok (.int l.length) S|_=>.bad
section
variable{X:Cx}{cl:Cf}{E:St->XK}{own:Bool}{e:Expr}{es:List Expr}{g:Fq}{gs:List Fq}{pos pos' apos ap cp p p2:Pos}{f cn:Str}{i:Nat}{x:Str}
def zeW(hk:zg3 cl cn f)(R:Rel cl B σ w ρ S)(h:zkD cn f ρ S i=some (n,ob,d0)):
  ∃a dx fs c o,σ[i]?=some (some (.ref a))/\S[n]?=some ob/\w.mu[n]?=some a/\w.ow a=some (.obj n)/\w.H a=some (.ins (cl ob.cls) dx fs)/\zdr cl w n fs ob.fs/\Cls cl.K (cl ob.cls)/\zcE cl.K (cl ob.cls) f/\fs.lookup f=some (.ref c)/\w.ow c=some (.fld n f)/\w.H c=some o/\Top cl w o d0:=by
 unfold zkD at h;split at h
 ·rename_i d hi;obtain⟨v,ev,b⟩:=R.slots i false _ hi;obtain⟨a,dx,fs,c,o,rfl,h1⟩:=zwl hk R b h;exact⟨a,dx,fs,c,o,ev,h1⟩
 ·cases h
def zrF(hN:X.N[i]?=some x)(hv:Vis X.env.scope x)(hd:(x==("__debug__":Str))=false)(hcd:(x==("__classdict__":Str))=false)(sm:Same' cl X)(hk:zg3 cl cn f)(hs:swapsWith (.List [] p) (some (.Attribute (.Name x p2) f apos)) pos.line X.env=pure false):PS X (.Assign [.Attribute (.Name x p2) f apos] (.List [] p) pos) (tS cl E own (zgt cn f i)):=by
 refine PS.imp (zky (zaQ hN hv hd hcd) (zqP zcx) hs) ?_;rintro m σ H ⟨B,w,ρ,S,rfl,R,q⟩;refine⟨by decide,fun l c=>?_⟩;unfold zgt at q;split at q
 ·rename_i n hi;obtain⟨v,ev,j⟩:=R.slots i false _ hi
  cases d:S[n]? with
  |none=>rw[d]at q;exact q.elim|some ob=>
   rw[d]at q;dsimp only at q;split at q
   ·rename_i b;rw[yab]at b;obtain⟨a,dx,fs,rfl,e,how,g,h⟩:=zgn R j d;rw[sm.kk];refine⟨_,ev,a,_,dx,fs,rfl,?_,yag b.1 ▸ hk.1,yag b.1 ▸ hk.2,by rw[h.len];exact yag b.2,?_⟩
    ·rw[zai (zam g c)];exact g
    ·obtain⟨k,F3⟩:=R.newo (f:=f) d e how g h c (.lst .nil);exact q σ _ k F3
   ·exact q.elim
 ·exact q.elim
def zrJ(hN:X.N[i]?=some x)(hv:Vis X.env.scope x)(hd:(x==("__debug__":Str))=false)(hcd:(x==("__classdict__":Str))=false)(sm:Same' cl X)(hk:zg3 cl cn f)(hb:attributeBase (.Name x p) f X.env (eval (.Name x p) X.env)=eval (.Name x p) X.env)(he:PE X e (tQ cl g))(ae:attributeBase (.Attribute (.Name x p) f apos) "append" X.env (eval (.Attribute (.Name x p) f apos) X.env)=eval (.Attribute (.Name x p) f apos) X.env)
  (af:zbb e=true) (J:(ap.endLine==cp.line)=true):PS X (.Expr (.Call (.Attribute (.Attribute (.Name x p) f apos) "append" ap) [e] [] cp) pos) (tS cl E own (zlr cn f i g)):=by
 refine PS.imp (zfO (znh (es:=[]) ybM ycG ycH zfQ (zcv (zaQ hN hv hd hcd) hb) (zbg he zcx (zaG af)) (ae:=ae) (hfew:=zga (by simp[af]) (by simp)) (ai:=J) (hs:=zaG af) (ao:=rfl))) ?_;rintro y σ H ⟨B,w,ρ,S,rfl,R,q⟩;unfold zlr at q;split at q
 ·rename_i n ob l d m hg;obtain⟨a,dx,fs,c,o,ev,r,h,how,k,s,c1,c2,lv,oc,j,t⟩:=zeW hk R m;split at q
  ·rename_i b;rw[yab]at b
   cases t with
   |lst t=>
    rw[sm.kk];refine⟨_,ev,a,_,dx,fs,_,rfl,k,c1,c2,lv,.inl ⟨rfl,_,SqL.of j⟩,B,w,ρ,S,d,rfl,R,hg,fun v h'=>?_⟩;refine⟨c,_,v,rfl,rfl,j,by rw[t.length];exact zdN b.1,?_⟩;obtain⟨u,F3⟩:=R.seto r h how k s lv oc (.lst (t.append (.cons h' .nil))) b.2;exact q σ _ u F3
  ·exact q.elim
 ·exact q.elim
def zrW(hN:X.N[i]?=some x)(hv:Vis X.env.scope x)(hd:(x==("__debug__":Str))=false)(hcd:(x==("__classdict__":Str))=false)(sm:Same' cl X)(hk:zg3 cl cn f)(hb:attributeBase (.Name x p) f X.env (eval (.Name x p) X.env)=eval (.Name x p) X.env)(ae:attributeBase (.Attribute (.Name x p) f apos) "pop" X.env (eval (.Attribute (.Name x p) f apos) X.env)=eval (.Attribute (.Name x p) f apos) X.env)
  (J:(ap.endLine==cp.line)=true):PE X (.Call (.Attribute (.Attribute (.Name x p) f apos) "pop" ap) [] [] cp) (tE cl E (zlP cn f i)):=by
 refine PE.imp (zuT ybM PySem.F.slot_list_pop PySem.F.type_list_pop zvi (zcv (zaQ hN hv hd hcd) hb) (ae:=ae) (ai:=J)) ?_;rintro σ H Q ⟨B,w,ρ,S,rfl,R,q⟩;unfold zlP at q
 cases h:zkD cn f ρ S i with
 |none=>rw[h]at q;exact q.elim|some u=>
  obtain⟨n,ob,d0⟩:=u;rw[h]at q
  cases d0 with
  |lst l=>
   dsimp only at q;obtain⟨a,dx,fs,c,o,ev,y,g,how,r,z,c1,c2,lv,oc,m,t⟩:=zeW hk R h
   cases e:l[l.length-1]? with
   |none=>rw[e]at q;exact q.elim|some d=>
    rw[e]at q;dsimp only at q
    cases b:zff ob with
    |false=>rw[b,if_neg (by decide)]at q;exact q.elim
    |true=>
     rw[b,if_pos rfl]at q
     cases t with
     | @lst xs _ t=>
      obtain⟨v,k,s⟩:=t.at e;rw[sm.kk]
      have j:Shds cl w xs.dropLast l.dropLast:=by
       rw[List.dropLast_eq_take,List.dropLast_eq_take,t.length];exact t.take _
      refine⟨_,ev,a,_,dx,fs,_,rfl,r,c1,c2,lv,.inl ⟨rfl,_,SqL.of m⟩,c,xs,v,rfl,rfl,m,by rw[t.length];exact k,?_⟩;obtain⟨A,F3⟩:=R.seto y g how r z lv oc (.lst j) b;exact q v _ A F3 (s.up F3)
  |_=>exact q.elim
def zrX{J:Pos}{y:Str}(hN:X.N[i]?=some x)(hv:Vis X.env.scope x)(hd:(x==("__debug__":Str))=false)(hcd:(x==("__classdict__":Str))=false)(sm:Same' cl X)(hk:zg3 cl cn f)(hb:attributeBase (.Name x p) f X.env (eval (.Name x p) X.env)=eval (.Name x p) X.env)(hg:Gl X "len")(hm:X.mg "len"=none):
  PE X (.Call (.Name "len" J) [.Attribute (.Name x p) f apos] [] cp) (tE cl E (zlQ cn f i)):=by
 refine PE.imp (zcw zcD hg hm PySem.boot_len (zbg (zcv (zaQ hN hv hd hcd) hb) zcx)) ?_;rintro σ H Q ⟨B,w,ρ,S,rfl,R,q⟩;unfold zlQ at q
 cases b:zkD cn f ρ S i with
 |none=>rw[b]at q;exact q.elim|some u=>
  obtain⟨n,ob,d0⟩:=u;rw[b]at q
  cases d0 with
  |lst l=>
   dsimp only at q;obtain⟨a,dx,fs,c,o,ev,h,d,how,g,j,c1,c2,lv,oc,e,t⟩:=zeW hk R b
   cases t with
   |lst t=>
    rw[sm.kk];refine⟨_,ev,a,_,dx,fs,_,rfl,g,c1,c2,lv,c,_,rfl,.inl (SqL.of e),?_⟩;rw[t.length];exact q _ w R (Fut.refl _) (.int _)
  |_=>exact q.elim
end
noncomputable def eQ(g:Fq):Fe:=fun ρ S=>match g ρ S with|some d=>.ok d S|none=>.bad
def zlS(cn f:Str)(ρ:Env)(S:Sto)(i:Nat):Option (Nat×Ob×List (D×D)):=match zkD cn f ρ S i with
 |some (n,ob,.dic ds)=>if zaB ds then some (n,ob,ds)else none
 |_=>none
def zpa(cn f:Str)(i:Nat)(g:Fq):Fq:=fun ρ S=>match g ρ S,zlS cn f ρ S i with|some (.str k),some (_,_,ds)=>some (.bl (zav k ds).isSome)|_,_=>none
def zhp(cn f:Str)(i:Nat)(g:Fq):Fq:=fun ρ S=>match g ρ S,zlS cn f ρ S i with|some (.str k),some (_,_,ds)=>some (.bl (!(zav k ds).isSome))|_,_=>none
def zsa(cn f:Str)(i:Nat)(g:Fq):Fq:=fun ρ S=>match g ρ S,zlS cn f ρ S i with|some (.str k),some (_,_,ds)=>zav k ds|_,_=>none
def ziz(cn f:Str)(i:Nat)(g:Fq):Fq:=fun ρ S=>match g ρ S,zlS cn f ρ S i with|some (.str k),some (_,_,ds)=>some ((zav k ds).getD .non)|_,_=>none
def zmM(cn f:Str)(i:Nat):Fs:=fun ρ S=>match ρ[i]? with
 |some (some (false,.ref n))=>(match S[n]? with
   |some ob=>if decide (ob.cls=cn)&&decide (ob.fs.length<1000)then .nx ρ (S.set n (ob.put f true (.tup [.dic []])))else .bad
   |none=>.bad)
 |_=>.bad
def zlm(cn f:Str)(i:Nat)(gk ge:Fq):Fs:=fun ρ S=>match gk ρ S,ge ρ S,zlS cn f ρ S i with
 |some (.str k),some d,some (n,ob,ds)=>if zax ds.length&&zff ob then .nx ρ (S.set n (ob.put f true (.tup [.dic (putS k d ds)])))else .bad
 |_,_,_=>.bad
def zln(cn f:Str)(i:Nat)(gk:Fq):Fs:=fun ρ S=>match gk ρ S,zlS cn f ρ S i with
 |some (.str k),some (n,ob,ds)=>if zff ob then(if(zav k ds).isSome then .nx ρ (S.set n (ob.put f true (.tup [.dic (dropS k ds)])))else .nx ρ S)else .bad
 |_,_=>.bad
section
variable{X:Cx}{cl:Cf}{E:St->XK}{own:Bool}{e o:Expr}{g gk ge:Fq}{pos apos ap cp p p2 p3:Pos}{f cn:Str}{i:Nat}{x:Str}{σ:St}{H:Hp}{Q:VK}
def zru(q:tE cl E (eQ g) σ H Q):tQ cl g σ H Q:=by
 obtain⟨B,w,ρ,S,rfl,R,q⟩:=q;unfold eQ at q
 cases hg:g ρ S with
 |none=>rw[hg]at q;exact q.elim|some d=>rw[hg]at q;exact⟨B,w,ρ,S,d,rfl,R,hg,fun v hv=>q v w R (Fut.refl _) hv⟩
def zxz(h:PE X e (tQ cl g)):PE X e (tE cl E (eQ g)):=PE.imp h fun _ _ _ q=>zru q
def zhP(hk:zg3 cl cn f)(R:Rel cl B σ w ρ S)(h:zlS cn f ρ S i=some (n,ob,ds)):
  ∃a dx fs c kvs,σ[i]?=some (some (.ref a))/\S[n]?=some ob/\w.mu[n]?=some a/\w.ow a=some (.obj n)/\w.H a=some (.ins (cl ob.cls) dx fs)/\zdr cl w n fs ob.fs/\Cls cl.K (cl ob.cls)/\zcE cl.K (cl ob.cls) f/\fs.lookup f=some (.ref c)/\w.ow c=some (.fld n f)/\w.H c=some (.dK kvs)/\ShdK cl w kvs ds/\zaB ds=true:=by
 unfold zlS at h;split at h
 ·rename_i s e ds' g;split at h
  ·rename_i d;cases h;obtain⟨a,dx,fs,c,o,ev,h1,h2,r,q,p,m,l,k,j,b,t⟩:=zeW hk R g;obtain⟨kvs,rfl,t2⟩:=zrm t d;exact⟨a,dx,fs,c,kvs,ev,h1,h2,r,q,p,m,l,k,j,b,t2,d⟩
  ·cases h
 ·cases h
def zgC(h:Shd cl w v (.str k)):v=.str k:=by cases h;rfl
def zo9{B:Base}{w:Wd}{ρ:Env}{S:Sto}{k:Str}{n:Nat}{ob:Ob}{ds:List (D×D)}{P:Option V->Prop}(hk:zg3 cl cn f)(kk:X.K=cl.K)(R:Rel cl B σ w ρ S)(h:zlS cn f ρ S i=some (n,ob,ds))
  (J:∀ov:Option V,(ov=none/\zav k ds=none)\/(∃v d,ov=some v/\zav k ds=some d/\Shd cl w v d)->P ov):
  ∃v,σ[i]?=some (some v)/\∃a C dx fs c,v=.ref a/\w.H a=some (.ins C dx fs)/\Cls X.K C/\zcE X.K C f/\fs.lookup f=some (.ref c)/\IsD w.H c/\∃ov,zj2 w.H c (.str k) ov/\P ov:=by
 obtain⟨a,dx,fs,c,kvs,ev,_,_,_,m,_,l,j,g,_,b,t,e⟩:=zhP hk R h;rw[kk];exact⟨_,ev,a,_,dx,fs,c,rfl,m,l,j,g,.inl ⟨kvs,.inl b⟩,_,zj2.k (k:=.inr k) b,J _ (zdw k t e)⟩
def zAe(hk:zg3 cl cn f)(kk:X.K=cl.K)(q:tQ cl (zpa cn f i g) σ H Q):zzo (tQ cl g) (zxh X.K (zwC i) f) σ H Q:=by
 obtain⟨B,w,ρ,S,d,rfl,R,hg,q⟩:=q;unfold zpa at hg;split at hg
 ·rename_i k n ob ds h1 h2;cases hg;refine⟨B,w,ρ,S,_,rfl,R,h1,fun v hv=>?_⟩;rw[zgC hv]
  obtain⟨b,r,a,C,dx,fs,c,p,e2,o,m,l,_,ov,j,e⟩:=zo9 (P:=fun ov=>Q (.bl ov.isSome) w.H) hk kk R h2 fun ov h=>by
   rcases h with⟨rfl,h⟩|⟨_,_,rfl,h,_⟩<;>rw[h]at q<;>exact q _ (.bl _)
  exact⟨b,r,a,C,dx,fs,_,p,e2,o,m,l,c,ov,rfl,j,e⟩
 ·cases hg
def zqV(hk:zg3 cl cn f)(kk:X.K=cl.K)(q:tQ cl (zhp cn f i g) σ H Q):zmq (tQ cl g) (zxh X.K (zwC i) f) σ H Q:=by
 obtain⟨B,w,ρ,S,d,rfl,R,hg,q⟩:=q;unfold zhp at hg;split at hg
 ·rename_i k n ob ds h1 h2;cases hg;refine⟨B,w,ρ,S,_,rfl,R,h1,fun v hv=>?_⟩;rw[zgC hv]
  obtain⟨b,r,a,C,dx,fs,c,p,e2,o,m,l,_,ov,j,e⟩:=zo9 (P:=fun ov=>Q (.bl (!ov.isSome)) w.H) hk kk R h2 fun ov h=>by
   rcases h with⟨rfl,h⟩|⟨_,_,rfl,h,_⟩<;>rw[h]at q<;>exact q _ (.bl _)
  exact⟨b,r,a,C,dx,fs,_,p,e2,o,m,l,c,ov,rfl,j,e⟩
 ·cases hg
variable(hN:X.N[i]?=some x)(hv:Vis X.env.scope x)(hd:(x==("__debug__":Str))=false)(hcd:(x==("__classdict__":Str))=false)(sm:Same' cl X)(hk:zg3 cl cn f)(hb:attributeBase (.Name x p) f X.env (eval (.Name x p) X.env)=eval (.Name x p) X.env)
include hN hv hd hcd sm hk hb
def zuD(J:X.A.units+1<cLine)(he:PE X e (tQ cl g))(hm:behindInMarks .In (.Attribute (.Name x p) f apos)=false):PE X (.Compare e [.In] [.Attribute (.Name x p) f apos] pos) (tQ cl (zpa cn f i g)):=
 PE.imp (zqQ (zqR J he (zcv (zaQ hN hv hd hcd) hb)) hm) fun _ _ _ q=>zAe hk sm.kk q
def zr8(J:X.A.units+1<cLine)(he:PE X e (tQ cl g))(hm:behindInMarks .NotIn (.Attribute (.Name x p) f apos)=false):PE X (.Compare e [.NotIn] [.Attribute (.Name x p) f apos] pos) (tQ cl (zhp cn f i g)):=
 PE.imp (zqQ (ziF J he (zcv (zaQ hN hv hd hcd) hb)) hm) fun _ _ _ q=>zqV hk sm.kk q
def zuz(J:X.A.units+1<cLine)(he:PE X e (tQ cl g))(hm:behindInMarks .In (.Attribute (.Name x p) f apos)=false):PT X (.Compare e [.In] [.Attribute (.Name x p) f apos] pos) (tTr cl E (eQ (zpa cn f i g))):=
 PT.imp (zqJ (zqR J he (zcv (zaQ hN hv hd hcd) hb)) hm) fun _ _ _ q=>zAe hk sm.kk (zru (zh8 q))
def zr6(J:X.A.units+1<cLine)(he:PE X e (tQ cl g))(hm:behindInMarks .NotIn (.Attribute (.Name x p) f apos)=false):PT X (.Compare e [.NotIn] [.Attribute (.Name x p) f apos] pos) (tTr cl E (eQ (zhp cn f i g))):=
 PT.imp (zqJ (ziF J he (zcv (zaQ hN hv hd hcd) hb)) hm) fun _ _ _ q=>zqV hk sm.kk (zru (zh8 q))
def zr9(J:X.A.units+1<cLine)(he:PE X e (tQ cl g))(m:M1 X (.Attribute (.Name x p) f apos) "get" ap e cp):PE X (.Call (.Attribute (.Attribute (.Name x p) f apos) "get" ap) [e] [] cp) (tQ cl (ziz cn f i g)):=by
 refine PE.imp (zpq J (zcv (zaQ hN hv hd hcd) hb) he m) ?_;rintro σ H Q ⟨B,w,ρ,S,d,rfl,R,hg,q⟩;unfold ziz at hg;split at hg
 ·rename_i k n ob ds h1 h2;cases hg
  obtain⟨j,z,a,C,dx,fs,c,y,e2,u,t,s,b,ov,o,l⟩:=zo9 (P:=fun ov=>Q (ov.getD .non) w.H) hk sm.kk R h2 fun ov h=>by
   rcases h with⟨rfl,h⟩|⟨_,_,rfl,h,r⟩<;>rw[h]at q
   ·exact q _ .non
   ·exact q _ r
  refine⟨j,z,a,C,dx,fs,_,y,e2,u,t,s,c,rfl,b,B,w,ρ,S,_,rfl,R,h1,fun v hv=>?_⟩;rw[zgC hv];exact⟨ov,o,l⟩
 ·cases hg
def zuC(J:X.A.units+1<cLine)(he:PE X e (tQ cl g))(hs:zyH e):PE X (.Subscript (.Attribute (.Name x p) f apos) e pos) (tQ cl (zsa cn f i g)):=by
 refine PE.imp (zsp J (zcv (zaQ hN hv hd hcd) hb) he hs) ?_;rintro σ H Q ⟨B,w,ρ,S,d,rfl,R,hg,q⟩;unfold zsa at hg;split at hg
 ·rename_i k n ob ds h1 h2
  obtain⟨b,z,a,C,dx,fs,c,u,e2,t,s,o,m,ov,l,v,rfl,j⟩:=zo9 (P:=fun ov=>∃v,ov=some v/\Q v w.H) hk sm.kk R h2 fun ov h=>by
   rcases h with⟨rfl,h⟩|⟨v,_,rfl,h,r⟩<;>rw[h]at hg
   ·cases hg
   ·cases hg;exact⟨v,rfl,q _ r⟩
  refine⟨b,z,a,C,dx,fs,_,u,e2,t,s,o,B,w,ρ,S,_,rfl,R,h1,fun y hv=>?_⟩;rw[zgC hv];exact⟨c,v,rfl,l,j⟩
 ·cases hg
omit hb
def zrG(hs:swapsWith (.Dict [] [] p) (some (.Attribute (.Name x p2) f apos)) pos.line X.env=pure false):PS X (.Assign [.Attribute (.Name x p2) f apos] (.Dict [] [] p) pos) (tS cl E own (zmM cn f i)):=by
 refine PS.imp (zky (zaQ hN hv hd hcd) zkA hs) ?_;rintro m σ H ⟨B,w,ρ,S,rfl,R,q⟩;intro l c;unfold zmM at q;split at q
 ·rename_i n hi;obtain⟨v,ev,j⟩:=R.slots i false _ hi
  cases d:S[n]? with
  |none=>rw[d]at q;exact q.elim|some ob=>
   rw[d]at q;dsimp only at q;split at q
   ·rename_i b;rw[yab]at b;obtain⟨a,dx,fs,rfl,e,how,g,h⟩:=zgn R j d;rw[sm.kk];refine⟨_,ev,a,_,dx,fs,rfl,?_,yag b.1 ▸ hk.1,yag b.1 ▸ hk.2,by rw[h.len];exact yag b.2,?_⟩
    ·rw[zai (zam g c)];exact g
    ·obtain⟨k,F3⟩:=R.newo (f:=f) d e how g h c (.dicK .nil);exact q σ _ k F3
   ·exact q.elim
 ·exact q.elim
include hb
def zrB(hu:X.A.units+1<cLine)(U:PE X e (tQ cl gk))(J:PE X o (tQ cl ge))(hs:swapsWith o (some (.Subscript (.Attribute (.Name x p) f apos) e p3)) pos.line X.env=pure false):PS X (.Assign [.Subscript (.Attribute (.Name x p) f apos) e p3] o pos) (tS cl E own (zlm cn f i gk ge)):=by
 refine PS.imp (zsf hu (zcv (zaQ hN hv hd hcd) hb) U J hs) ?_;rintro C σ H ⟨B,w,ρ,S,rfl,R,q⟩;unfold zlm at q;split at q
 ·rename_i k d n ob ds h1 h2 u;split at q
  ·rename_i b;rw[yab]at b;refine⟨B,w,ρ,S,_,rfl,R,h2,fun v hv=>?_⟩;obtain⟨a,dx,fs,c,kvs,ev,r,g,how,h,s,c1,c2,lv,oc,m,t,l⟩:=zhP hk R u;rw[sm.kk];refine⟨_,ev,a,_,dx,fs,_,rfl,h,c1,c2,lv,B,w,ρ,S,_,rfl,R,h1,fun y j=>?_⟩;rw[zgC j];refine⟨c,_,rfl,zre.k (k:=.inr k) m (by rw[t.length];exact zdN b.1),?_⟩;obtain⟨z,F3⟩:=R.seto r g how h s lv oc (.dicK (t.putS l hv)) b.2;exact q σ _ z F3
  ·exact q.elim
 ·exact q.elim
def zrC{j:Nat}(J:PE X e (tQ cl gk))(m:M2 X (.Attribute (.Name x p) f apos) "pop" ap e (.Constant .none j p2) cp):PS X (.Expr (.Call (.Attribute (.Attribute (.Name x p) f apos) "pop" ap) [e,.Constant .none j p2] [] cp) pos) (tS cl E own (zln cn f i gk)):=by
 refine PS.imp (zfO (zpp (zcv (zaQ hN hv hd hcd) hb) J zqO m)) ?_;rintro D σ H ⟨B,w,ρ,S,rfl,R,q⟩;unfold zln at q;split at q
 ·rename_i k n ob ds h1 A;split at q
  ·rename_i o;obtain⟨a,dx,fs,c,kvs,ev,s,d,how,l,u,c1,c2,lv,oc,h,t,b⟩:=zhP hk R A;rw[sm.kk];refine⟨_,ev,a,_,dx,fs,_,rfl,l,c1,c2,lv,c,rfl,.inl ⟨kvs,.inl h⟩,B,w,ρ,S,_,rfl,R,h1,fun y r=>?_⟩;rw[zgC r];refine⟨kvs,.inr k,h,rfl,fun v hv=>?_,fun g=>?_⟩
   ·rcases zdw k t b with⟨z,_⟩|⟨_,_,_,z,_⟩
    ·rw[z]at hv;cases hv
    ·rw[z]at q;simp only[ydu,yb2]at q;obtain⟨C,F3⟩:=R.seto s d how l u lv oc (.dicK (t.dropS (k:=k) b)) o;exact q σ _ C F3
   ·rcases zdw k t b with⟨_,z⟩|⟨_,_,z,_⟩
    ·rw[z]at q;simp only[Option.isSome_none,yaG,ybL]at q;exact q σ w R (Fut.refl _)
    ·rw[z]at g;cases g
  ·exact q.elim
 ·exact q.elim
end
def zlq(cn f:Str)(i:Nat)(gs:List Fq):Fs:=fun ρ S=>match zkD cn f ρ S i,zjO gs ρ S with
 |some (n,ob,.lst l),some ds=>if zax l.length&&zax ds.length&&zff ob then .nx ρ (S.set n (ob.put f true (.tup [.lst (l++[.tup ds])])))else .bad
 |_,_=>.bad
section
variable{X:Cx}{cl:Cf}{E:St->XK}{own:Bool}{es:List Expr}{gs:List Fq}{pos apos ap cp p p2:Pos}{f cn:Str}{i kk:Nat}{x:Str}
def zrI(hN:X.N[i]?=some x)(hv:Vis X.env.scope x)(hd:(x==("__debug__":Str))=false)(hcd:(x==("__classdict__":Str))=false)(sm:Same' cl X)(hk:zg3 cl cn f)(hb:attributeBase (.Name x p) f X.env (eval (.Name x p) X.env)=eval (.Name x p) X.env)(he:PA X es (tQs cl gs))(ae:attributeBase (.Attribute (.Name x p) f apos) "append" X.env (eval (.Attribute (.Name x p) f apos) X.env)=eval (.Attribute (.Name x p) f apos) X.env)
  (J:(ap.endLine==cp.line)=true):PS X (.Expr (.Call (.Attribute (.Attribute (.Name x p) f apos) "append" ap) [.Tuple es kk p2] [] cp) pos) (tS cl E own (zlq cn f i gs)):=by
 refine PS.imp (zfO (znh (es:=[]) ybM ycG ycH zfQ (zcv (zaQ hN hv hd hcd) hb) (zbg (zqN he) zcx (zaG rfl)) (ae:=ae) (hfew:=zga rfl (by simp)) (ai:=J) (hs:=zaG rfl) (ao:=rfl))) ?_;rintro M σ H ⟨B,w,ρ,S,rfl,R,q⟩;unfold zlq at q;split at q
 ·rename_i n ob l ds y hg;obtain⟨a,dx,fs,c,o,ev,F,D,how,A,K,c1,c2,lv,oc,z,t⟩:=zeW hk R y;split at q
  ·rename_i r;rw[yab,yab]at r
   cases t with
   |lst t=>
    rw[sm.kk];refine⟨_,ev,a,_,dx,fs,_,rfl,A,c1,c2,lv,.inl ⟨rfl,_,SqL.of z⟩,B,w,ρ,S,ds,rfl,R,hg,fun vs d=>⟨by rw[d.length];exact zaM r.1.2,fun pn e=>?_⟩⟩;have s:=zaq e (.tup vs);have R2:Rel cl B σ (w.add pn (.tup vs)) ρ S:=R.grow s;obtain⟨L,G,fs',c',o',m,_,h,g,k,v,_,_,b,u,j,t'⟩:=zeW hk R2 y;rw[ev]at m;cases m;have C:=(s.keep a _ A).1;rw[k]at C;cases C;rw[lv]at b;cases b;have e2:=(s.keep c _ z).1;rw[j]at e2;cases e2
    cases t' with
    |lst t'=>
     refine⟨c,_,_,rfl,rfl,j,by rw[t.length];exact zdN r.1.1,?_⟩;obtain⟨I,F3⟩:=R2.seto F h g k v lv u (.lst (t'.append (.cons (Shd.newT e d) .nil))) r.2;exact q σ _ I (s.fut.trans F3)
  ·exact q.elim
 ·exact q.elim
end
def zmJ(cn f:Str)(i:Nat)(d:D):Fs:=fun ρ S=>match ρ[i]? with
 |some (some (false,.ref n))=>(match S[n]? with
   |some ob=>if decide (ob.cls=cn)&&decide (ob.fs.length<1000)then .nx ρ (S.set n (ob.put f true (.tup [d])))else .bad
   |none=>.bad)
 |_=>.bad
noncomputable def zlo(cn f:Str)(i:Nat)(g:Fe):Fs:=fun ρ S=>match g ρ S with|.ok d S1=>zmJ cn f i d ρ S1|.exc c S1=>.ex c ρ S1|.bad=>.bad
section
variable{X:Cx}{cl:Cf}{E:St->XK}{own:Bool}{pos apos apos2 cp p p2 p3:Pos}{f g cn:Str}{i j:Nat}{x y:Str}
def zsC(hk:zg3 cl cn f)(kk:X.K=cl.K)(R:Rel cl B σ w ρ S)(J:w.H U=none)(ht:Top cl w o0 d)(q:zjj cl E own B w De (zmJ cn f i d ρ S)):
  ∃v,σ[i]?=some (some v)/\∃a C dx fs,v=.ref a/\upd w.H U o0 a=some (.ins C dx fs)/\Cls X.K C/\zcE X.K C f/\fs.length<1000/\De.nx σ (upd (upd w.H U o0) a (.ins C dx (zdR f (.ref U) fs))):=by
 unfold zmJ at q;split at q
 ·rename_i n hi;obtain⟨v,ev,j⟩:=R.slots i false _ hi
  cases c:S[n]? with
  |none=>rw[c]at q;exact q.elim|some ob=>
   rw[c]at q;dsimp only at q;split at q
   ·rename_i b;rw[yab]at b;obtain⟨a,dx,fs,rfl,e,how,g,h⟩:=zgn R j c;rw[kk];refine⟨_,ev,a,_,dx,fs,rfl,?_,yag b.1 ▸ hk.1,yag b.1 ▸ hk.2,by rw[h.len];exact yag b.2,?_⟩
    ·rw[zai (zam g J)];exact g
    ·obtain⟨k,F3⟩:=R.newo (f:=f) c e how g h J ht;exact q σ _ k F3
   ·exact q.elim
 ·exact q.elim
def zrD(hN:X.N[i]?=some x)(hv:Vis X.env.scope x)(hd:(x==("__debug__":Str))=false)(hcd:(x==("__classdict__":Str))=false)(kk:X.K=cl.K)(hk:zg3 cl cn f)(he:PE X e (tN cl E h))
  (hs:swapsWith e (some (.Attribute (.Name x p) f apos)) pos.line X.env=pure false):PS X (.Assign [.Attribute (.Name x p) f apos] e pos) (tS cl E own (zlo cn f i h)):=by
 refine PS.imp (zky (zaQ hN hv hd hcd) he hs) ?_;rintro k σ H ⟨B,w,ρ,S,rfl,R,q⟩;refine⟨B,w,ρ,S,rfl,R,?_⟩;unfold zlo at q
 cases hf:h ρ S with
 |bad=>rwa[hf]at q|exc c S1=>rw[hf]at q;exact fun w' b g=>q σ w' b g|ok d S1=>
  rw[hf]at q;intro j o w' b g a ht;exact zsC hk kk b a ht (zjj.up g q)
end
end S2
namespace SI
open PySem PySem.Spec PyProof.Rows PySem.SetTable
noncomputable def sel(a b c d:Bool):List Int:=(if a then[0]else[])++((if b then[1]else[])++((if c then[2]else[])++(if d then[3]else[])))
noncomputable def ziS(ks:List Int)(k:Int):Bool:=decide (k∈ks)
def zau(ks:List Int):List Int:=sel (ziS ks 0) (ziS ks 1) (ziS ks 2) (ziS ks 3)
noncomputable def pl(l:List Int):Array Nat:=(l.map Int.toNat).toArray
def zsJ:∀a b c d:Bool,∀k:Int,k∈sel a b c d↔(k=0/\a=true)\/(k=1/\b=true)\/(k=2/\c=true)\/(k=3/\d=true):=by
 intro a b c d k
 cases a<;>cases b<;>cases c<;>cases d<;>simp[sel]
def zeu:k∈zau ks↔(0<=k/\k<4)/\k∈ks:=by
 unfold zau;rw[zsJ];unfold ziS;simp only[yaT];constructor
 ·rintro(⟨rfl,h⟩|⟨rfl,h⟩|⟨rfl,h⟩|⟨rfl,h⟩)<;>exact⟨by omega,h⟩
 ·rintro⟨h,hk⟩
  have:k=0\/k=1\/k=2\/k=3:=by omega
  rcases this with rfl|rfl|rfl|rfl
  ·exact .inl ⟨rfl,hk⟩
  ·exact .inr (.inl ⟨rfl,hk⟩)
  ·exact .inr (.inr (.inl ⟨rfl,hk⟩))
  ·exact .inr (.inr (.inr ⟨rfl,hk⟩))
def zmC:∀a b c d,(sel a b c d).Pairwise (· < ·)/\(sel a b c d).length<=4:=by decide
def zor:(zau ks).Pairwise (· < ·):=(zmC _ _ _ _).1
def zbS:(zau ks).length<=4:=(zmC _ _ _ _).2
def zkf(ks:List Int)(k j:Int):ziS (ks++[k]) j=(ziS ks j||decide (j=k)):=by
 unfold ziS
 by_cases h:j∈ks<;>by_cases e:j=k<;>simp[h,e]
def nw(l:List Int)(k:Nat):List Int:=l.take (below (pl l) k)++(k:Int)::l.drop (below (pl l) k)
def zrp:∀a b c d:Bool,∀k:Nat,k<4->(k:Int) ∉ sel a b c d->(ST.tb 7 (pl (sel a b c d))).freeSlot k=some (k,false)/\nw (sel a b c d) k=sel (a||decide ((0:Int)=k)) (b||decide ((1:Int)=k)) (c||decide ((2:Int)=k)) (d||decide ((3:Int)=k)):=by decide +kernel
def zoR:∀a b c d:Bool,∀i,i<5->i<=(sel a b c d).length->below (pl (sel a b c d)) (if i=0 then 0 else((sel a b c d).getD (i-1) 0).toNat+1)=i:=by decide +kernel
def zqg(h:k∈ks):zau (ks++[k])=zau ks:=by
 have:∀j,ziS (ks++[k]) j=ziS ks j:=fun j=>by
  rw[zkf]
  by_cases e:j=k
  ·subst e;unfold ziS;simp[h]
  ·simp[e]
 unfold zau;simp only[this]
theorem zos{ks:List Int}{k:Nat}(hk:k<4)(J:(k:Int) ∉ ks):(ST.tb 7 (pl (zau ks))).freeSlot k=some (k,false)/\zau (ks++[(k:Int)])=nw (zau ks) k:=by
 obtain⟨h1,h2⟩:=zrp (ziS ks 0) (ziS ks 1) (ziS ks 2) (ziS ks 3) k hk (fun z=>J (zeu.mp z).2);refine⟨h1,?_⟩;unfold zau;rw[h2];simp only[zkf]
theorem zqo(h:i<=(zau ks).length):below (pl (zau ks)) (if i=0 then 0 else((zau ks).getD (i-1) 0).toNat+1)=i:=zoR _ _ _ _ i (by have:=zbS (ks:=ks);omega) h
def zgO{α:Type}(xs:Array α)(p:Nat)(x:α):(insertAt xs p x).toList=xs.toList.take p++x::xs.toList.drop p:=by simp[insertAt,List.extract_eq_take_drop,yby]
noncomputable def Els(l:List Int)(es:List (Int×Value)):Prop:=∃ts:List (Int×Tok),ts.map (·.1)=l/\es=ts.map fun p=>(p.1,Value.int p.1 p.2)
section
variable{l:List Int}{es:List (Int×Value)}
def Els.len(h:Els l es):es.length=l.length:=by obtain⟨ts,rfl,rfl⟩:=h;rw[yae,yae]
def Els.mem(h:Els l es)(he:e∈es):∃k tk,k∈l/\e=(k,Value.int k tk):=by
 obtain⟨ts,rfl,rfl⟩:=h;obtain⟨p,a,rfl⟩:=yah.mp he;exact⟨_,_,List.mem_map_of_mem a,rfl⟩
def Els.has(h:Els l es)(hk:k∈l):∃tk,(k,Value.int k tk)∈es:=by
 obtain⟨ts,rfl,rfl⟩:=h;obtain⟨p,a,rfl⟩:=yah.mp hk;exact⟨p.2,yah.mpr ⟨p,a,rfl⟩⟩
theorem Els.ins(h:Els l es)(c:Nat)(k:Int)(tk:Tok):Els (l.take c++k::l.drop c) (es.take c++(k,Value.int k tk)::es.drop c):=by
 obtain⟨ts,rfl,rfl⟩:=h;exact⟨ts.take c++(k,tk)::ts.drop c,by simp,by simp⟩
def Els.hashes(h:Els l es):es.map (·.1)=l:=by
 obtain⟨ts,rfl,rfl⟩:=h;rw[yay];rfl
end
theorem zgP(prog:Program)(w:World){k:Nat}(h:k<4):(intKind prog w).hash k=k:=by
 have:k=0\/k=1\/k=2\/k=3:=by omega
 rcases this with rfl|rfl|rfl|rfl<;>rfl
structure ISet(w:World)(h:Heap)(a:Addr)(ks:List Int):Prop where
 ex:∃o es ep t,h.get? a=some o/\o.ExactSet/\o.data=.set es ep t/\t.place=pl (zau ks)/\t.dummies=#[]/\t.plain=true/\t.led=!byT w/\t.mask=7/\Els (zau ks) es.toList
section
variable{prog:Program}{w:World}{A:Around}{E:Z5}{s:Shared}
def zf2{es:Array (Int×Value)}{t:SetTable}{l:List Int}(J:l.length<=7)(h1:t.place=pl l)(h2:t.dummies=#[])(h3:t.mask=7)(U:Els l es.toList):t.fits es.size=true:=by
 have e2:es.size=l.length:=by rw[<-yaH,U.len]
 unfold SetTable.fits SetTable.fill;rw[h1,h2,h3,e2];unfold pl;rw[yai,yae,ybJ];exact yaz J
theorem zpP{a:Addr}{ks:List Int}{k:Int}{tk:Tok}{Q:Bool->Shared->Prop}(S:ISet w s.heap a ks)(hk:0<=k/\k<4)
  (h:∀h' c,Heap.SameBut a s.heap h'->ISet w h' a (ks++[k])->Q c {s with heap:=h',toks:=s.toks+1}):wpAny (model prog w) A (setAdd a (.int k tk)) Q E s:=by
 unfold setAdd;refine yaZ (yaa ((intKind prog w).pyHash (k:=k) (intKind_is _ _ _ _) ?_));obtain⟨o,es,ep,t,m,hex,hd,h1,h2,D,H,d,b⟩:=S.ex;have cl:=zbS (ks:=ks);have hf:t.fits es.size=true:=zf2 (by omega) h1 h2 d b;obtain⟨n,rfl⟩:=ya7 hk.1
 have p:n<4:=by omega
 have r:ElemsOf (intKind prog w) es.toList:=fun e he=>by
  obtain⟨j,u,q,rfl⟩:=b.mem he;have q:=(zeu.mp q).1;obtain⟨i,rfl⟩:=ya7 q.1;exact⟨⟨_,intKind_is _ _ _ _,(zgP prog w (by omega)).symm⟩,rfl⟩
 have M:es.size=(zau ks).length:=by rw[<-yaH,b.len]
 unfold setAddHashed setAddHashedIn;refine yaZ (yaa (yb7 (s:={s with toks:=s.toks+1}) m hd hf ?_));dsimp only;rw[byScan_of (knd:=intKind prog w) rfl (by unfold scanBound;omega) r];simp only[↓reduceIte];unfold setAddByScan;refine yaa ?_;refine yaa (ycY ?_);refine yaa (wpAny_setScan_of (knd:=intKind prog w) (k:=(n:Int)) (s:={s with toks:=s.toks+1}) (intKind_is _ _ _ _) m hd hf r ?_)
 cases G:List.findIdx? (fun e=>(intKind prog w).is (n:Int) e.2) es.toList with
 |some j=>
  dsimp only;obtain⟨q,l,_⟩:=List.findIdx?_eq_some_iff_getElem.mp G;obtain⟨k',g,B,T⟩:=b.mem (ybK q);rw[T]at l;obtain⟨u,R⟩:=ydx (k:=(n:Int)) (v:=Value.int k' g) l
  have:k'=(n:Int):=by injection R
  subst this;refine yaf (yaf (h s.heap _ (Heap.SameBut.refl a s.heap) ⟨o,es,ep,t,m,hex,hd,?_⟩));rw[zqg (zeu.mp B).2];exact⟨h1,h2,D,H,d,b⟩
 |none=>
  dsimp only
  have y:(n:Int) ∉ ks:=fun z=>by
   obtain⟨g,he⟩:=b.has (zeu.mpr ⟨hk,z⟩);have:=List.findIdx?_eq_none_iff.mp G _ he;rw[intKind_is]at this;cases this
  obtain⟨fs,I⟩:=zos p y;have U:=zbS (ks:=ks++[(n:Int)])
  have O:t.freeSlot n=some (n,false):=by
   rw[<-fs,<-h1,<-d];unfold SetTable.freeSlot SetTable.probe;rw[ST.zpV h2];rfl
  generalize C:below (pl (zau ks)) n=P at*
  have g1:insertAt t.place P n=pl (zau (ks++[(n:Int)])):=by
   rw[I];unfold nw;rw[C,h1];refine ydd.mp ?_;rw[zgO];unfold pl;simp
  have F:Els (zau (ks++[(n:Int)])) (insertAt es P ((n:Int),.int n tk)).toList:=by
   rw[zgO,I];unfold nw;rw[C];exact b.ins P n tk
  have fit:=zf2 (es:=insertAt es P ((n:Int),.int n tk)) (t:={t with place:=insertAt t.place P n}) (by omega) g1 h2 d F
  have eL:layNew t es n (.int n tk)=(insertAt es P ((n:Int),.int n tk),{t with place:=insertAt t.place P n},false,false):=by
   unfold layNew;rw[O];dsimp only
   rw[show t.put n=({t with place:=insertAt t.place P n},P)by
    unfold SetTable.put;rw[h2,show has #[] n=false by unfold has below;rfl,h1,C]
    simp[h2]]
   dsimp only;unfold SetTable.orStandIn;rw[fit];rfl
  have hsz:(insertAt es P ((n:Int),Value.int n tk)).size=(zau ks).length+1:=by rw[ST.zcz,M]
  rw[zgP prog w p,eL];dsimp only;refine yaa (ybQ (a:=()) rfl ?_);rw[D];simp only[yb2];refine yaa ?_;rw[hashByValue_scannable 8 (x:=.int n tk) rfl];refine yaf ?_;rw[show plainKind (.int n tk)=true from rfl];simp only[yb2];refine yaa (wpAny_storeSet_of (s:={s with toks:=s.toks+1}) m hd ?_ (by rw[hsz];exact yas (show _<=5 by omega) (by decide)));obtain⟨L,K,J,d1⟩:=ST.putS (es':=insertAt es P ((n:Int),.int n tk)) (t':={t with place:=insertAt t.place P n}) m hex hd
  have N:(zau (ks++[(n:Int)])).length=(zau ks).length+1:=by rw[<-F.len,yaH,hsz]
  rw[if_neg (by
   unfold SetTable.tooFull SetTable.fill;dsimp only;rw[h2,d,ST.zcz,h1];unfold pl;rw[yai,yae];simp
   omega)]
  refine yaf ?_;dsimp only;have f:=K;rw[D]at f d1;exact yaf (h _ true (Heap.SameBut.update ..) ⟨L,_,_,_,f,J,d1,g1,h2,rfl,H,d,F⟩)
end
open PySem PySem.Spec PyProof.Rows
def ISet.keep(x:ISet w h a ks)(e:∀o,h.get? a=some o->h'.get? a=some o):ISet w h' a ks:=by
 obtain⟨o,es,ep,t,b,r⟩:=x.ex;exact⟨o,es,ep,t,e o b,r⟩
theorem ISet.fresh{w:World}{h:Heap}{a:Addr}(e:h.get? a=some {cls:=.type "set",dict:=none,data:=.set #[] 0 (.fresh 0 0 (!byT w))}):ISet w h a []:=
 ⟨_,#[],0,.fresh 0 0 (!byT w),e,⟨rfl,rfl,rfl⟩,rfl,rfl,rfl,rfl,rfl,rfl,⟨[],rfl,rfl⟩⟩
section
variable{prog:Program}{w:World}{A:Around}{R:Result->Shared->Prop}{I:Addr}{fp wr:List Addr}{G:Array GenState->Array GenState->Prop}{n:Nat}{P:Nat->Value->Prop}{St:Nat->Shared->Prop}
theorem znP(W:WalksS prog w A.in1 I fp wr G n P St)(S:Addr)(U:S ∉ fp)(val:Nat->Int)(J:∀i v,P i v->∃t,v=.int (val i) t)(hs:∀i,i<n->0<=val i/\val i<4):
  ∀(k i:Nat) (s:Shared),n-i=k->i<=n->St i s->ISet w s.heap S ((List.range i).map val) →
   (∀s',Moved (S::wr) G s s'->ISet w s'.heap S ((List.range n).map val)->R (.ok (.ret .none)) s') →
   codeAny (model prog w) A (.builtin "set.update.loop" ⟨[.ref S,.ref I],[]⟩) R s:=by
 have m:S ∉ wr:=fun h=>U (W.sub _ h)
 have a:∀b∈wr,b∈S::wr:=fun b hb=>yal _ hb
 intro k
 induction k with
 |zero=>
  intro i s hk hi d B C
  have u:i=n:=by omega
  subst u;refine ybR ycw ?_;rw[ybu ybO _];show wpAny _ A.in1 (pyNext (.ref I) >>= _) _ _ s;refine yaa (W.done s _ _ d fun s' hm=>?_);show wpAny _ A.in1 (ret Value.none) _ _ s';exact yaf (C s' (hm.mono a) (B.keep fun o r=>hm.heap S _ m r))
 |succ k D=>
  intro i s hk hi d B C
  have f:i<n:=by omega
  refine ybR ycw ?_;rw[ybu ybO _];show wpAny _ A.in1 (pyNext (.ref I) >>= _) _ _ s;refine yaa (W.item i s _ _ f d fun v s' E g hm=>?_);obtain⟨t,rfl⟩:=J i v E;have z:ISet w s'.heap S ((List.range i).map val):=B.keep fun o r=>hm.heap S _ m r
  show wpAny _ A.in1 (holding [Value.int (val i) t] (setAdd S (.int (val i) t)) >>= _) _ _ s';refine yaa (yaZ ?_);refine zpP z (hs i f) fun h' c j y=>?_
  have x:ISet w h' S ((List.range (i+1)).map val):=by
   rw[ybE,ycp];exact y
  refine yaf ⟨ydg ybO _,D (i+1) _ (by omega) f (W.frame _ s' _ _ g (yb3 _) fun b hb o e=>?_) x fun q l p=>?_⟩
  ·rw[j.2 b (fun h:b=S=>U (by rw[<-h];exact hb))];exact e
  ·refine C q (Moved.trans W.gtrans ((hm.mono a).then_heap (yb3 _) fun b o hb e=>?_) l) p;rw[j.2 b (fun h:b=S=>hb (by rw[h];exact yan))];exact e
end
end SI
namespace PySem
section
variable{prog:Program}{w:World}{A:Around}{E:Z5}{s:Shared}
theorem zou{l:Addr}{items:Array Value}{ns:List Int}{Q:Z5}
  (hh:A.handled=none) (J:s.heap.IsList l items) (hi:PyProof.Rows.IntsAre items.toList ns) (hs:∀k∈ns,0<=k/\k<4)
  (h:∀(h':Heap) (tk:Nat),SI.ISet w h' s.heap.objs.size ns->(∀b o,s.heap.get? b=some o->h'.get? b=some o)->Q (.ref s.heap.objs.size) {s with heap:=h',toks:=tk}):
  wpAny (model prog w) A (call (.type "set") [.ref l]) Q E s:=by
 have y:items.size=ns.length:=by rw[<-yaH];exact PyProof.Rows.IntsAre.length hi
 have H:(List.range items.size).map (fun i=>ns.getD i 0)=ns:=by
  apply ybC;intro i;rw[yax,y]
  by_cases hi:i<ns.length
  ·rw[ycA hi,yac hi];show some (ns.getD i 0)=_;rw[yar,yac hi];rfl
  ·rw[yaE (by rw[ycr];omega),yaE (by omega)];rfl
 obtain⟨ol,a,c,nl,p⟩:=J;have n:l<s.heap.objs.size:=yao a;refine zfl a c F.sub_list_set F.sub_list_frozenset (by decide) (fun e q=>ycZ ⟨_,e,c,nl,p⟩ q) (Inv:=fun h'=>SI.ISet w h' s.heap.objs.size ns) (fun {G R} I f d K=>?_) fun h' tk kp i=>h h' tk i kp
 have j:l≠G.objs.size:=by rw[d];exact yav (ybe n)
 have D:s.heap.objs.size ∉ [G.objs.size,l]:=by
  rw[d];simp only[yau,yaD,ya8,ycR,not_or];exact⟨yav (ycd _),ya6 n⟩
 have g:∀(i:Nat) (v:Value),items[i]?=some v->∃t,v=.int ((fun i=>ns.getD i 0) i) t:=fun i v hv=>
  PyProof.Rows.IntsAre.int_at hi i v (by rw[ybl];exact hv)
 have z:G.IsList l items:=⟨_,f l _ a,c,nl,p⟩
 refine SI.znP ((Walks.list (by simp[hh]) _ l j items).toS) s.heap.objs.size D (fun i=>ns.getD i 0) g (fun i hi=>?_) (items.size-0) 0 _ (by omega) (yaR _)
  ⟨⟨_,yam _ rfl,rfl,rfl⟩,(z.push _)⟩ (SI.ISet.fresh (yad _ I)) fun s' hm r=>?_
 ·have m:i<ns.length:=by omega
  show 0<=ns.getD i 0/\ns.getD i 0<4;rw[yar,yac m];exact hs _ (ybK m)
 ·rw[H]at r;obtain⟨h',g',d',u,x⟩:=s';have M:g'=s.gens:=hm.gens;have N:d'=s.drawn:=hm.drawn;have L:x=s.os:=hm.os;subst M;subst N;subst L;refine K h' u (fun b o e=>?_) r;have C:b≠s.heap.objs.size:=yav (yao e)
  have B:b≠G.objs.size:=by rw[d];exact yav (ybe (yao e))
  exact hm.heap b o (by simp only[yau,yaD,ya8,ycR,not_or];exact⟨C,B⟩) (yad _ (f b o e))
end
end PySem
namespace SI
open PySem PySem.Spec PyProof.Rows
theorem zbj:Slot "set_iterator" "__next__" "set_iterator.__next__":=
 .of (owner:="set_iterator") (n:="__next__") (by rw[yb8,ybm];kernel_rfl) (by decide +kernel) (by decide +kernel) (by decide +kernel)
  (by first|exact .inl (by decide +kernel)|exact .inr (by decide +kernel)) (by rw[yb5];kernel_rfl)
theorem zfc:Slot "set_iterator" "__iter__" "set_iterator.__iter__":=
 .of (owner:="set_iterator") (n:="__iter__") (by rw[yb8,ybm];kernel_rfl) (by decide +kernel) (by decide +kernel) (by decide +kernel)
  (by first|exact .inl (by decide +kernel)|exact .inr (by decide +kernel)) (by rw[yb5];kernel_rfl)
def zeE:entryFor table "set_iterator.__next__"=some Builtin.«set_iterator.__next__»:=entryFor_of_tree (by kernel_rfl)
theorem zhN:entryFor table "set_iterator.__iter__"=some Builtin.«dict_keyiterator.__iter__»:=
 entryFor_alias (id':="dict_keyiterator.__iter__") (by kernel_rfl) rfl (by decide +kernel) (by kernel_rfl)
theorem ziY:entryFor table "set.__iter__"=some Builtin.«frozenset.__iter__»:=
 entryFor_alias (id':="frozenset.__iter__") (by kernel_rfl) rfl (by decide +kernel) (by kernel_rfl)
def zkC:Manifest.owners.lookup (String.ofList ['r','o','t','a','r','e','t','i','_','t','e','s'].reverse)=some Manifest.sig_set_iterator:=by kernel_rfl
def zfm(a:Value):argsOk "set_iterator.__next__" ⟨[a],[]⟩:=by
 unfold argsOk;rw[ydF (id:="set_iterator.__next__") (n:=['_','_','t','x','e','n','_','_']) (o:=['r','o','t','a','r','e','t','i','_','t','e','s']) (by kernel_rfl) zkC];kernel_rfl
def zjd(a:Value):argsOk "set_iterator.__iter__" ⟨[a],[]⟩:=by
 unfold argsOk;rw[ydF (id:="set_iterator.__iter__") (n:=['_','_','r','e','t','i','_','_']) (o:=['r','o','t','a','r','e','t','i','_','t','e','s']) (by kernel_rfl) zkC];kernel_rfl
noncomputable def SAt(w:World)(h:Heap)(a:Addr)(ks:List Int)(es:Array (Int×Value))(ep:Nat)(t:SetTable):Prop:=
 (∃o,h.get? a=some o/\o.ExactSet/\o.data=.set es ep t)/\t.place=pl (zau ks)/\t.dummies=#[]/\t.plain=true/\t.led=!byT w/\t.mask=7/\Els (zau ks) es.toList
def ISet.sat(x:ISet w h a ks):∃es ep t,SAt w h a ks es ep t:=by
 obtain⟨o,es,ep,t,h1,h2,b,r⟩:=x.ex;exact⟨es,ep,t,⟨o,h1,h2,b⟩,r⟩
def SAt.at(x:SAt w h a ks es ep t)(e:∀o,h.get? a=some o->h'.get? a=some o):SAt w h' a ks es ep t:=
 let ⟨⟨o,h1,r⟩,q⟩:=x;⟨⟨o,e o h1,r⟩,q⟩
noncomputable def zqv(h:Heap)(it a:Addr)(sl i n ep:Nat):Prop:=∃o,h.get? it=some o/\o.cls=.type "set_iterator" /\ o.data=.fields #[.int sl 0,.int i 0,.ref a,.int n 0,.int ep 0]
def zqv.typeIs{s:Shared}{it a:Addr}{sl i n ep:Nat}(x:zqv s.heap it a sl i n ep):s.TypeIs (.ref it) "set_iterator":=let ⟨o,b,c,_⟩:=x;⟨o,b,c⟩
def zqv.at(x:zqv h it a sl i n ep)(e:∀o,h.get? it=some o->h'.get? it=some o):zqv h' it a sl i n ep:=let ⟨o,b,r⟩:=x;⟨o,e o b,r⟩
def zl6(w:World)(a:Addr)(ep:Nat)(es:Array (Int×Value)):Array (Int×Value):=if byT w then pickOrder (w.params.setOrder a ep) es else es
def slN(w:World)(l:List Int)(i:Nat):Nat:=if byT w then 0 else if i=0 then 0 else(l.getD (i-1) 0).toNat+1
theorem zgS{α:Type}:∀(l:List α) (i:Nat) (h:i<l.length),([l[i]]++l.eraseIdx i).Perm l
 |x::xs,0,_=>List.Perm.refl _|x::xs,i+1,h=>by
  have h':i<xs.length:=by simpa using h
  exact(List.Perm.swap x (xs[i]'h') (xs.eraseIdx i)).trans (List.Perm.cons x (zgS xs i h'))
theorem zna{α:Type}:∀(fuel k:Nat) (left:List α) (out:Array α),left.length<=fuel->(pickOrder.go next fuel k left out).toList.Perm (out.toList++left)
 |0,k,left,out,h=>by
  have:left=[]:=ya1 (by omega);subst this;unfold pickOrder.go;rw[yaO]
 |fuel+1,k,[],out,h=>by
  unfold pickOrder.go;have:([]:List α)[next k % ([]:List α).length]?=none:=rfl;rw[this,yaO]
 |fuel+1,k,x::xs,out,h=>by
  have a:next k % (x::xs).length<(x::xs).length:=Nat.mod_lt _ (by simp);unfold pickOrder.go;rw[yac a];dsimp only
  have b:((x::xs).eraseIdx (next k % (x::xs).length)).length<=fuel:=by
   rw[List.length_eraseIdx_of_lt a];simp at h ⊢;exact h
  refine(zna fuel (k+1) _ _ b).trans ?_;rw[Array.toList_push,ybB];refine List.Perm.append_left _ ?_;exact zgS _ _ a
def zm9{α:Type}(xs:Array α):(pickOrder next xs).toList.Perm xs.toList:=by
 have:=zna (next:=next) xs.size 0 xs.toList #[] (by simp);unfold pickOrder;simpa using this
def zhr:(zl6 w a ep es).toList.Perm es.toList:=by
 unfold zl6;split
 ·exact zm9 es
 ·exact List.Perm.refl _
def zfA:(zl6 w a ep es).size=es.size:=by
 rw[<-yaH,zhr.length_eq,yaH]
section
variable{prog:Program}{w:World}{A:Around}{E:Z5}{s:Shared}{a:Addr}{ks:List Int}{es:Array (Int×Value)}{ep:Nat}{t:SetTable}
theorem SAt.fits(x:SAt w h a ks es ep t):t.fits es.size=true:=by
 obtain⟨_,h1,h2,_,_,c,b⟩:=x;exact zf2 (by have:=zbS (ks:=ks);omega) h1 h2 c b
def zei(x:SAt w s.heap a ks es ep t)(h:Q (es,ep,t) s):wpAny (model prog w) A (setState a) Q E s:=by
 obtain⟨o,b,_,hd⟩:=x.1;exact yb7 b hd x.fits h
def zmb(h:Q (byT w) s):wpAny (model prog w) A setsByText Q E s:=by
 unfold setsByText;exact yaa (wpAny_askSetting (yaf h))
theorem zma(x:SAt w s.heap a ks es ep t)(hi:i<=es.size)
  (h:Q ((zl6 w a ep es)[i]?.map fun e=>(e.2,slN w (zau ks) (i+1))) s):wpAny (model prog w) A (setNext a (slN w (zau ks) i) i ep) Q E s:=by
 obtain⟨_,h1,h2,f,b,j,g⟩:=id x;unfold setNext;refine yaa (zei x ?_);dsimp only;refine yaa (zmb ?_);unfold zl6 slN at h;unfold slN
 cases hb:byT w with
 |true=>
  rw[hb]at h;simp only[yb2]at h ⊢;rw[if_neg (by simp)];refine yaa ?_;unfold setWalk;refine yaa (zei x ?_);dsimp only;refine yaa (zmb ?_);rw[hb];simp only[yb2];refine yaa (wpAny_askSetting (yaf ?_));exact yaf h
 |false=>
  rw[hb]at h b;simp only[yaG,ybL]at h ⊢;obtain⟨mask,place,dummies,finger,led,moves,plain⟩:=t;simp only at h1 h2 f b j;subst f b;refine ydp (fun z=>absurd z ybg) (fun _=>?_);refine yaa (ybQ (a:=()) rfl ?_)
  have l:es.size=(zau ks).length:=by rw[<-yaH,g.len]
  rw[h1,zqo (by omega)];refine yaf ?_
  rcases Nat.lt_or_ge i es.size with z|z
  ·have d:i<(zau ks).length:=by omega
   have c:es[i]?=some es[i]:=yba z
   have e2:(pl (zau ks))[i]?=some ((zau ks)[i]).toNat:=by
    unfold pl;rw[<-ybl,List.toList_toArray,yax,yac d];rfl
   rw[c]at h ⊢;rw[e2]
   have k:(zau ks).getD (i+1-1) 0=(zau ks)[i]:=by
    rw[Nat.add_sub_cancel,yar,yac d];rfl
   rwa[if_neg (by omega),k]at h
  ·have c:es[i]?=none:=ybU z;rw[c]at h ⊢;exact h
end
section
variable{prog:Program}{w:World}{A:Around}{E:Z5}{s:Shared}{a it:Addr}{ks:List Int}{es:Array (Int×Value)}{ep:Nat}{t:SetTable}
def zeM(x:SAt w s.heap a ks es ep t)(h:Q es s):wpAny (model prog w) A (setEntries a) Q E s:=by
 unfold setEntries;exact yaa (zei x (yaf h))
theorem zmy{Q:Z5}(x:SAt w s.heap a ks es ep t)
  (J:Q (.ref s.heap.objs.size) {s with heap:=s.heap.push {cls:=.type "set_iterator",data:=.fields #[.int 0 0,.int 0 0,.ref a,.int es.size 0,.int ep 0]}}):wpAny (model prog w) A (pyIter (.ref a)) Q E s:=by
 obtain⟨⟨o,e,d,hd⟩,_,_,c,_⟩:=id x;have b:s.TypeIs (.ref a) "set":=⟨o,e,d.1⟩;refine ydC b PySem.F.slot_set_iter (yaL PySem.F.slot_set_iter b ziY ?_ (PySem.F.args_set_iter_1 _));unfold Builtin.«frozenset.__iter__»;refine yaa (ybQ (a:=a) rfl ?_);refine yaa ?_;unfold Builtin.Frozenset.sizeOf;refine yaa (zeM x (yaf ?_));refine yaa ?_;unfold setDrawn;refine yaa (zei x ?_);dsimp only;refine yaa (zmb ?_);refine yaf ?_;obtain⟨mask,place,dummies,finger,led,moves,plain⟩:=t;simp only at c;subst c
 refine ydp (fun z=>absurd z (by
  cases byT w
  ·exact ybg
  ·exact ybg)) (fun _=>?_)
 refine yaa (yaf ?_);refine yaa ?_;unfold setEpoch;refine yaa (zei x (yaf ?_));refine yaa (yaX (yaf ⟨_,rfl,"set_iterator",_,⟨_,yam _ rfl,rfl⟩,zbj.lookup,J⟩))
def zrQ{Q:Option Value->Shared->Prop}{i:Nat}{e:Int×Value}(hit:zqv s.heap it a (slN w (zau ks) i) i es.size ep)(x:SAt w s.heap a ks es ep t)(J:(zl6 w a ep es)[i]?=some e)
  (U:∀h',zqv h' it a (slN w (zau ks) (i+1)) (i+1) es.size ep->Heap.SameBut it s.heap h'->Q (some e.2) {s with heap:=h'}):wpAny (model prog w) A (pyNext (.ref it)) Q E s:=by
 obtain⟨o,d,g,hd⟩:=id hit
 have f:i<=es.size:=by
  have:=(ybv.mp J).1;rw[zfA]at this;omega
 unfold pyNext;refine yaa (ycs (yaU (name:=Str.ofString "__next__") hit.typeIs zbj (yaL zbj hit.typeIs zeE ?_ (zfm _))));unfold Builtin.«set_iterator.__next__»;refine yaa (yaf ?_);refine yaa (wpAny_fieldsOf d hd ?_);dsimp only;refine yaa (zeM x ?_);rw[if_neg (by simp)];refine yaa ?_;rw[yaQ,yaQ,yaQ];refine zma x f ?_;rw[J];show wpAny _ _ (setField (.ref it) 0 (rawInt (slN w (zau ks) (i+1))) >>= _) _ _ s;refine yaa (yc6 d hd (by simp) ?_);have b:=yb0 (Obj.mapFields (·.setIfInBounds 0 (rawInt (slN w (zau ks) (i+1))))) d (yda (ybq hd _));refine yaa (yc6 (s:={s with heap:=s.heap.update it (Obj.mapFields (·.setIfInBounds 0 (rawInt (slN w (zau ks) (i+1)))))}) b (ybq hd _) (by simp) ?_);have c:=yb0 (Obj.mapFields (·.setIfInBounds 1 (rawInt ((i:Int)+1)))) b (yda (ybq (ybq hd _) _));refine yaf ⟨_,rfl,yaf (U _ ⟨_,c,?_,?_⟩ ((Heap.SameBut.update ..).trans (Heap.SameBut.update ..)))⟩
 ·exact(ydA ..).trans ((ydA ..).trans g)
 ·rw[ybq (ybq hd _)];simp[rawInt]
def zuc{Q:Option Value->Shared->Prop}(hh:A.handled=none)(hit:zqv s.heap it a (slN w (zau ks) es.size) es.size es.size ep)(x:SAt w s.heap a ks es ep t)(J:∀h',Heap.ExtBut it s.heap h'->Q none {s with heap:=h'}):wpAny (model prog w) A (pyNext (.ref it)) Q E s:=by
 obtain⟨o,c,e,hd⟩:=id hit;unfold pyNext;refine yaa (ycs (yaU (name:=Str.ofString "__next__") hit.typeIs zbj (yaL zbj hit.typeIs zeE ?_ (zfm _))));unfold Builtin.«set_iterator.__next__»;refine yaa (yaf ?_);refine yaa (wpAny_fieldsOf c hd ?_);dsimp only;refine yaa (zeM x ?_);rw[if_neg (by simp)];refine yaa ?_;rw[yaQ,yaQ,yaQ];refine zma x (yaj _) ?_;have d:(zl6 w a ep es)[es.size]?=none:=ybU (by rw[zfA];exact yaj _);rw[d];show wpAny _ _ (setField (.ref it) 2 .none >>= _) _ _ s;refine yaa (yc6 c hd (by simp) ?_);show wpAny _ _ (newExc (.type "StopIteration") [] >>= _) _ _ _;refine yaa ?_;simp only[newExc,newTuple];refine yaa (yaX ?_ (by size_fits));refine yaa (m:=firstArgMember _ _) (ybQ (a:=Value.none) (by first|rfl|(simp only[firstArgMember];rfl)) ?_);refine yaX ?_ (by size_fits);simp only[raiseNew];refine yaa (wpAny_handled ?_);rw[show A.in1.handled=none from hh];refine yaa (yaf (wpAny_throw ?_));refine yaa (ycy (T:="StopIteration") (b:=true) ⟨_,yam _ rfl,rfl⟩ isSubtype_stop ?_);exact yaf (J _ (((Heap.SameBut.update ..).extBut.push _).push _))
def zmc(hh:A.handled=none)(I:Addr)(J:a≠I):Walks prog w A I [I,a] [I] es.size (fun i v=>∃e,(zl6 w a ep es)[i]?=some e/\e.2=v) (fun i h=>zqv h I a (slN w (zau ks) i) i es.size ep/\SAt w h a ks es ep t)where
 sub:=fun b hb=>by simp at hb;simp[hb]
 frame:=fun _ _ _ st hk=>⟨st.1.at fun o e=>hk I (by simp) o e,st.2.at fun o e=>hk a (by simp) o e⟩
 item:=fun i s Q E hi st f=>by
  obtain⟨e,j⟩:∃e,(zl6 w a ep es)[i]?=some e:=⟨_,yba (by rw[zfA];exact hi)⟩;refine zrQ st.1 st.2 j fun h' d c=>?_
  exact f e.2 h' s.toks ⟨e,j,rfl⟩ ⟨d,st.2.at fun o e=>c.extBut a o J e⟩ fun b o hb e=>c.extBut b o (fun h=>hb (by simp[h])) e
 done:=fun s Q E st f=>zuc hh st.1 st.2 fun h' g=>f h' s.toks fun b o hb e=>g b o (fun h=>hb (by simp[h])) e
 self:=fun i s Q E st f=>by
  refine ydC st.1.typeIs zfc (yaL zfc st.1.typeIs zhN ?_ (zjd _));show wpAny _ _ (ret (.ref I)) _ _ s;exact yaf ⟨_,rfl,"set_iterator",_,st.1.typeIs,zbj.lookup,f⟩
end
open PySem PySem.Spec PySem.W PyProof.Rows
section
variable{prog:Program}{w:World}{A:Around}{E:Z5}{s:Shared}{a:Addr}{ks:List Int}{es:Array (Int×Value)}{ep:Nat}{t:SetTable}
theorem zpS(J:s.TypeIs (.ref r) "set")(h:Q false s):wpAny (model prog w) A (Builtin.List.listLengthHint (.ref r)) Q E s:=by
 unfold Builtin.List.listLengthHint;refine yaa (ycn J PySem.F.slot_set_len.lookup ?_);generalize c:("set.__len__":String)=d
 wp_delta
 rw[show splitId d=some ("set","__len__")from by subst c;decide +kernel];subst c;refine yaa (ycy (T:="set") (b:=true) J (by rw[yb5];kernel_rfl) ?_);refine ydp (fun a=>absurd a (by decide)) (fun _=>?_);refine ydp (fun _=>?_) (fun a=>absurd (by decide +kernel) a);refine yaa (ycm J ?_);exact yaf h
def SAt.typeIs(x:SAt w s.heap a ks es ep t):s.TypeIs (.ref a) "set":=let ⟨⟨o,c,b,_⟩,_⟩:=x;⟨o,c,b.1⟩
def SAt.lt(x:SAt w h a ks es ep t):a<h.objs.size:=let ⟨⟨_,b,_⟩,_⟩:=x;yao b
def zsQ:KdlSrc prog w "set" a a es.size (fun i v=>∃e,(zl6 w a ep es)[i]?=some e/\e.2=v) (fun h=>SAt w h a ks es ep t)where
 type:=fun _ x=>x.typeIs
 there:=fun _ x=>⟨x.lt,x.lt⟩
 keep:=fun _ _ x hk=>x.at fun o e=>hk a (.inl rfl) o e
 notList:=by decide
 notTuple:=by decide
 hint:=fun _ _ _ _ x b=>zpS x.typeIs b
 iter:=fun A s hh x=>⟨_,_,(fun _ _ b=>zmy x b),zmc hh _ (yav x.lt),by
  refine⟨⟨_,yam _ rfl,rfl,?_⟩,x.at fun o e=>yad _ e⟩
  have:slN w (zau ks) 0=0:=by unfold slN;split<;>rfl
  rw[this];rfl⟩
theorem zlh{Q:Z5}(hh:A.handled=none)(S:ISet w s.heap a ks)
  (h:∀(hm h':Heap) (tk e:Nat) (vs:List Value),(∀b o,s.heap.get? b=some o->hm.get? b=some o)->(∀b o,hm.get? b=some o->h'.get? b=some o)->h'.get? hm.objs.size=some (seqObj "list" vs.toArray e)->IntsAre vs (zau ks)->Q (.ref hm.objs.size) {s with heap:=h',toks:=tk}):
  wpAny (model prog w) A (call (.builtin "sorted") [.ref a]) Q E s:=by
 obtain⟨es,ep,t,x⟩:=S.sat;have p:=x.2.2.2.2.2.2
 have j:es.size=(zau ks).length:=by rw[<-yaH,p.len]
 have u:=zbS (ks:=ks);refine ycv kind_sorted plain_sorted entry_sorted (args_sorted1 _) ?_;unfold Builtin.«sorted»;refine yaa (m:=checkCount "sorted" 1 1 _) (yaf ?_);refine yaa (kdu_collect (A:=A.in1) (zsQ (prog:=prog)) hh x (by rw[j];exact yas u (by decide)) fun h' tk acc hk c=>?_)
 have r:acc.toList.length=es.size:=by rw[yaH];exact c.1
 refine yaa (ydh ?_ (by rw[r,j];exact yas u (by decide)));have d:(h'.push (seqObj "list" acc.toList.toArray 0)).get? h'.objs.size=some (seqObj "list" acc.toList.toArray 0):=yam _ rfl
 have hv:acc.toList=(zl6 w a ep es).toList.map (·.2):=by
  apply ybC;intro i;rw[yax,ybl,ybl]
  rcases Nat.lt_or_ge i es.size with z|z
  ·have q:i<acc.size:=by rw[c.1];exact z
   obtain⟨e,C,e2⟩:=c.2 i acc[i] (yba q);rw[yba q,C];show some acc[i]=some e.2;rw[e2]
  ·rw[ybU (by rw[c.1];exact z),ybU (by rw[zfA];exact z)];rfl
 obtain⟨ns,n,y⟩:∃ns,IntsAre acc.toList ns/\ns.Perm (zau ks):=by
  have go:∀l:List (Int×Value),(∀e∈l,∃k tk,e=(k,Value.int k tk))->IntsAre (l.map (·.2)) (l.map (·.1)):=by
   intro l
   induction l with
   |nil=>intro _;exact .nil|cons e l v=>
    intro hm;obtain⟨k,tk,rfl⟩:=hm e yan;exact .cons k tk (v fun e he=>hm e (yal _ he))
  refine⟨(zl6 w a ep es).toList.map (·.1),?_,?_⟩
  ·rw[hv]
   exact go _ fun e he=>by
    obtain⟨k,tk,_,z⟩:=p.mem (zhr.mem_iff.mp he);exact⟨k,tk,z⟩
  ·have:=(zhr (w:=w) (a:=a) (ep:=ep) (es:=es)).map (·.1);rwa[p.hashes]at this
 refine yaa (yaZ (yaL slot_list_sort ⟨_,d,rfl⟩ entry_list_sort (list_sort_tree (s:={s with heap:=h'.push (seqObj "list" acc.toList.toArray 0),toks:=tk}) d n (by rw[r,j];omega) fun out g a1 a2 a3=>⟨_,rfl,?_⟩) (args_list_sort _)));refine yaf ⟨_,rfl,?_⟩;obtain⟨e,he⟩:=sortedHeap_at (out:=out) d;have B:g=zau ks:=lks_uniq (a2.trans y) a3 (List.Pairwise.imp (fun {a b} h=>by omega) zor);refine h h' _ tk e out.toList hk (fun b o hb=>?_) (by simpa using he) (by rw[<-B];exact a1);have f:b<h'.objs.size:=yao hb;rw[sortedHeap_old (yav f) (by rw[size_push'];exact ybe f)];exact yad _ hb
end
end SI
namespace L2
open PySem PySem.Spec PyProof.Rows
section
variable{X:Cx}
noncomputable def zlc(w:World)(a:Addr)(ks:List Int)(h:Heap):Prop:=SI.ISet w h a ks
theorem zfh:∀{ns:List Int}{vs:List Value},Vals (ns.map V.int) vs->IntsAre vs ns
 |[],_,r=>by rw[ycE]at r;cases r;exact .nil
 |n::ns,_,r=>by
  rw[yaw]at r
  cases r with
  |cons h t=>
   obtain⟨u,e⟩:=(show ∃t,_=Value.int n t from h);subst e;exact .cons n u (zfh t)
def zh3(h:IntsAre vs ns):Vals (ns.map V.int) vs:=by
 induction h with
 |nil=>exact .nil|cons n t _ a=>exact .cons ⟨t,rfl⟩ a
def zhS(J:X.calm=true):zdl X (.type "set") (fun xs H Q=>∃(p:Addr) (ns:List Int),xs=[.ref p]/\SqL X.K H p (ns.map V.int)/\(∀k∈ns,0<=k/\k<4)/\∀l,H l=none->Q (.ref l) (upd H l (.ext (zlc X.w l ns)))):=by
 intro pins s σ H xs us Q I r h;obtain⟨p,ns,rfl,c,hs,q⟩:=h;obtain⟨u,rfl,a⟩:=zeN r;cases a;obtain⟨aa,b,pl,d⟩:=I.list c;refine zou (I.ok.hd J) pl.isList (by simpa using zfh b) hs fun h' tk S kp=>?_
 refine⟨.ref s.heap.objs.size,_,I.laid (t':=tk) (o:=.ext (zlc X.w s.heap.objs.size ns)) kp (yaj _) ?_,rfl,q _ (I.hok.fresh (yaj _))⟩;refine⟨S,?_,fun h1 h2 x k=>SI.ISet.keep x k⟩;obtain⟨o,_,_,_,e,_⟩:=S.ex;exact⟨o,e⟩
def zgk(J:X.calm=true):zdl X (.builtin "sorted") (fun xs H Q=>∃(a:Addr) (ns:List Int),xs=[.ref a]/\H a=some (.ext (zlc X.w a ns))/\∀l,H l=none->Q (.ref l) (upd H l (.lst ((SI.zau ns).map V.int)))):=by
 intro pins s σ H xs us Q I r h;obtain⟨a,ns,rfl,d,q⟩:=h;obtain⟨u,rfl,c⟩:=zeN r;cases c;obtain⟨S,_⟩:=I.hok a _ d;refine SI.zlh (I.ok.hd J) S fun hm h' tk e vs k1 k2 hg hi=>?_
 have b:=I.kept k1 (t':=tk);refine⟨.ref hm.objs.size,_,b.laid (h':=h') (t':=tk) (o:=.lst ((SI.zau ns).map V.int)) k2 (yaj _) (show zba X.prog X.w _ h' _ (.lst _)from⟨?_,vs,e,zh3 hi,hg⟩),rfl,q _ (b.hok.fresh (yaj _))⟩;rw[yae];exact yas SI.zbS (by decide)
end
end L2
namespace S2
open PySem PySem.Spec PyProof.Rows L2
def zjp:D->Option D|.lst l=>(zcV l).bind fun ns=>if ns.all (fun k=>decide (0<=k/\k<4))then some (.lst ((SI.zau ns).map D.int))else none|_=>none
section
variable{X:Cx}{cl:Cf}{E:St->XK}{e:Expr}{f:Fe}{pos:Pos}
theorem zih:∀{l:List Int},Shds cl w (l.map V.int) (l.map D.int)
 |[]=>.nil|i::l=>.cons (.int i) (zih (l:=l))
theorem zrV(hc:X.calm=true)(hK:X.K=cl.K)(hg:Gl X "sorted")(hm:X.mg "sorted"=none)(U:Gl X "set")(J:X.mg "set"=none)(he:PE X e (tE cl E f))(hs:starEach [e] X.env=[(false,eval e X.env)]):
  PE X (.Call (.Name "sorted" p) [.Call (.Name "set" p2) [e] [] pos2] [] pos) (tN cl E (eUn zjp f)):=by
 refine PE.imp (zcw (zgk hc) hg hm (by decide +kernel) (zbg (zdv (zhS hc) U J (by decide +kernel) (zcb he zeo hs) (he:=hs) (af:=rfl)) zcx)) ?_;rintro σ H Q ⟨B,w,ρ,S,rfl,R,q⟩;refine⟨B,w,ρ,S,rfl,R,?_⟩;unfold eUn at q
 cases hf:f ρ S with
 |bad=>rw[hf]at q;exact q.elim|exc c S1=>rw[hf]at q;simp only[zah,hf,Out.bind];exact q|ok d S1=>
  rw[hf]at q;simp only[zah,hf,Out.bind];intro vs h n o sh;dsimp only[Out.bind]at q
  cases d with
  |lst l=>
   cases hk:zcV l with
   |none=>simp[zjp,hk,Out.of]at q|some ns=>
    by_cases a:ns.all (fun k=>decide (0<=k/\k<4))=true
    ·simp only[zjp,hk,Option.bind,a,yb2]at q
     cases sh with
     |cons h1 j=>
      cases j
      cases h1 with
      |lst ep k r=>
       have m:=zf4 r hk;subst m;refine⟨_,ns,rfl,SqL.of ep,fun k hk=>yag (ybj.mp a k hk),fun l g=>⟨l,ns,rfl,zat,fun i b=>?_⟩⟩;exact q i _ (h.add l (.ext (zlc X.w l ns))) (n.grow (zaq g _)) (o.trans (zaq g _).fut) b (.lst zih)
    ·rw[Bool.not_eq_true]at a;simp only[zjp,hk,Option.bind,a,yaG,ybL]at q;exact q.elim
  |_=>exact q.elim
end
end S2
namespace ST
open PySem PySem.Spec PySem.W PyProof.Rows
section
variable{prog:Program}{w:World}{A:Around}{E:Z5}{s:Shared}
theorem zfn(k:∀b o,h.get? b=some o->o.cls=.type "tuple" -> h'.get? b=some o):∀{vs fs:List Value},KatTups h vs fs->KatTups h' vs fs
 |[],[],_=>trivial|_::_,_::_,t=>by
  obtain⟨⟨a,o,xs,n,e,d,c,hd,hf⟩,t⟩:=t;exact⟨⟨a,o,xs,n,e,k a o d c,c,hd,hf⟩,zfn k t⟩
def zmv{a:Addr}{vs fs:List Value}{n:Nat}{p:Array Nat}{P:PySem.Fin->Shared->Prop}(ho:s.heap.get? a=some (seqObj "list" vs.toArray n))(h2:2<=vs.length)(J:vs.length<64)(t:KatTups s.heap vs fs)(U:0<fs.length)(hf:∀v∈fs,∃i t,v=.int i t)
  (h:∀(s':Shared) (G:Array Nat->Shared->Prop),(∀b o,s.heap.get? b=some o->o.cls=.type "tuple" -> s'.heap.get? b=some o)->G p s'->(kas_sort vs.length).kasWp (kas_ask prog w A (tuples' true) vs) G s')
  (hP:P (.done (.ret .none)) {s with heap:=sortedHeap s.heap a vs (List.toArray (p.toList.map fun i=>vs.getD i Value.none))}):
  wpAny (model prog w) A (Builtin.«list.sort» ⟨[.ref a],[]⟩) P E s:=by
 rw[list_sort_plain];have B:a<s.heap.objs.size:=yao ho;refine yaa (listItems_at ho rfl ?_);refine yaa (ydG ho rfl ?_ (by rw[yai,ybH];omega) (yaR _));obtain⟨r,g⟩:∃r,(s.heap.update a (Obj.mapSeq fun _=>#[])).get? a=some (seqObj "list" #[] r):=⟨_,get?_update_seq ho (fun _=>#[])⟩;refine yaa (seqEpoch_at g rfl ?_);refine yaa (wpAny_newTuple ?_ (by show vs.length<=_;rw[ybH];omega));refine yaa (ydh ?_ (yaR _));refine yaZ ?_;have f:(((s.heap.update a (Obj.mapSeq fun _=>#[])).push (seqObj "tuple" vs.toArray 0)).push (seqObj "list" #[] 0)).get? a=some (seqObj "list" #[] r):=yad _ (yad _ g)
 have kp:∀b o,s.heap.get? b=some o->o.cls=.type "tuple" -> (((s.heap.update a (Obj.mapSeq fun _=>#[])).push (seqObj "tuple" vs.toArray 0)).push (seqObj "list" #[] 0)).get? b=some o:=by
  intro b o hb x
  have k:b≠a:=fun z=>by
   subst z;rw[ho]at hb;cases hb;exact absurd (Value.type.inj x) (by decide)
  exact yad _ (yad _ ((Heap.SameBut.update s.heap a _).2 b k |>.trans hb))
 show wpAny (model prog w) A _ P E {s with heap:=((s.heap.update a (Obj.mapSeq fun _=>#[])).push (seqObj "tuple" vs.toArray 0)).push (seqObj "list" #[] 0)};dsimp only
 have j:¬ vs.toArray.size<2:=by rw[yai];omega
 rw[if_neg j,if_neg j];refine yaa (kat_kind (fs:=fs) (T:=.type "int") (zfn kp t) U (fun v hv=>?_) (by decide) ?_)
 ·obtain⟨i,tk,rfl⟩:=hf v hv;exact .now
 refine yaa (ybr (kat_run (Q:=fun c s'=>s'={s with heap:=((s.heap.update a (Obj.mapSeq fun _=>#[])).push (seqObj "tuple" vs.toArray 0)).push (seqObj "list" #[] 0)}/\p.size=vs.length/\arrOf c=p.map (kas_item (vs.toArray.zip vs.toArray))/\failedOf c=none)
  (G:=fun q s'=>q=p/\s'={s with heap:=((s.heap.update a (Obj.mapSeq fun _=>#[])).push (seqObj "tuple" vs.toArray 0)).push (seqObj "list" #[] 0)}) rfl h2 J (fun y c s' a1 a2 a3 a4=>?_) (h _ _ kp ⟨rfl,rfl⟩)) ?_ fun _ _ e=>e)
 ·obtain⟨rfl,rfl⟩:=a4;exact⟨rfl,a1,a2,a3⟩
 rintro⟨⟨⟩,c⟩ s' ⟨rfl,u,m,l⟩;dsimp only;have d:=kat_snds rfl m
 have hsz:(List.toArray (p.toList.map fun i=>vs.getD i Value.none)).size=vs.length:=by rw[yai,yae,yaH,u]
 rw[d];refine yaa (seqEpoch_at f rfl ?_);refine yaa (ydG f rfl ?_ (yaR _) (yas (ydt hsz) (by rw[ybH];omega)));rw[l];simp only[bne_self_eq_false,yaG,ybL];exact yaf hP
noncomputable def lxL(a1 a2 J U:Int):Bool:=decide (a1<J\/(a1=J/\a2<U))
def zqq{vs:List Value}{i j:Nat}{x y:Addr}{a1 a2 U J:Int}{t1 t2 u1 u2:Tok}{C:Bool->Shared->Prop}(hi:vs.getD i Value.none=.ref x)(hj:vs.getD j Value.none=.ref y)(hx:s.heap.IsTuple x #[.int a1 t1,.int a2 t2])(hy:s.heap.IsTuple y #[.int U u1,.int J u2])
  (h:C (lxL a1 a2 U J) s):kas_ask prog w A (tuples' true) vs i j C s:=by
 unfold kas_ask;rw[hi,hj];obtain⟨e,ex,_,nx,dx⟩:=hx;obtain⟨d,b,_,f,c⟩:=hy;refine kat_lt ex dx b c ?_;refine kat_cons (wpAny_eqBool_int ?_)
 by_cases a:a1=U
 ·subst a;rw[ybJ];refine kat_yes (kat_cons (wpAny_eqBool_int ?_))
  by_cases e2:a2=J
  ·subst e2;rw[ybJ];refine kat_yes (kat_nil ?_)
   have:lxL a1 a2 a1 a2=decide ((#[Value.int a1 t1,Value.int a2 t2]:Array Value).size<(#[Value.int a1 u1,Value.int a2 u2]:Array Value).size):=by simp[lxL]
   rw[<-this];exact h
  ·rw[beq_false_of_ne e2];refine kat_no (kat_one _ _ (lt_int ?_))
   have:lxL a1 a2 a1 J=decide (a2<J):=by simp[lxL]
   rwa[this]at h
 ·rw[beq_false_of_ne a];refine kat_no (oneLt_int ?_)
  have:lxL a1 a2 U J=decide (a1<U):=by simp[lxL,a]
  rwa[this]at h
end
end ST
namespace L2
open PySem PySem.Spec PySem.W PyProof.Rows ST
end L2
namespace S2
open PySem PySem.Spec PyProof.Rows L2 ST
end S2
namespace ST
open PySem PySem.Spec PySem.W PyProof.Rows
def zAj(ks:List Nat)(i j:Nat):Option Bool:=(ks[i]?).bind fun a=>(ks[j]?).map fun b=>decide (a<b)
def zqG{α:Type}(ks:List Nat):KasT α->Option α
 |.ret a=>some a|.ask i j k=>match zAj ks i j with|some true=>zqG ks (k true)|some false=>zqG ks (k false)|none=>none
noncomputable def zfs:List Nat:=[0,1,2,3,4]
def zyz(ks:List Nat):Bool:=match zqG ks (kas_sort ks.length)with
 |some p=>decide (p.toList.map (fun i=>ks.getD i 9)=zfs.filter fun x=>decide (x∈ks))|none=>false
noncomputable def zyG:Nat->List (List Nat)|0=>[[]]|n+1=>zfs.flatMap fun a=>(zyG n).map (a::·)
theorem zk8:∀{ks:List Nat},(∀k∈ks,k<5)->ks∈zyG ks.length
 |[],_=>.head _|a::ks,h=>by
  show _∈zfs.flatMap _;rw[ybW];refine⟨a,?_,yah.mpr ⟨ks,zk8 fun k hk=>h k (.tail _ hk),rfl⟩⟩;have:=h a (.head _)
  match a,this with
  |0,_=>decide|1,_=>decide|2,_=>decide|3,_=>decide|4,_=>decide
def ztd:∀n∈[2,3,4,5],∀ks∈zyG n,(!decide ks.Nodup||zyz ks)=true:=by decide +kernel
def zwa(h:∀k∈ks,k<5)(nd:ks.Nodup)(h2:2<=ks.length)(J:ks.length<=5):zyz ks=true:=by
 have a:ks.length∈[2,3,4,5]:=by
  simp only[yau,ya8,ycR];omega
 have:=ztd _ a _ (zk8 h);rwa[yaz nd]at this
theorem zjy{α:Type}{Q:α->Shared->Prop}(J:∀i j a b C,ks[i]?=some a->ks[j]?=some b->C (decide (a<b)) s->cmp i j C s):∀(t:KasT α) (p:α),zqG ks t=some p->Q p s->t.kasWp cmp Q s
 |.ret a,p,h,q=>by cases h;exact q
 |.ask i j k,p,h,q=>by
  show cmp i j (fun b s'=>(k b).kasWp cmp Q s') s;unfold zqG at h;unfold zAj at h
  cases c:ks[i]? with
  |none=>rw[c]at h;cases h|some a=>
   cases d:ks[j]? with
   |none=>rw[c,d]at h;cases h|some b=>
    rw[c,d]at h;refine J i j a b _ c d ?_;have h':(match some (decide (a<b))with|some true=>zqG ks (k true)|some false=>zqG ks (k false)|none=>none)=some p:=h
    cases hd:decide (a<b)with
    |true=>rw[hd]at h';exact zjy J (k true) p h' q|false=>rw[hd]at h';exact zjy J (k false) p h' q
section
variable{prog:Program}{w:World}{A:Around}{E:Z5}{s:Shared}
def zoW{a:Addr}{vs:List Value}{n:Nat}{P:PySem.Fin->Shared->Prop}(ho:s.heap.get? a=some (seqObj "list" vs.toArray n))(h2:vs.length<2)
  (J:P (.done (.ret .none)) {s with heap:=sortedHeap s.heap a vs vs.toArray}):wpAny (model prog w) A (Builtin.«list.sort» ⟨[.ref a],[]⟩) P E s:=by
 rw[list_sort_plain];refine yaa (listItems_at ho rfl ?_);refine yaa (ydG ho rfl ?_ (by rw[yai,ybH];omega) (yaR _));obtain⟨e,c⟩:∃e,(s.heap.update a (Obj.mapSeq fun _=>#[])).get? a=some (seqObj "list" #[] e):=⟨_,get?_update_seq ho (fun _=>#[])⟩;refine yaa (seqEpoch_at c rfl ?_);refine yaa (wpAny_newTuple ?_ (by show vs.length<=_;rw[ybH];omega));refine yaa (ydh ?_ (yaR _));refine yaZ ?_;have b:(((s.heap.update a (Obj.mapSeq fun _=>#[])).push (seqObj "tuple" vs.toArray 0)).push (seqObj "list" #[] 0)).get? a=some (seqObj "list" #[] e):=yad _ (yad _ c);show wpAny (model prog w) A _ P E {s with heap:=((s.heap.update a (Obj.mapSeq fun _=>#[])).push (seqObj "tuple" vs.toArray 0)).push (seqObj "list" #[] 0)};dsimp only
 have d:vs.toArray.size<2:=by rw[yai];omega
 rw[if_pos d,if_pos d];refine yaa (yaf ?_);rw[StateT.run_pure];refine yaa (yaf ?_);dsimp only;refine yaa (seqEpoch_at b rfl ?_)
 have f:(arrOf (SortSt.mk' general' (vs.toArray.zip vs.toArray) #[] 7 none)).map (·.2)=vs.toArray:=by
  show(vs.toArray.zip vs.toArray).map (·.2)=vs.toArray;apply ydd.mp;simp;exact List.map_snd_zip (yaj _)
 refine yaa (ydG b rfl ?_ (yaR _) (by show((arrOf (SortSt.mk' general' (vs.toArray.zip vs.toArray) #[] 7 none)).map (·.2)).size<=_;rw[f,yai,ybH];omega));simp only[bne_self_eq_false,yaG,ybL];refine yaf ?_;have:=J;rwa[<-f]at this
end
section
variable{prog:Program}{w:World}{K:Type}[DecidableEq K]{knd:KeyKind prog w K}{A:Around}{E:Z5}{s:Shared}
noncomputable def zg2(h:Heap)(a:Addr)(n:Nat)(v:Int):Prop:=∃t u,h.get? a=some {cls:=.type "tuple",data:=.seq #[.int (n:Int) t,.int v u]}
theorem ziW:∀{as:List Addr}{kn:List Nat}{vn:List Int},as.length=kn.length->(∀(j:Nat) (a:Addr),as[j]?=some a->∃n v,kn[j]?=some n/\vn[j]?=some v/\zg2 h a n v)->∃fs,KatTups h (as.map Value.ref) fs/\fs.length=as.length/\∀v∈fs,∃i t,v=.int i t
 |[],_,_,_,_=>⟨[],KatTups.nil,rfl,fun v hv=>nomatch hv⟩|a::as,[],_,c,_=>by cases c
 |a::as,n::kn,vn,c,d=>by
  obtain⟨f,v,_,_,t,u,e⟩:=d 0 a rfl
  obtain⟨fs,h1,h2,g⟩:=ziW (as:=as) (kn:=kn) (vn:=vn.tail) (Nat.succ.inj c) (fun j b hb=>by
   obtain⟨n,v,l,e2,k⟩:=d (j+1) b hb
   exact⟨n,v,l,by rw[List.getElem?_tail];exact e2,k⟩)
  refine⟨.int f t::fs,KatTups.cons e rfl rfl rfl h1,congrArg Nat.succ h2,fun v hv=>?_⟩
  rcases yau.mp hv with rfl|hv
  ·exact⟨_,_,rfl⟩
  ·exact g v hv
def zli{B:Addr}{as:List Addr}{kn:List Nat}{vn:List Int}{n:Nat}{P:PySem.Fin->Shared->Prop}(ho:s.heap.get? B=some (seqObj "list" (as.map Value.ref).toArray n))(J:as.length=kn.length)(U:∀(j:Nat) (a:Addr),as[j]?=some a->∃n v,kn[j]?=some n/\vn[j]?=some v/\zg2 s.heap a n v)
  (nd:kn.Nodup) (h5:∀k∈kn,k<5) (a3:kn.length<=5)
  (hP:∀p:List Nat,p.map (fun i=>kn.getD i 9)=zfs.filter (fun x=>decide (x∈kn))->(∀i∈p,i<kn.length)->P (.done (.ret .none)) {s with heap:=sortedHeap s.heap B (as.map Value.ref) (List.toArray (p.map fun i=>(as.map Value.ref).getD i Value.none))}):
  wpAny (model prog w) A (Builtin.«list.sort» ⟨[.ref B],[]⟩) P E s:=by
 have d:∀p:List Nat,p.map (fun i=>kn.getD i 9)=zfs.filter (fun x=>decide (x∈kn))->∀i∈p,i<kn.length:=by
  intro p U i hi;have:kn.getD i 9∈zfs.filter (fun x=>decide (x∈kn)):=U ▸ yah.mpr ⟨i,hi,rfl⟩
  have S:kn.getD i 9≠9:=fun z=>by
   rw[z]at this;exact absurd (yaY.mp this).1 (by decide)
  rcases Nat.lt_or_ge i kn.length with h|h
  ·exact h
  ·exact absurd (by rw[yar,yaE h];rfl) S
 by_cases h2:2<=kn.length
 ·have c:=zwa h5 nd h2 a3;unfold zyz at c
  cases e:zqG kn (kas_sort kn.length)with
  |none=>rw[e]at c;cases c|some p=>
   rw[e]at c;have c:p.toList.map (fun i=>kn.getD i 9)=zfs.filter (fun x=>decide (x∈kn)):=yag c;obtain⟨fs,t1,t2,t3⟩:=ziW J U;refine zmv (fs:=fs) (p:=p) ho (by rw[yae,J];exact h2) (by rw[yae,J];omega) t1 (by omega) t3 (fun s' G k hg=>?_) (hP p.toList c (d _ c));rw[yae,J];refine zjy (fun i j a b C q o R=>?_) _ p e hg
   have M:i<as.length:=by rw[J];exact(yaq.mp q).1
   have L:j<as.length:=by rw[J];exact(yaq.mp o).1
   obtain⟨X,v1,K,O,t,u,N⟩:=U i as[i] (yac M);obtain⟨W,v2,r1,I,t',V,r3⟩:=U j as[j] (yac L);rw[q]at K;cases K;rw[o]at r1;cases r1;refine zqq (x:=as[i]) (y:=as[j]) (by rw[yar,yax,yac M];rfl) (by rw[yar,yax,yac L];rfl) ⟨_,k _ _ N rfl,rfl,_,rfl⟩ ⟨_,k _ _ r3 rfl,rfl,_,rfl⟩ ?_
   have:lxL a v1 b v2=decide (a<b):=by
    unfold lxL;rw[yde];constructor
    ·rintro(h|⟨h,h'⟩)
     ·omega
     ·have m:a=b:=by omega
      subst m
      have g:i=j:=by
       obtain⟨H,F⟩:=yaq.mp q;obtain⟨D,r⟩:=yaq.mp o;have np:=List.pairwise_iff_getElem.mp nd
       rcases yc4 i j with f|he|l
       ·exact absurd (F.trans r.symm) (np i j H D f)
       ·exact he
       ·exact absurd (r.trans F.symm) (np j i D H l)
      subst g;rw[O]at I;cases I;omega
    ·intro h;left;omega
   rw[this];exact R
 ·refine zoW ho (by rw[yae,J];omega) ?_
  have hlen:kn.length=0\/kn.length=1:=by omega
  rcases hlen with h0|h1
  ·have:kn=[]:=ya1 h0;subst this;have T:as=[]:=ya1 J;subst T;exact hP [] rfl (fun i hi=>nomatch hi)
  ·match kn,as,h1,J with
   |[n],[a],_,_=>
    have Q:=h5 n (.head _);refine hP [0] ?_ (fun i hi=>by rcases yaD.mp hi with rfl;exact Nat.one_pos)
    match n,Q with
    |0,_=>rfl|1,_=>rfl|2,_=>rfl|3,_=>rfl|4,_=>rfl
def zid{r d:Addr}{kvs:List (K×Value)}{ep:Nat}{kn:List Nat}{vn:List Int}{Q:Z5}(hh:A.handled=none)(hv:s.heap.IsItemsView r d)(hm:s.heap.DictAt knd d kvs ep)(U:kn.length=kvs.length)
  (hk:∀(j:Nat) (k:K) (x:Value),kvs[j]?=some (k,x)->∃n v u,kn[j]?=some n/\vn[j]?=some v/\x=.int v u/\∀key,knd.is k key=true->∃t,key=.int ((n:Nat):Int) t)
  (nd:kn.Nodup) (h5:∀k∈kn,k<5) (J:kn.length<=5)
  (hQ:∀(hm h':Heap) (tk e:Nat) (as:List Addr) (p:List Nat),(∀b o,s.heap.get? b=some o->hm.get? b=some o)->(∀b o,hm.get? b=some o->h'.get? b=some o)->as.length=kn.length->(∀a∈as,s.heap.objs.size<a)->(∀(j:Nat) (a:Addr),as[j]?=some a->∃n v,kn[j]?=some n/\vn[j]?=some v/\zg2 hm a n v) →
   as.Pairwise (· < ·)->p.map (fun i=>kn.getD i 9)=zfs.filter (fun x=>decide (x∈kn))->(∀i∈p,i<kn.length)->h'.get? hm.objs.size=some (seqObj "list" (List.toArray (p.map fun i=>(as.map Value.ref).getD i Value.none)) e)->Q (.ref hm.objs.size) {s with heap:=h',toks:=tk}):
  wpAny (model prog w) A (call (.builtin "sorted") [.ref r]) Q E s:=by
 refine ycv kind_sorted plain_sorted entry_sorted (args_sorted1 _) ?_;unfold Builtin.«sorted»;refine yaa (m:=checkCount "sorted" 1 1 _) (yaf ?_)
 have B:kvs.length<=sizeLine:=by rw[<-U,ybH];omega
 refine yaa (kdx_collect (A:=A.in1) (knd:=knd) (kvs:=kvs) (ep:=ep) hh hv hm B fun h' tk as q f z=>?_);refine yaa (ydh ?_ (by rw[yae,f];exact B));have c:(h'.push (seqObj "list" (as.map Value.ref).toArray 0)).get? h'.objs.size=some (seqObj "list" (as.map Value.ref).toArray 0):=yam _ rfl
 have C:∀(j:Nat) (a:Addr),as[j]?=some a->∃n v,kn[j]?=some n/\vn[j]?=some v/\zg2 h' a n v:=by
  intro j a y;obtain⟨key,k,x,H,e2,G⟩:=z.pairs j a y;obtain⟨n,v,u,l,h,rfl,D⟩:=hk j k x H;obtain⟨t,rfl⟩:=D key e2;exact⟨n,v,l,h,t,u,G⟩
 refine yaa (yaZ (yaL slot_list_sort ⟨_,c,rfl⟩ entry_list_sort (zli (s:={s with heap:=h'.push (seqObj "list" (as.map Value.ref).toArray 0),toks:=tk}) (kn:=kn) (vn:=vn) c (f.trans U.symm) (fun j a y=>?_) nd h5 J fun p F p2=>⟨_,rfl,?_⟩) (args_list_sort _)))
 ·obtain⟨n,v,l,h,t,u,e⟩:=C j a y;exact⟨n,v,l,h,t,u,yad _ e⟩
 refine yaf ⟨_,rfl,?_⟩;obtain⟨e,he⟩:=sortedHeap_at (out:=List.toArray (p.map fun i=>(as.map Value.ref).getD i Value.none)) c
 have old:∀b o,h'.get? b=some o->(sortedHeap (h'.push (seqObj "list" (as.map Value.ref).toArray 0)) h'.objs.size (as.map Value.ref) (List.toArray (p.map fun i=>(as.map Value.ref).getD i Value.none))).get? b=some o:=fun b o hb=>by
  have g:b<h'.objs.size:=yao hb;rw[sortedHeap_old (yav g) (by rw[size_push'];exact ybe g)];exact yad _ hb
 exact hQ h' _ tk e as p q old (f.trans U.symm) z.above C z.rise F p2 he
end
end ST
namespace L2
open PySem PySem.Spec PyProof.Rows
section
variable{X:Cx}
noncomputable def kvL(ps:List (Int×Int)):List (Key×V):=ps.foldl (fun acc p=>zfp acc (.inl p.1) (.int p.2)) []
def zsO:(kvL ps).length<=ps.length:=by
 have go:∀(ps:List (Int×Int)) (acc:List (Key×V)),(ps.foldl (fun acc p=>zfp acc (.inl p.1) (.int p.2)) acc).length<=acc.length+ps.length:=by
  intro ps
  induction ps with
  |nil=>intro acc;exact yaj _|cons p ps a=>
   intro acc;have h1:=a (zfp acc (.inl p.1) (.int p.2));have h2:=zc8 acc (.inl p.1:Key) (.int p.2);rw[ycN,yap];omega
 have:=go ps [];rwa[ybP,yb1]at this
def zgm(U:X.calm=true):zdl X (.type "dict") (fun xs H Q=>∃(p:Addr) (qs:List Addr) (ps:List (Int×Int)),xs=[.ref p]/\SqL X.K H p (qs.map V.ref)/\qs.length=ps.length/\(∀(i:Nat) q c,qs[i]?=some q->ps[i]?=some c->SqT X.K H q [.int c.1,.int c.2])/\∀l,H l=none->Q (.ref l) (upd H l (.dK (kvL ps)))):=by
 intro pins s σ H xs us Q I r h;obtain⟨p,qs,ps,rfl,G,x,ht,q⟩:=h;obtain⟨u,rfl,y⟩:=zeN r;cases y;obtain⟨aa,t,pl,E⟩:=I.list G
 have L:aa.length=ps.length:=by rw[<-t.length,yae];exact x
 have e:ps.length<=sizeLine:=by rwa[yae,x]at E
 obtain⟨o,N,J,j,g,f⟩:=pl;obtain⟨c,P,O,M⟩:=o;simp only at j g f;subst j g f
 have m:∀i:Nat,∃b:Value×Value,i<ps.length->s.heap.IsTuple (qs.getD i 0) #[b.1,b.2]/\zaV (.int (ps.getD i (0,0)).1) b.1/\zaV (.int (ps.getD i (0,0)).2) b.2:=by
  intro i
  by_cases hi:i<ps.length
  ·have n:qs[i]?=some (qs.getD i 0):=by rw[yar,yac (by omega)];rfl
   have e2:ps[i]?=some (ps.getD i (0,0)):=by rw[yar,yac hi];rfl
   obtain⟨ts,rt,pt,_⟩:=I.tuple (ht i _ _ n e2)
   cases rt with
   |cons r1 rt=>
    cases rt with
    |cons B rt=>cases rt;exact⟨(_,_),fun _=>⟨pt,r1,B⟩⟩
  ·exact⟨(.none,.none),fun z=>absurd z hi⟩
 obtain⟨b,d⟩:=Classical.axiomOfChoice m
 have hits:∀(i:Nat) (v:Value),aa.toArray[i]?=some v->v=.ref (qs.getD i 0):=by
  intro i v hv;rw[ydb]at hv;have hi:i<aa.length:=(yaq.mp hv).1
  have n:(qs.map V.ref)[i]?=some (.ref (qs.getD i 0)):=by rw[yax,yar,yac (by omega)];rfl
  obtain⟨u,F,A⟩:=t.get n;rw[F]at hv;cases hv;exact A
 have hsz:aa.toArray.size=ps.length:=by rw[yai];exact L
 refine zlY (knd:=zaz X.prog X.w) (fun i=>qs.getD i 0) (fun i=>(.inl (ps.getD i (0,0)).1:Key)) (fun i=>(b i).1) (fun i=>(b i).2) (I.ok.hd U) J hits (fun i hi=>zfX (k:=.inl _) (d i (hsz ▸ hi)).2.1) (fun i hi=>(d i (hsz ▸ hi)).1) (hsz ▸ e) fun h' tk D k=>?_
 have rel:∀i,i<=ps.length->KV (kvL (ps.take i)) (ST.zqI (fun i=>(.inl (ps.getD i (0,0)).1:Key)) (fun i=>(b i).2) i):=by
  intro i
  induction i with
  |zero=>intro _;exact .nil|succ i C=>
   intro hi
   have e2:ps[i]?=some (ps.getD i (0,0)):=by rw[yar,yac (by omega)];rfl
   rw[ST.zfN,List.take_succ,e2];unfold kvL;rw[ydB];exact(C (by omega)).put _ (d i (by omega)).2.2
 have a:=rel ps.length (yaj _);rw[ycx]at a;rw[hsz]at D;refine⟨.ref s.heap.objs.size,_,I.laid (t':=tk) (o:=.dK (kvL ps)) k (yaj _) ⟨yas zsO e,?_,_,a,D⟩,rfl,q _ (I.hok.fresh (yaj _))⟩;exact beq_false_of_ne (ya6 I.big)
end
open PySem PySem.Spec PySem.W PyProof.Rows ST
section
variable{X:Cx}{pins:Z3}{σ:St}{s:Shared}
def zwr(H:Hp):List (Addr×Nat×Int)->Hp|[]=>H|x::l=>zwr (upd H x.1 (.tup [.int (x.2.1:Int),.int x.2.2])) l
theorem zh7(h1:X.s₀.heap.objs.size<=n0)(h2:X.env.locals<n0)(U:∀x c,X.env.cells.lookup x=some c->c<n0)(J:∀p∈X.pn++pins,p.1<n0):∀(l:List (Addr×Nat×Int)) (H:Hp),Inv X pins σ H s->(∀x∈l,n0<=x.1/\H x.1=none/\zg2 s.heap x.1 x.2.1 x.2.2)->(l.map (·.1)).Nodup->Inv X pins σ (zwr H l) s
 |[],H,I,_,_=>I|x::l,H,I,d,nd=>by
  rw[yaw,ybp]at nd;obtain⟨a,e2,t,u,g⟩:=d x (.head _);refine zh7 h1 h2 U J l _ (I.track e2 (yas h1 a) (ya6 (yat h2 a)) (fun z c q=>yav (yat (U z c q) a)) (fun p e=>yav (yat (J p e) a)) ?_) (fun y b=>?_) nd.2
  ·exact⟨by show(2:Nat)<=_;decide,[.int (x.2.1:Int) t,.int x.2.2 u],.cons ⟨t,rfl⟩ (.cons ⟨u,rfl⟩ .nil),_,g,rfl,_,rfl,rfl⟩
  ·obtain⟨f1,f2,f⟩:=d y (.tail _ b);refine⟨f1,?_,f⟩;rw[zai (fun z=>nd.1 (yah.mpr ⟨y,b,z⟩))];exact f2
noncomputable def zjZ(l a:Addr)(h:Heap):Prop:=h.IsItemsView l a
noncomputable def ztL(i:Nat):TE:=fun σ H Q=>∃(a:Addr) (kvs:List (Key×V)),σ[i]?=some (some (.ref a))/\H a=some (.dK kvs)/\∀l,H l=none->Q (.ref l) (upd H l (.ext (zjZ l a)))
def zpn(U:PE X (.Name x p) (zwC i))(hb:attributeBase (.Name x p) "items" X.env (eval (.Name x p) X.env)=eval (.Name x p) X.env)(J:(ap.endLine==cp.line)=true):PE X (.Call (.Attribute (.Name x p) "items" ap) [] [] cp) (ztL i):=by
 intro pins s σ H Q I h;obtain⟨a,kvs,l,e2,q⟩:=h;refine yc1 hb rfl J ycc PySem.F.slot_dict_items PySem.F.type_dict_items (thn (U pins s σ H (fun v H1=>v=.ref a/\H1=H) I ⟨_,l,rfl,rfl⟩) fun u s1 ⟨y,H1,c,d,g,j⟩=>?_);subst g j;obtain rfl:u=Value.ref a:=d;obtain⟨_,hd,vs,_,dd⟩:=zgh c.hok (.inl e2);refine⟨dd.typeIs,fun b q=>?_,?_⟩
 ·cases q;obtain⟨ob,_,_,h1,h2,_⟩:=dd;exact⟨ob,h1,h2.2.1⟩
 refine ybw rfl (PySem.evalArgs_none ?_);refine ycF PySem.F.slot_dict_items dd.typeIs PySem.F.entry_dict_items (PySem.F.args_dict_items_1 _) (meets_dict_items (zaz X.prog X.w) a hd) ⟨⟨vs,dd⟩,?_⟩;refine⟨.ref s1.heap.objs.size,_,c.laid (t':=s1.toks) (o:=.ext (zjZ s1.heap.objs.size a)) (fun _ _ e=>yad _ e) (yaj _) ?_,rfl,q _ (c.hok.fresh (yaj _))⟩;refine⟨⟨_,yam _ rfl,rfl,rfl⟩,⟨_,yam _ rfl⟩,fun h1 h2 x k=>?_⟩;obtain⟨o,f,r⟩:=x;exact⟨o,k o f,r⟩
noncomputable def kvN(ps:List (Nat×Int)):List (Key×V):=ps.map fun x=>(.inl (x.1:Int),.int x.2)
def zpL(r:KV (kvN ps) vs):vs.length=ps.length/\∀(j:Nat) (k:Key) (x:Value),vs[j]?=some (k,x)->∃n v u,(ps.map (·.1))[j]?=some n/\(ps.map (·.2))[j]?=some v/\x=.int v u/\k=.inl (n:Int):=by
 unfold KV kvN at r
 induction ps generalizing vs with
 |nil=>cases r;exact⟨rfl,fun j k x h=>by cases h⟩
 |cons p ps d=>
  rw[yaw]at r
  cases r with
  | @cons a b as bs h t=>
   obtain⟨l,g⟩:=d t;refine⟨congrArg Nat.succ l,fun j k x c=>?_⟩
   cases j with
   |zero=>
    cases c;obtain⟨h1,u,h2⟩:=h;exact⟨p.1,p.2,u,rfl,rfl,h2,h1.symm⟩
   |succ j=>exact g j k x c
def ze9(U:X.calm=true):zdl X (.builtin "sorted") (fun xs H Q=>∃(v a:Addr) (ps:List (Nat×Int)),xs=[.ref v]/\H v=some (.ext (zjZ v a))/\H a=some (.dK (kvN ps))/\(ps.map (·.1)).Nodup/\(∀k∈ps.map (·.1),k<5)/\ps.length<=5 ∧
  ∀(as:List Addr) (p:List Nat) (B:Addr),as.length=ps.length->as.Nodup->(∀a∈as,H a=none/\a≠B)->H B=none->p.map (fun i=>(ps.map (·.1)).getD i 9)=zfs.filter (fun x=>decide (x∈ps.map (·.1)))->(∀i∈p,i<ps.length) →
   Q (.ref B) (upd (zwr H (as.zip ps)) B (.lst (p.map fun i=>.ref (as.getD i 0))))):=by
 intro pins s σ H xs us Q I r h;obtain⟨v,a,ps,rfl,hv,d,nd,O,z,q⟩:=h;obtain⟨u,rfl,F⟩:=zeN r;cases F;obtain⟨y,_⟩:=I.hok v _ hv;obtain⟨_,hd,vs,rel,dd⟩:=zgh I.hok (.inl d);obtain⟨ep,R⟩:=dd.dictAt;obtain⟨lv,J⟩:=zpL rel;refine zid (knd:=zaz X.prog X.w) (kn:=ps.map (·.1)) (vn:=ps.map (·.2)) (I.ok.hd U) y R (by rw[yae,lv]) (fun j k x b=>?_) nd O (by rw[yae];exact z) fun hm h' tk e as p k1 k2 al ab pr rise C p2 N=>?_
 ·obtain⟨n,w,u,m,e2,f,rfl⟩:=J j k x b
  exact⟨n,w,u,m,e2,f,fun key hk=>by
   rcases zaI (show zjI (.inl (n:Int)) key=true from hk)with⟨i,t,e,rfl⟩|⟨x,t,e,_⟩
   ·cases e;exact⟨t,rfl⟩
   ·cases e⟩
 ·have g:as.length=ps.length:=by rw[al,yae]
  have E:Inv X pins σ H {s with heap:=hm,toks:=tk}:=I.kept k1
  have pz:∀x∈as.zip ps,s.heap.objs.size<=x.1/\H x.1=none/\zg2 hm x.1 x.2.1 x.2.2:=by
   intro x L;obtain⟨j,b⟩:=ycu L;obtain⟨h1,h2⟩:=List.getElem?_zip_eq_some.mp b;have hle:=ycl (ab x.1 (ybt h1));obtain⟨n,w,m,e2,f⟩:=pr j x.1 h1;rw[yax,h2]at m e2;cases m;cases e2;exact⟨hle,I.hok.fresh hle,f⟩
  have P:(as.zip ps).map (·.1)=as:=List.map_fst_zip (ydt g);have T:=zh7 (n0:=s.heap.objs.size) I.sz I.lt (fun x c e=>by obtain⟨v,S⟩:=I.cell x c e;exact S.lt) (fun p M=>yao (I.pin p M).1) (as.zip ps) H E pz (by rw[P];exact List.Pairwise.imp (fun h=>yav h) rise)
  have A:∀a∈as,a<hm.objs.size:=by
   intro a d;obtain⟨j,b⟩:=ycu d;obtain⟨n,w,_,_,t,u,f⟩:=pr j a b;exact yao f
  have G:=q as p hm.objs.size g (List.Pairwise.imp (fun h=>yav h) rise) (fun a d=>⟨I.hok.fresh (ycl (ab a d)),yav (A a d)⟩) (E.hok.fresh (yaj _)) C (fun i hi=>by have:=p2 i hi;rwa[yae]at this);refine⟨.ref hm.objs.size,_,T.laid (h':=h') (t':=tk) (o:=.lst (p.map fun i=>.ref (as.getD i 0))) k2 (yaj _) ⟨?_,p.map fun i=>(as.map Value.ref).getD i Value.none,e,?_,N⟩,rfl,G⟩
  ·have:=congrArg List.length C;rw[yae]at this;rw[yae,this];exact yas (yaW _ _) (by decide)
  ·have go:∀l:List Nat,(∀i∈l,i<as.length)->Vals (l.map fun i=>V.ref (as.getD i 0)) (l.map fun i=>(as.map Value.ref).getD i Value.none):=by
    intro l
    induction l with
    |nil=>intro _;exact .nil|cons i l K=>
     intro D;refine .cons ?_ (K fun j b=>D j (.tail _ b));have hi:=D i (.head _);show(as.map Value.ref).getD i Value.none=Value.ref (as.getD i 0);rw[yar,yar,yax,yac hi];rfl
   exact go p fun i hi=>by have:=p2 i hi;rw[yae]at this;omega
end
end L2
namespace S2
open PySem PySem.Spec PyProof.Rows L2
noncomputable def dsI(ps:List (Int×Int)):List (D×D):=ps.map fun p=>(D.int p.1,D.int p.2)
noncomputable def kvI(ps:List (Int×Int)):List (Key×V):=ps.map fun p=>((.inl p.1:Key),V.int p.2)
noncomputable def zoH:List (D×D)->Option (List (Int×Int))
 |[]=>some []|(.int a,.int b)::ds=>(zoH ds).map ((a,b)::·)|_=>none
theorem zm4:∀{ds:List (D×D)}{ps:List (Int×Int)},zoH ds=some ps->ds=dsI ps
 |[],ps,h=>by cases h;rfl
 |(.int a,.int b)::ds,ps,h=>by
  cases e:zoH ds with
  |none=>rw[show zoH ((.int a,.int b)::ds)=(zoH ds).map ((a,b)::·)from rfl,e]at h;cases h|some qs=>
   rw[show zoH ((.int a,.int b)::ds)=(zoH ds).map ((a,b)::·)from rfl,e]at h;cases h;rw[zm4 e];rfl
noncomputable def zl5(ps:List (Int×Int))(k v:Int):List (Int×Int):=if(ps.any fun p=>decide (p.1=k))then ps.map (fun p=>if p.1=k then(p.1,v)else p)else ps++[(k,v)]
noncomputable def zb1(ps:List (Int×Int))(k:Int):Option Int:=(ps.find? fun p=>decide (p.1=k)).map (·.2)
def znD:kvI (zl5 ps k v)=zfp (kvI ps) (.inl k) (.int v):=by
 have b:((kvI ps).any fun a=>decide (a.1=(.inl k:Key)))=ps.any fun p=>decide (p.1=k):=by
  unfold kvI;rw[List.any_map];congr 1;funext p;show decide ((.inl p.1:Key)=.inl k)=decide (p.1=k);rw[yde];exact⟨fun h=>Sum.inl.inj h,fun h=>by rw[h]⟩
 unfold zl5 zfp;rw[b];split
 ·unfold kvI;rw[yay,yay];apply yaC;intro p _;show(fun x:Int×Int=>((.inl x.1:Key),V.int x.2)) (if p.1=k then(p.1,v)else p)=if(.inl p.1:Key)=.inl k then((.inl p.1:Key),V.int v)else(.inl p.1,.int p.2)
  by_cases h:p.1=k
  ·rw[if_pos h,if_pos (by rw[h])]
  ·rw[if_neg h,if_neg (fun z=>h (Sum.inl.inj z))]
 ·unfold kvI;rw[ycp];rfl
theorem znC:∀ps:List (Int×Int),zfo (kvI ps) (.inl k)=(zb1 ps k).map V.int
 |[]=>rfl|p::ps=>by
  show zfo ((.inl p.1,.int p.2)::kvI ps) (.inl k)=_;unfold zb1;rw[ya3]
  by_cases h:p.1=k
  ·rw[zcZ (by show(.inl p.1:Key)=_;rw[h]),yaz h];rfl
  ·rw[zc0 (fun z=>h (Sum.inl.inj z)),yaB h];exact znC ps
theorem zrR:∀{ps:List (Int×Int)},ShdK cl w (kvI ps) (dsI ps)
 |[]=>.nil|p::ps=>.consI (.int p.2) (zrR (ps:=ps))
theorem zqY:∀{ps:List (Int×Int)}{kvs:List (Key×V)},ShdK cl w kvs (dsI ps)->kvs=kvI ps
 |[],_,.nil=>rfl|p::ps,_,.consI h t=>by
  cases h;rw[zqY t];rfl
noncomputable def zgr(i:Nat)(ρ:Env):Option (List (Int×Int)):=match ρ[i]? with|some (some (true,.dic ds))=>zoH ds|_=>none
def Rel.dcn(R:Rel cl B σ w ρ S)(h:zgr i ρ=some ps):∃a,σ[i]?=some (some (.ref a))/\w.ow a=some (.slot i)/\w.H a=some (.dK (kvI ps)):=by
 unfold zgr at h;split at h
 ·rename_i ds hd;obtain rfl:=zm4 h;obtain⟨v,b,p,o,rfl,h1,h2,t⟩:=R.slots i true _ hd
  cases t with
  |dicK t=>exact⟨p,b,h1,by rw[h2,zqY t]⟩
 ·cases h
noncomputable def psL(ps:List (Int×Int)):List (Int×Int):=ps.foldl (fun acc p=>zl5 acc p.1 p.2) []
def zvp:kvL ps=kvI (psL ps):=by
 have go:∀(ps acc:List (Int×Int)),ps.foldl (fun acc p=>zfp acc (.inl p.1) (V.int p.2)) (kvI acc)=kvI (ps.foldl (fun acc p=>zl5 acc p.1 p.2) acc):=by
  intro ps
  induction ps with
  |nil=>intro acc;rfl|cons p ps a=>
   intro acc;rw[ycN,ycN,<-znD];exact a _
 exact go ps []
noncomputable def zm6:List D->Option (List (Int×Int))
 |[]=>some []|.tup [.int a,.int b]::l=>(zm6 l).map ((a,b)::·)|_=>none
noncomputable def zzq:D->Option (List (Int×Int))|.lst l=>zm6 l|_=>none
def zvZ(d:D):Option D:=(zzq d).map fun ps=>.dic (dsI (psL ps))
section
variable{X:Cx}{cl:Cf}{E:St->XK}{own:Bool}{a b e:Expr}{f g fe fk:Fe}{pos pos':Pos}{i:Nat}{x:Str}{ap cp:Pos}
theorem zgK:∀{l:List D}{ps:List (Int×Int)}{xs:List V},zm6 l=some ps->Shds cl w xs l->∃qs:List Addr,xs=qs.map V.ref/\qs.length=ps.length/\∀(i:Nat) q c,qs[i]?=some q->ps[i]?=some c->w.H q=some (.tup [.int c.1,.int c.2])
 |[],ps,xs,e,r=>by
  cases e;cases r;exact⟨[],rfl,rfl,fun i q c z=>by cases z⟩
 |.tup [.int a,.int b]::l,ps,xs,e,r=>by
  cases d:zm6 l with
  |none=>rw[show zm6 (.tup [.int a,.int b]::l)=(zm6 l).map ((a,b)::·)from rfl,d]at e;cases e|some g=>
   rw[show zm6 (.tup [.int a,.int b]::l)=(zm6 l).map ((a,b)::·)from rfl,d]at e;cases e
   cases r with
   |cons r1 f=>
    obtain⟨qs,rfl,j,h⟩:=zgK d f
    cases r1 with
    |tup ep k rt=>
     cases rt with
     |cons t1 t2=>
      cases t2 with
      |cons t2 t3=>
       cases t3;cases t1;cases t2;refine⟨_::qs,rfl,congrArg Nat.succ j,fun i q c h1 h2=>?_⟩
       cases i with
       |zero=>cases h1;cases h2;exact ep|succ i=>exact h i q c h1 h2
def zul(hc:X.calm=true)(U:Gl X "dict")(J:X.mg "dict"=none)(he:PE X e (tE cl E f))(hs:starEach [e] X.env=[(false,eval e X.env)]):
  PE X (.Call (.Name "dict" p2) [e] [] pos) (tN cl E (eUn zvZ f)):=by
 refine PE.imp (zdv (zgm hc) U J (by decide +kernel) (zcb he zeo hs) (he:=hs) (af:=rfl)) ?_;rintro σ H Q ⟨B,w,ρ,S,rfl,R,q⟩;refine⟨B,w,ρ,S,rfl,R,?_⟩;unfold eUn at q
 cases hf:f ρ S with
 |bad=>rw[hf]at q;exact q.elim|exc c S1=>rw[hf]at q;simp only[zah,hf,Out.bind];exact q|ok d S1=>
  rw[hf]at q;simp only[zah,hf,Out.bind];intro vs g n o sh;dsimp only[Out.bind]at q;unfold zvZ at q
  cases hk:zzq d with
  |none=>rw[hk]at q;exact q.elim|some ps=>
   rw[hk]at q
   cases d with
   |lst l=>
    cases sh with
    |cons h1 a=>
     cases a
     cases h1 with
     |lst ep k r=>
      obtain⟨qs,rfl,a,j⟩:=zgK hk r;refine⟨_,qs,ps,rfl,SqL.of ep,a,fun i q c m e2=>SqT.of (j i q c m e2),fun h b=>?_⟩;rw[zvp];exact q h _ g n o b (.dicK zrR)
   |_=>cases hk
def zoe(i:Nat)(f g:Fe):Fe:=fun ρ S=>match zgr i ρ with
 |some ps=>(f ρ S).bind fun k S1=>(g ρ S1).bind fun z S2=>(match k with|.int j=>.ok (((zb1 ps j).map D.int).getD z) S2|_=>.bad)
 |none=>.bad
def zmI(i:Nat)(fk fe:Fe):Fs:=fun ρ S=>match zgr i ρ with
 |some ps=>(match fe ρ S with
  |.ok d S1=>(match fk ρ S1 with
   |.ok k S2=>(match k,d with
    |.int j,.int v=>if zax ps.length then .nx (ρ.set i (some (true,.dic (dsI (zl5 ps j v))))) S2 else .bad
    |_,_=>.bad)
   |.exc c S2=>.ex c ρ S2|.bad=>.bad)
  |.exc c S1=>.ex c ρ S1|.bad=>.bad)
 |_=>.bad
def zr0(U:X.A.units+1<cLine)(hN:X.N[i]?=some x)(hv:Vis X.env.scope x)(hd:(x==("__debug__":Str))=false)(hcd:(x==("__classdict__":Str))=false)(hf:PE X a (tE cl E f))(hg:PE X b (tE cl E g))(h1:zbb a=true)(h2:zbb b=true)(J:(ap.endLine==cp.line)=true):
  PE X (.Call (.Attribute (.Name x pos') "get" ap) [a,b] [] cp) (tE cl E (zoe i f g)):=by
 refine PE.imp (zkB U (zaQ hN hv hd hcd) hf hg ⟨rfl,zga (by simp[h1,h2]) (by simp),J,by rw[zaG h1,zaG h2];rfl⟩) ?_;rintro σ H Q ⟨B,w,ρ,S,rfl,R,q⟩;unfold zoe at q
 cases hs:zgr i ρ with
 |none=>rw[hs]at q;exact q.elim|some ps=>
  rw[hs]at q;obtain⟨ad,s,h1,h2⟩:=R.dcn hs;refine⟨_,s,ad,rfl,.inl ⟨_,.inl h2⟩,B,w,ρ,S,rfl,R,?_⟩
  cases e:f ρ S with
  |bad=>rwa[e]at q|exc c S1=>rwa[e]at q|ok k S1=>
   rw[e]at q;dsimp only[Out.bind]at q;intro y u D p v;refine⟨B,u,ρ,S1,rfl,D,?_⟩
   cases d:g ρ S1 with
   |bad=>rwa[d]at q|exc c S2=>rw[d]at q;exact fun l R2 m=>q l R2 (p.trans m)|ok z S2=>
    rw[d]at q;dsimp only at q;intro t l R2 m sz
    cases k with
    |int j=>
     cases v;dsimp only at q;obtain⟨C,h,_,o⟩:=R2.dcn hs;rw[s]at h;cases h;refine⟨_,.inl ⟨_,.inl j,.inl o,rfl,rfl⟩,?_⟩;rw[znC]
     cases r:zb1 ps j with
     |none=>rw[r]at q;exact q t l R2 (p.trans m) sz|some n=>rw[r]at q;exact q (.int n) l R2 (p.trans m) (.int n)
    |_=>exact q.elim
def zrA(hu:X.A.units+1<cLine)(hN:X.N[i]?=some x)(hv:Vis X.env.scope x)(hd:(x==("__debug__":Str))=false)(hcd:(x==("__classdict__":Str))=false)(hk:PE X a (tE cl E fk))(he:PE X e (tE cl E fe))(sw:swapsWithSole [.Subscript (.Name x pos') a p3] e pos.line X.env=pure false)(J:swappedStores [.Subscript (.Name x pos') a p3] e X.env=pure none)
  (ha:∀v,assign (.Subscript (.Name x pos') a p3) X.env v=(do
   let ov ← holding [v] (eval (.Name x pos') X.env)
   let U ← holding [v,ov] (eval a X.env)
   standAt p3
   holding [v,ov,U] (setItem ov U v)
   release [v,ov,U] [])):
  PS X (.Assign [.Subscript (.Name x pos') a p3] e pos) (tS cl E own (zmI i fk fe)):=by
 refine PS.imp (zm3 he (zqM (zaQ hN hv hd hcd) hk (zkk hu) ha) sw J rfl) ?_;rintro G σ H ⟨B,w,ρ,S,rfl,R,q⟩;unfold zmI at q
 cases hs:zgr i ρ with
 |none=>rw[hs]at q;exact q.elim|some ps=>
  rw[hs]at q;refine⟨B,w,ρ,S,rfl,R,?_⟩
  cases f:fe ρ S with
  |bad=>rwa[f]at q|exc c S1=>rw[f]at q;exact fun w' m o=>q σ w' m o|ok d S1=>
   rw[f]at q;intro v t r s z;obtain⟨p,l,_,_⟩:=r.dcn hs;refine⟨_,l,B,t,ρ,S1,rfl,r,?_⟩;dsimp only at q
   cases b:fk ρ S1 with
   |bad=>rwa[b]at q|exc c S2=>rw[b]at q;exact fun w' m o=>q σ w' m (s.trans o)|ok k S2=>
    rw[b]at q;intro y D R2 C u;dsimp only at q
    cases k with
    |int j=>
     cases d with
     |int n=>
      dsimp only at q;split at q
      ·rename_i h;cases u;cases z;obtain⟨F,g,h1,h2⟩:=R2.dcn hs;rw[l]at g;cases g;refine⟨p,_,rfl,zre.k (k:=.inl j) h2 (by unfold kvI;rw[yae];exact zdN h),?_⟩;rw[<-znD];exact q σ _ (R2.mut (d0:=.non) l h1 (.dicK zrR)) ((s.trans C).trans (zeZ (by rw[h1];exact yaI _)))
      ·exact q.elim
     |_=>exact q.elim
    |_=>exact q.elim
end
open PySem PySem.Spec PyProof.Rows L2 ST
noncomputable def prI(x:Nat×Int):D:=.tup [.int (x.1:Int),.int x.2]
def zqs(w:Wd):List (Addr×Nat×Int)->Wd|[]=>w|x::l=>zqs (w.add x.1 (.tup [.int (x.2.1:Int),.int x.2.2])) l
theorem zla:∀(l:List (Addr×Nat×Int)) (w:Wd),Rel cl B σ w ρ S->(∀x∈l,w.H x.1=none)->(l.map (·.1)).Nodup->Rel cl B σ (zqs w l) ρ S/\Fut w (zqs w l)/\(zqs w l).H=zwr w.H l/\(∀b,(∀x∈l,x.1≠b)->(zqs w l).H b=w.H b)/\∀x∈l,Shd cl (zqs w l) (.ref x.1) (prI x.2)
 |[],w,R,_,_=>⟨R,Fut.refl _,rfl,fun _ _=>rfl,fun x c=>nomatch c⟩|x::l,w,R,c,nd=>by
  rw[yaw,ybp]at nd;have h0:=c x (.head _);have e:=zaq (w:=w) h0 (.tup [V.int (x.2.1:Int),.int x.2.2])
  obtain⟨r1,d,r3,g,f⟩:=zla l (w.add x.1 (.tup [.int (x.2.1:Int),.int x.2.2])) (R.grow e) (fun y a=>by
   show upd w.H x.1 _ y.1=none;rw[zai (fun z=>nd.1 (yah.mpr ⟨y,a,z⟩))]
   exact c y (.tail _ a)) nd.2
  refine⟨r1,e.fut.trans d,r3,fun b hb=>?_,fun y a=>?_⟩
  ·rw[show zqs w (x::l)=zqs (w.add x.1 _) l from rfl,g b fun y a=>hb y (.tail _ a)];exact zai (fun z=>hb x (.head _) z.symm)
  ·rcases yau.mp a with rfl|a
   ·exact(Shd.newT h0 (.cons (.int _) (.cons (.int _) .nil))).up d
   ·exact f y a
def zt4(ps:List (Int×Int)):Option (List D):=
 if ps.all (fun p=>decide (0<=p.1/\p.1<5))&&decide ((ps.map (·.1)).Nodup)&&decide (ps.length<=5)then some ((zfs.filter fun n:Nat=>decide ((n:Int)∈ps.map (·.1))).map fun n:Nat=>prI (n,(zb1 ps (n:Int)).getD 0))else none
def zvY(i:Nat):Fe:=fun ρ S=>match zgr i ρ with
 |some ps=>(match zt4 ps with|some l=>.ok (.lst l) S|none=>.bad)
 |none=>.bad
section
variable{X:Cx}{cl:Cf}{E:St->XK}{i:Nat}{x:Str}{p px ap cp pos:Pos}
theorem zkN:∀{ps:List (Int×Int)}{j:Nat}{a b:Int},(ps.map (·.1)).Nodup->ps[j]?=some (a,b)->zb1 ps a=some b
 |q::ps,0,a,b,nd,h=>by
  cases h;unfold zb1;rw[ya3,yaz rfl];rfl
 |q::ps,j+1,a,b,nd,h=>by
  rw[yaw,ybp]at nd;have hm:(a,b)∈ps:=ybt h;have c:¬ q.1=a:=fun z=>nd.1 (z ▸ yah.mpr ⟨(a,b),hm,rfl⟩)
  unfold zb1;rw[ya3,yaB c];exact zkN nd.2 h
def zqF(U:X.calm=true)(hg:Gl X "sorted")(hm:X.mg "sorted"=none)(hN:X.N[i]?=some x)(hv:Vis X.env.scope x)(hd:(x==("__debug__":Str))=false)(hcd:(x==("__classdict__":Str))=false)(J:(ap.endLine==cp.line)=true):
  PE X (.Call (.Name "sorted" p) [.Call (.Attribute (.Name x px) "items" ap) [] [] cp] [] pos) (tN cl E (zvY i)):=by
 refine PE.imp (zcw (ze9 U) hg hm (by decide +kernel) (zbg (zpn (zaQ hN hv hd hcd) rfl J) zcx)) ?_;rintro σ H Q ⟨B,w,ρ,S,rfl,R,q⟩;unfold zvY at q
 cases hs:zgr i ρ with
 |none=>rw[hs]at q;exact q.elim|some ps=>
  rw[hs]at q;dsimp only at q;obtain⟨ad,e1,_,h2⟩:=R.dcn hs
  cases f:zt4 ps with
  |none=>rw[f]at q;exact q.elim|some l=>
   rw[f]at q;dsimp only at q;unfold zt4 at f;split at f
   ·rename_i hb;rw[yab,yab,yaT,yaT,ybj]at hb;obtain⟨⟨c,nd⟩,t⟩:=hb;cases f
    have T:kvN (ps.map fun y=>(y.1.toNat,y.2))=kvI ps:=by
     unfold kvN kvI;rw[yay];apply yaC;intro y d;have:=yag (c y d);show((.inl ((y.1.toNat:Nat):Int):Key),V.int y.2)=(.inl y.1,.int y.2);rw[ybS this.1]
    have r:(ps.map fun y=>(y.1.toNat,y.2)).map (·.1)=ps.map fun y=>y.1.toNat:=by rw[yay];rfl
    refine⟨ad,kvI ps,e1,h2,fun v g=>⟨v,ad,ps.map fun y=>(y.1.toNat,y.2),rfl,zat,?_,?_,?_,by rw[yae];exact t,fun as pm s al and' fr P K p2=>?_⟩⟩
    ·rw[zai (zam h2 g),h2,T]
    ·rw[r];unfold List.Nodup at nd ⊢;rw[List.pairwise_map]at nd ⊢;refine List.Pairwise.imp_of_mem (fun {a b} O u h z=>h ?_) nd;have h1:=(yag (c a O)).1;have h3:=(yag (c b u)).1;omega
    ·rw[r];intro k hk;obtain⟨y,d,rfl⟩:=yah.mp hk;have:=yag (c y d);omega
    ·have C:as.length=ps.length:=by rw[al,yae]
     have o:=zaq (w:=w) g (.ext (zjZ v ad));have A:((as.zip (ps.map fun y=>(y.1.toNat,y.2))).map (·.1))=as:=List.map_fst_zip (ydt al);obtain⟨r1,I,r3,G,F⟩:=zla (as.zip (ps.map fun y=>(y.1.toNat,y.2))) (w.add v (.ext (zjZ v ad))) (R.grow o) (fun y d=>(fr y.1 (A ▸ yah.mpr ⟨y,d,rfl⟩)).1) (by rw[A];exact and');show Q (.ref s) (upd (zwr (w.add v (.ext (zjZ v ad))).H _) s _);rw[<-r3];refine q s _ _ r1 (o.fut.trans I) ?_ (.lst ?_)
     ·rw[G s fun y d=>(fr y.1 (A ▸ yah.mpr ⟨y,d,rfl⟩)).2];exact P
     ·have Y:(zfs.filter fun n:Nat=>decide ((n:Int)∈ps.map (·.1)))=pm.map fun i=>((ps.map fun y=>(y.1.toNat,y.2)).map (·.1)).getD i 9:=by
       rw[K,r];apply List.filter_congr;intro n _;rw[yde,yah,yah];constructor
       ·rintro⟨y,d,e⟩;exact⟨y,d,by omega⟩
       ·rintro⟨y,d,e⟩;have:=yag (c y d);exact⟨y,d,by omega⟩
      rw[Y,yay];generalize hW:zqs (w.add v (.ext (zjZ v ad))) (as.zip (ps.map fun y=>(y.1.toNat,y.2)))=W at*
      have go:∀l:List Nat,(∀i∈l,i<ps.length)->Shds cl W (l.map fun i=>V.ref (as.getD i 0)) (l.map ((fun n:Nat=>prI (n,(zb1 ps (n:Int)).getD 0))∘fun i=>((ps.map fun y=>(y.1.toNat,y.2)).map (·.1)).getD i 9)):=by
       intro l
       induction l with
       |nil=>intro _;exact .nil|cons i l L=>
        intro D;refine .cons ?_ (L fun j M=>D j (.tail _ M));have hi:=D i (.head _)
        have m:i<as.length:=by rw[C];exact hi
        have ep:ps[i]?=some ps[i]:=yac hi;have e0:=yag (c ps[i] (ybK hi));have z:=F (as[i],ps[i].1.toNat,ps[i].2) (ybt (i:=i) (List.getElem?_zip_eq_some.mpr ⟨yac m,by rw[yax,ep];rfl⟩))
        have ea:as.getD i 0=as[i]:=by rw[yar,yac m];rfl
        have Z:((ps.map fun y=>(y.1.toNat,y.2)).map (·.1)).getD i 9=ps[i].1.toNat:=by rw[r,yar,yax,ep];rfl
        show Shd cl W (.ref (as.getD i 0)) (prI ((((ps.map fun y=>(y.1.toNat,y.2)).map (·.1)).getD i 9),(zb1 ps ((((ps.map fun y=>(y.1.toNat,y.2)).map (·.1)).getD i 9:Nat):Int)).getD 0));rw[ea,Z,ybS e0.1,zkN (a:=ps[i].1) (b:=ps[i].2) nd ep];exact z
      exact go pm fun i hi=>by have:=p2 i hi;rwa[yae]at this
   ·cases f
end
def eSm(g:Str->D->Option D)(fo f:Fe):Fe:=fun ρ S=>(fo ρ S).bind fun d S1=>match d with|.str x=>(f ρ S1).bind fun d S2=>Out.of (g x d) S2|_=>.bad
noncomputable def MtS(X:Cx)(cl:Cf)(id:String)(g:Str->D->Option D):Prop:=MtR X id fun x vs H Q=>∃(y:Str) (w:Wd) (d:D) (v:V) (r:D),w.H=H/\x=.str y/\vs=[v]/\Shd cl w v d/\g y d=some r/\∀a w',Grow w w'->Shd cl w' a r->Q a w'.H
section
variable{X:Cx}{cl:Cf}{E:St->XK}{o e e2:Expr}{fo f f2:Fe}
def zxt{name:Str}{id:String}{g:Str->D->Option D}{ap cp:Pos}(slot:Slot "str" name id)(J:typeOf (.builtin id)=pure (.type "method_descriptor"))(hm:MtS X cl id g)(ho:PE X o (tE cl E fo))(he:PE X e (tE cl E f))(af:zbb e=true)
  (hb:attributeBase o name X.env (eval o X.env)=eval o X.env) (U:(ap.endLine==cp.line)=true):PE X (.Call (.Attribute o name ap) [e] [] cp) (tE cl E (eSm g fo f)):=by
 refine PE.imp (znh (es:=[]) PySem.F.plainAttrs_str slot J hm ho (zcb he zeo (zaG af)) hb (zga (by simp[af]) (by simp)) U (zaG af) rfl) ?_;rintro σ H Q ⟨B,w,ρ,S,rfl,R,q⟩;refine⟨B,w,ρ,S,rfl,R,?_⟩;unfold eSm at q
 cases hf:fo ρ S with
 |bad=>rwa[hf]at q|exc c S1=>rwa[hf]at q|ok d S1=>
  rw[hf]at q;intro v j m h sh;dsimp only[Out.bind]at q
  cases d with
  |str x=>
   cases sh;refine⟨rfl,B,j,ρ,S1,rfl,m,?_⟩
   cases h2:f ρ S1 with
   |bad=>rw[h2]at q;exact q.elim|exc c S2=>rw[h2]at q;simp only[zah,h2,Out.bind];exact fun w' n t=>q w' n (h.trans t)|ok d2 S2=>
    rw[h2]at q;simp only[zah,h2,Out.bind];intro vs i R2 p a;dsimp only[Out.bind]at q
    cases a with
    |cons h1 l=>
     cases l
     cases hg:g x d2 with
     |none=>rw[hg]at q;exact q.elim|some r=>rw[hg]at q;exact⟨x,i,d2,_,r,rfl,rfl,rfl,h1,hg,fun k w' b s=>q k w' (R2.grow b) (h.trans (p.trans b.fut)) s⟩
  |_=>exact q.elim
noncomputable def zod(x:Str):D->Option D|.str y=>some (.bl (Txt.endswith x y))|_=>none
def zsH:MtS X cl "str.endswith" zod:=by
 intro pins s σ H x vs v us Q I a b h;obtain⟨y,w,d,e,r,rfl,rfl,rfl,sh,hg,q⟩:=h;obtain⟨t,rfl⟩:=a;obtain⟨u,rfl,c⟩:=b.one
 cases d with
 |str z=>
  cases sh;cases hg;obtain⟨t',rfl⟩:=c;exact call_gives PySem.F.slot_str_endswith (ycq _ _ _) PySem.F.entry_str_endswith (PySem.F.args_str_endswith_2 _ _) (gives_str_endswith _ _ _ _) ⟨.bl _,w.H,I,rfl,q _ w (Grow.refl _) (.bl _)⟩
 |_=>cases hg
noncomputable def zkW(x:Str):D->Option D|.str y=>(Builtin.Str.occurrences x y 0 x.length 1).head?.map fun i=>.int (i:Nat)|_=>none
def zpD:MtS X cl "str.index" zkW:=by
 intro pins s σ H x vs v us Q I a b h;obtain⟨y,w,d,f,r,rfl,rfl,rfl,sh,hg,q⟩:=h;obtain⟨t,rfl⟩:=a;obtain⟨u,rfl,c⟩:=b.one
 cases d with
 |str z=>
  cases sh;obtain⟨t',rfl⟩:=c;obtain⟨i,hi,rfl⟩:=ybx.mp hg;obtain⟨l,e⟩:=List.head?_eq_some_iff.mp hi;exact call_gives PySem.F.slot_str_index (ycq _ _ _) PySem.F.entry_str_index (PySem.F.args_str_index_2 _ _) (gives_str_index _ _ _ _ i l e) ⟨.int _,w.H,I.tok _,⟨_,rfl⟩,q _ w (Grow.refl _) (.int _)⟩
 |_=>cases hg
noncomputable def zfD:List D->Option (List Str)
 |[]=>some []|.str x::l=>(zfD l).map (x::·)|_::_=>none
theorem zib:∀{xs:List V}{ds:List D}{ts:List Str}{aa:List Value},Shds cl w xs ds->zfD ds=some ts->Vals xs aa->∃l:List (Str×Tok),aa=strValues l/\l.map (·.1)=ts
 |_,_,ts,aa,.nil,h,r=>by cases h;cases r;exact⟨[],rfl,rfl⟩
 |_,_,ts,aa,.cons (d:=d) s t,h,r=>by
  cases d with
  |str x=>
   cases s;obtain⟨a,h1,rfl⟩:=ybx.mp h
   cases r with
   |cons r1 b=>
    obtain⟨tk,rfl⟩:=r1;obtain⟨l,rfl,rfl⟩:=zib t h1 b;exact⟨(x,tk)::l,rfl,rfl⟩
  |_=>cases h
theorem zh2:∀(l:List (Str×Tok)),Vals ((l.map (·.1)).map V.str) (strValues l)
 |[]=>.nil|p::l=>.cons ⟨_,rfl⟩ (zh2 l)
def zgv(x:Str):D->Option D|.lst l=>(zfD l).bind fun ts=>if JoinOk x ts then some (.str (Txt.join x ts))else none|_=>none
def zsG:MtS X cl "str.join" zgv:=by
 intro pins s σ H x vs v us Q I b c h;obtain⟨y,w,d,g,r,rfl,rfl,rfl,sh,hg,q⟩:=h;obtain⟨t,rfl⟩:=b;obtain⟨u,rfl,f⟩:=c.one
 cases d with
 |lst z=>
  cases sh with
  |lst e k rs=>
   cases f
   cases ht:zfD z with
   |none=>unfold zgv at hg;dsimp only at hg;rw[ht]at hg;cases hg|some ts=>
    unfold zgv at hg;dsimp only at hg;rw[ht]at hg;dsimp only[Option.bind]at hg;split at hg
    ·rename_i a;cases hg;obtain⟨aa,r,p,_⟩:=I.list (SqL.of (K:=X.K) e);obtain⟨l,rfl,rfl⟩:=zib rs ht r;refine yce PySem.F.slot_str_join (ycq _ _ _) PySem.F.entry_str_join (PySem.F.args_str_join_2 _ _) (meets_str_join_list y t _ l ?_) ⟨p.isList,post_join l ⟨joinOk_length a,fun t' k=>⟨.str _,w.H,I.tok _,⟨_,rfl⟩,q _ w (Grow.refl _) (.str _)⟩⟩⟩;unfold JoinOk at a;rwa[yaJ]at a
    ·cases hg
 |_=>cases hg
noncomputable def zej(x:Str):D->Option D|.str y=>if !(y.length==0)&&zax x.length then some (.lst ((Txt.split x y).map D.str))else none|_=>none
def zpC:MtS X cl "str.split" zej:=by
 intro pins s σ H x vs v us Q I g i h;obtain⟨y,w,d,n,r,rfl,rfl,rfl,sh,hg,q⟩:=h;obtain⟨t,rfl⟩:=g;obtain⟨u,rfl,j⟩:=i.one
 cases d with
 |str z=>
  cases sh;obtain⟨t',rfl⟩:=j;unfold zej at hg;dsimp only at hg;split at hg
  ·rename_i c;cases hg;rw[yab,yaJ]at c;have hs:y.length+2<=sizeLine:=yas (Nat.add_le_add_right (yag c.2) 2) (by decide)
   have f:(Builtin.Str.partsBetween y (Builtin.Str.occurrences y z 0 y.length (y.length+1)) z.length).length<=sizeLine:=by
    have p:=StrLaws.occ_length_le y z 0 y.length (y.length+1);rw[length_partsBetween];omega
   have fin:∀(l:List (Str×Tok)) (k:Nat),l.map (·.1)=Txt.split y z->l.length<=sizeLine->EP X pins σ Q (.ref s.heap.objs.size) {s with heap:=s.heap.push {cls:=.type "list",data:=.seq (strValues l).toArray},toks:=k}:=fun l k e m=>by
    have hf:=I.hok.fresh (a:=s.heap.objs.size) (yaj _);refine⟨.ref s.heap.objs.size,_,I.laid (t':=k) (o:=.lst ((l.map (·.1)).map V.str)) (fun b ob q=>yad _ q) (yaj _) ?_,rfl,q _ (w.add _ _) (zaq hf _) ?_⟩
    ·exact⟨by rw[yae,yae];exact m,_,0,zh2 l,yam _ rfl⟩
    ·rw[<-e];exact Shd.newL hf zfG
   cases h1:(decide (y.length<z.length)||decide (Builtin.Str.strKind y<Builtin.Str.strKind z))
   ·cases hf:(Builtin.Str.occurrences y z 0 y.length (y.length+1)).isEmpty
    ·refine yce ycg (ycq _ _ _) ycV (ycK _ _) (meets_str_split_sep y z t t' h1 c.1 hf (by omega) f) ?_;show wants _ _ _ {s with toks:=_,heap:=s.heap.push {cls:=.type "list",data:=.seq (strsFrom s.toks (Builtin.Str.partsBetween y (Builtin.Str.occurrences y z 0 y.length (y.length+1)) z.length)).toArray}};rw[strsFrom_eq];refine fin (numbered s.toks _) _ ((numbered_texts _ _).trans ((if_neg (ydq h1)).trans (if_neg (ydq hf))).symm) ?_;have:=congrArg List.length (numbered_texts s.toks (Builtin.Str.partsBetween y (Builtin.Str.occurrences y z 0 y.length (y.length+1)) z.length));rw[yae]at this;rw[this];exact f
    ·exact yce ycg (ycq _ _ _) ycV (ycK _ _) (meets_str_split_not_found y z t t' h1 c.1 hf)
      (fin [(y,t)] s.toks ((if_neg (ydq h1)).trans (if_pos hf)).symm (show 1<=sizeLine by decide))
   ·exact yce ycg (ycq _ _ _) ycV (ycK _ _) (meets_str_split_cannot_occur y z t t' h1)
     (fin [(y,t)] s.toks (if_pos h1).symm (show 1<=sizeLine by decide))
  ·cases hg
 |_=>cases hg
noncomputable def zqA:List D->Option D|[.int i]=>if decide (-1000<=i/\i<=1000)then some (.str (toString i))else none|_=>none
def zwc:zjg X cl (.type "str") zqA:=by
 intro pins s σ H xs us Q I r h;obtain⟨w,ds,d,rfl,b,hg,q⟩:=h;unfold zqA at hg;split at hg
 ·rename_i i;split at hg
  ·rename_i a;cases hg;have a:=yag a
   cases b with
   |cons h1 h2=>
    cases h2;obtain rfl:=h1.intI;refine zi6 pins s σ w.H _ us Q I r ⟨i,rfl,?_,q _ w (Grow.refl _) (.str _)⟩;have:=Nat.log2_le_self i.natAbs;omega
  ·cases hg
 ·cases hg
def zfj(fo f f2:Fe):Fe:=fun ρ S=>(fo ρ S).bind fun d S1=>match d with
 |.dic ds=>if zaB ds then(f ρ S1).bind fun k S2=>(f2 ρ S2).bind fun z a=>match k with|.str x=>.ok ((zav x ds).getD z) a|_=>.bad else .bad
 |_=>.bad
def zo1(U:X.A.units+1<cLine)(ho:PE X o (tE cl E fo))(he:PE X e (tE cl E f))(hf:PE X e2 (tE cl E f2))(h1:zbb e=true)(h2:zbb e2=true)(hb:attributeBase o "get" X.env (eval o X.env)=eval o X.env)(J:(ap.endLine==cp.line)=true):
  PE X (.Call (.Attribute o "get" ap) [e,e2] [] cp) (tE cl E (zfj fo f f2)):=by
 refine PE.imp (zkB U ho he hf ⟨hb,zga (by simp[h1,h2]) (by simp),J,by rw[zaG h1,zaG h2];rfl⟩) ?_;rintro σ H Q ⟨B,w,ρ,S,rfl,R,q⟩;refine⟨B,w,ρ,S,rfl,R,?_⟩;unfold zfj at q
 cases g:fo ρ S with
 |bad=>rwa[g]at q|exc c S1=>rwa[g]at q|ok d S1=>
  rw[g]at q;intro v F M h sh;dsimp only[Out.bind]at q
  cases d with
  |dic ds=>
   dsimp only at q
   by_cases b:zaB ds=true
   ·rw[if_pos b]at q
    cases sh with
    |dicK r K I=>
     refine⟨_,rfl,.inl ⟨_,.inr ⟨_,r⟩⟩,B,F,ρ,S1,rfl,M,?_⟩
     cases j:f ρ S1 with
     |bad=>rw[j]at q;exact q.elim|exc c S2=>rw[j]at q;exact fun w' l m=>q w' l (h.trans m)|ok k S2=>
      rw[j]at q;intro y D R2 u G;dsimp only[Out.bind]at q;refine⟨B,D,ρ,S2,rfl,R2,?_⟩
      cases i:f2 ρ S2 with
      |bad=>rw[i]at q;exact q.elim|exc c L=>rw[i]at q;exact fun w' l m=>q w' l (h.trans (u.trans m))|ok z L=>
       rw[i]at q;intro C n t F3 sz;dsimp only[Out.bind]at q
       cases k with
       |str x=>
        cases G;dsimp only at q;have a:=u.trans F3;have s:=(a.keep _ _ r K).1
        rcases zdw x (I.up a) b with⟨g1,g2⟩|⟨p,d',g1,g2,g3⟩
        ·rw[g2]at q;exact⟨none,.inl ⟨_,.inr x,.inr ⟨_,s⟩,rfl,g1.symm⟩,q C n t (h.trans a) sz⟩
        ·rw[g2]at q;exact⟨some p,.inl ⟨_,.inr x,.inr ⟨_,s⟩,rfl,g1.symm⟩,q p n t (h.trans a) g3⟩
       |_=>exact q.elim
   ·rw[if_neg b]at q;exact q.elim
  |_=>exact q.elim
def zlR(k:Str)(f:Fe):Fe:=fun ρ S=>(f ρ S).bind fun d S1=>.ok (.dic [(.str k,d)]) S1
def zr1{k:Str}{J e:Expr}{fe:Fe}{pos:Pos}(hk:PE X J (tC (.str k)))(he:PE X e (tE cl E fe)):PE X (.Dict [some J] [e] pos) (tN cl E (zlR k fe)):=by
 refine PE.imp (zso (zpf hk he zsg) rfl rfl (by simp) (by show 1<=15;decide)) ?_;rintro σ H Q ⟨B,w,ρ,S,rfl,R,q⟩;intro f i;have t:=R.hold (o:=.dK []) i;have fa:=zbR (w:=w) (p:=f) (o:=.dK []) (r:=.far) i
 have n:B.Fr f=none:=by
  cases z:B.Fr f with
  |none=>rfl|some x=>have:=(R.wd.fr f x z).1;rw[i]at this;cases this
 unfold zlR at q;refine⟨B.hold f (.dK []),w.addAs f (.dK []) .far,ρ,S,rfl,t,?_⟩
 cases hf:fe ρ S with
 |bad=>rwa[hf]at q|exc c S1=>rw[hf]at q;exact fun w' u A=>q w' (u.unhold n) (fa.trans A)|ok d S1=>
  rw[hf]at q;dsimp only[Out.bind]at q;intro v h R2 y m;have j:=R2.wd.fr f (.dK []) (show(if f=f then some (HO.dK [])else B.Fr f)=some (.dK [])from if_pos rfl);have how:h.ow f=some .far:=j.2.trans (show(B.hold f (.dK [])).fw f=some Root.far from if_pos rfl)
  have l:h.ow f≠none:=by rw[how];exact yaI _
  have fd:=zhG (w:=h) (a:=f) l;refine⟨j.1,[(.inr k,v)],rfl,(by show 1<=15;decide),?_⟩
  have s:upd h.H f (.dK (zgL [] [((.inr k:Key),v)]))=upd (h.del f).H f (.dK [(.inr k,v)]):=by
   funext b;unfold upd
   by_cases g:b=f
   ·rw[if_pos g,if_pos g];rfl
   ·rw[if_neg g,if_neg g];show _=(if b=f then none else h.H b);rw[if_neg g]
  rw[s];exact q f _ (h.del f) ((R2.unhold n).del how n) (fa.trans (y.trans fd)) (if_pos rfl) (.dicK (.consS (m.up fd) .nil))
end
section
variable{X:Cx}{cl:Cf}
noncomputable def zni(x:Str):D->Option D|.str y=>if !(y.length==0)&&zax x.length then some (.tup [.str (Txt.partition x y).1,.str (Txt.partition x y).2.1,.str (Txt.partition x y).2.2])else none|_=>none
def zsF:MtS X cl "str.partition" zni:=by
 intro pins s σ H x vs v us Q I g j h;obtain⟨y,w,d,m,r,rfl,rfl,rfl,sh,hg,q⟩:=h;obtain⟨t,rfl⟩:=g;obtain⟨u,rfl,l⟩:=j.one
 cases d with
 |str z=>
  cases sh;obtain⟨t',rfl⟩:=l;unfold zni at hg;dsimp only at hg;split at hg
  ·rename_i f;cases hg;rw[yab,yaJ]at f;have hs:y.length<=sizeLine:=yas (yag f.2) (by decide);have hf:=I.hok.fresh (a:=s.heap.objs.size) (yaj _)
   have fin:∀(a b c:Str) (ta tb tc:Tok) (k:Nat),(a,b,c)=Txt.partition y z->EP X pins σ Q (.ref s.heap.objs.size) {s with heap:=s.heap.push {cls:=.type "tuple",data:=.seq [.str a ta,.str b tb,.str c tc].toArray},toks:=k}:=fun a b c ta tb tc k e=>by
    refine⟨.ref s.heap.objs.size,_,I.laid (t':=k) (o:=.tup [.str a,.str b,.str c]) (fun b ob q=>yad _ q) (yaj _) ?_,rfl,q _ (w.add _ _) (zaq hf _) ?_⟩
    ·exact⟨(by decide:(3:Nat)<=sizeLine),_,.cons ⟨_,rfl⟩ (.cons ⟨_,rfl⟩ (.cons ⟨_,rfl⟩ .nil)),zoK.new _ _⟩
    ·rw[<-e];exact Shd.newT hf (.cons (.str _) (.cons (.str _) (.cons (.str _) .nil)))
   refine yce PySem.F.slot_str_partition (ycq _ _ _) PySem.F.entry_str_partition (PySem.F.args_str_partition_2 _ _) (meets_str_partition y z t t' f.1 hs) ?_;unfold Txt.partition at fin
   revert fin
   cases Builtin.Str.occurrences y z 0 y.length 1 with
   |nil=>intro fin;exact fin _ _ _ _ _ _ _ rfl|cons i r=>intro fin;exact fin _ _ _ _ _ _ _ rfl
  ·cases hg
 |_=>cases hg
end
end S2
namespace L2
open PySem PySem.Spec PyProof.Rows
end L2
namespace S2
open PySem PySem.Spec PyProof.Rows L2
def zlN(cn f:Str)(i:Nat):Fe:=fun ρ S=>match zlS cn f ρ S i with
 |some (_,_,ds)=>if ds.length<64 then .ok (.lst ((zek (zgu ds)).map D.str)) S else .bad
 |none=>.bad
section
variable{X:Cx}{cl:Cf}{E:St->XK}{pos apos cp p:Pos}{f cn:Str}{i:Nat}{x:Str}
theorem zmF(hN:X.N[i]?=some x)(hv:Vis X.env.scope x)(hd:(x==("__debug__":Str))=false)(hcd:(x==("__classdict__":Str))=false)(J:X.calm=true)(sm:Same' cl X)(hk:zg3 cl cn f)(hb:attributeBase (.Name x p) f X.env (eval (.Name x p) X.env)=eval (.Name x p) X.env)(hg:Gl X "sorted")(hm:X.mg "sorted"=none):
  PE X (.Call (.Name "sorted" U) [.Attribute (.Name x p) f apos] [] cp) (tN cl E (zlN cn f i)):=by
 refine PE.imp (zcw (zgy J) hg hm (by decide +kernel) (zbg (zcv (zaQ hN hv hd hcd) hb) zcx)) ?_;rintro σ H Q ⟨B,w,ρ,S,rfl,R,q⟩;unfold zlN at q
 cases e:zlS cn f ρ S i with
 |none=>rw[e]at q;exact q.elim|some u=>
  obtain⟨n,ob,ds⟩:=u;rw[e]at q;dsimp only at q
  by_cases b:ds.length<64
  ·rw[if_pos b]at q;obtain⟨a,dx,fs,c,kvs,ev,l,j,how,k,m,c1,c2,lv,oc,g,t,h⟩:=zhP hk R e;obtain⟨k1,k2⟩:=zkP t h;rw[sm.kk];exact⟨_,ev,a,_,dx,fs,_,rfl,k,c1,c2,lv,c,kvs,zgu ds,rfl,.inl g,k1,by rw[k2];exact b,fun pn d=>q pn _ w R (Fut.refl _) d (.lst zfG)⟩
  ·rw[if_neg b]at q;exact q.elim
end
structure FnI where
 ar:Nat
 own:Bool
 run:List D->Sto->Out D
structure ObE where
 cur:Str
 fk:Str->Str->Bool
 df:Str->Bool
 mt:Str->Option (Str×FnI)
 mks:Str->Option (List D×FnI)
structure Genv where
 con:Str->Option D
 fn:Str->Option FnI
 blt:Str->Bool
 exc:Str->Bool
 und:Str->Str->Bool
 isx:Str->Str->Option Bool
 ob:ObE
 ds:Str->Bool
abbrev bmV:List Value:=[.type "ValueError",.type "Exception",.type "BaseException",.type "object"]
structure GOk(cl:Cf)(G:Genv)(P:Program)(wo:PySem.World)(K:PySem.W.Frag)(mg:Z6)(base:Heap)(k:Nat):Prop where
 con:∀x d,G.con x=some d->∃v u,mg x=some u/\zaV v u/\∀w,Shd cl w v d
 fn:∀x fi,G.fn x=some fi->∃f fd ps,mg x=some (.ref f)/\PySem.W.keepIn K (.ref f)=true/\zdm K fd ps []/\FnOk P wo K mg base (CXE P wo) k f fd ps (zjh cl fi.ar fi.own fi.run)
 blt:∀x,G.blt x=true->mg x=none
 exc:∀c,G.exc c=true->mg c=some (.ref (cl c))/\PySem.W.excIn K (cl c) bmV "ValueError.__new__"=true
 und:∀c C,G.und c C=true->L2.zws K (cl c) (cl C)
 isx:∀c C b,G.isx c C=some b->PySem.W.ExcCls K (cl c)/\PySem.W.kitOne K (.ref (cl c)) (zAi cl C)=some b
 fk:∀c f,G.ob.fk c f=true->zg3 cl c f
 mt:∀m c fi,G.ob.mt m=some (c,fi)->∃f fd ps,Cls K (cl c)/\Meth K (cl c) m f/\zdm K fd ps []/\FnOk P wo K mg base (CXE P wo) k f fd ps (zjh cl fi.ar fi.own fi.run)
 mks:∀c ah fi,G.ob.mks c=some (ah,fi)->∃f fd ps dvs ds k',k'+1<=k/\mg c=some (.ref (cl c))/\Mk K (cl c) f/\zdm K fd ps []/\zdm K fd ps ds/\Vals dvs ds/\(∀w,Shds cl w dvs ah)/\FnOk P wo K mg base (CXE P wo) k' f fd ps (zjh cl fi.ar false fi.run)
noncomputable abbrev Names:=List (Str×NameKind)
structure Gx(cl:Cf)(G:Genv)(k:Nat)(X:Cx)(nm:Names)(N:List Str)(E:St->XK):Prop where
 gok:GOk cl G X.prog X.w X.K X.mg X.base k
 room:Room k X.A
 calm:X.calm=true
 pass:zdL (CXE X.prog X.w) X E
 eN:X.N=N
 kk:X.K=cl.K
 pp:X.prog=cl.P
 ww:X.w=cl.wo
 nd:N.Nodup
 vis:∀x kd,nm.lookup x=some kd->∃kd',X.env.scope.names.lookup x=some kd'/\(kd'=kd\/(kd=.free/\kd'=.cell))
 fnx:∀x,nm.lookup x=some .local->X.env.scope.names.lookup x=some .local
 fnc:∀x,nm.lookup x=some .cell->X.fn x=true
noncomputable def idx:List Str->Str->Option Nat
 |[],_=>none|y::l,x=>if y=x then some 0 else(idx l x).map (·+1)
theorem zhF:∀{N:List Str}{x:Str}{i:Nat},idx N x=some i->N[i]?=some x
 |y::l,x,i,h=>by
  unfold idx at h;split at h
  ·rename_i e;cases h;rw[e];rfl
  ·cases a:idx l x with
   |none=>rw[a]at h;cases h|some j=>rw[a]at h;cases h;simpa using zhF a
noncomputable def zkE(x:Str):Bool:=!(x==("__debug__":Str))&&!(x==("__classdict__":Str))&&!decide (x="__name__")
def ziH(h:zkE x=true):(x==("__debug__":Str))=false/\(x==("__classdict__":Str))=false/\x ≠ "__name__":=by
 unfold zkE at h;simp only[yab,yaJ,ycW]at h;exact⟨h.1.1,h.1.2,h.2⟩
noncomputable def zyc:Option NameKind->Bool|some .local=>true|some .cell=>true|some .free=>true|_=>false
def zkh(nm:Names)(N:List Str)(x:Str):Option Nat:=if zyc (nm.lookup x)&&zkE x then idx N x else none
noncomputable def zaZ(nm:Names)(x:Str):Bool:=decide (nm.lookup x=some .globalImplicit)&&zkE x
section
variable{cl:Cf}{G:Genv}{k:Nat}{X:Cx}{nm:Names}{N:List Str}{E:St->XK}
def Gx.slot(g:Gx cl G k X nm N E)(h:zkh nm N x=some i):X.N[i]?=some x/\Vis X.env.scope x/\(x==("__debug__":Str))=false/\(x==("__classdict__":Str))=false:=by
 unfold zkh at h;split at h
 ·rename_i hv;rw[yab]at hv;obtain⟨h1,h2,_⟩:=ziH hv.2;refine⟨by rw[g.eN];exact zhF h,?_,h1,h2⟩
  cases hk:nm.lookup x with
  |none=>rw[hk]at hv;exact absurd hv.1 (by decide)
  |some b=>
   obtain⟨a,e,z⟩:=g.vis x b hk;rw[hk]at hv;unfold Vis;rw[e]
   rcases z with rfl|⟨_,rfl⟩
   ·cases a<;>first|exact .inl rfl|exact .inr (.inl rfl)|exact .inr (.inr rfl)|exact absurd hv.1 (by decide)
   ·exact .inr (.inl rfl)
 ·cases h
def Gx.glob(g:Gx cl G k X nm N E)(h:zaZ nm x=true):Gl X x/\(x==("__debug__":Str))=false/\x ≠ "__name__":=by
 unfold zaZ at h;rw[yab]at h;obtain⟨h1,_,b⟩:=ziH h.2;obtain⟨a,e,z⟩:=g.vis x _ (yag h.1)
 rcases z with rfl|⟨z,_⟩
 ·exact⟨e,h1,b⟩
 ·cases z
end
noncomputable def okE:Expr->Bool|.Starred _ _=>false|.Set _ _ _=>false|_=>true
def zad(h:okE e=true):zbb e=true:=by cases e<;>first|rfl|cases h
def zfP(h:okE e=true):behindInMarks op e=false:=by cases e<;>first|rfl|cases h
def zhs(h:okE e=true)(v:Value):foldedSetIterable e env v=pure v:=by cases e<;>first|rfl|cases h
noncomputable def zc1:Expr->Bool|.IfExp _ _ _ _=>false|_=>true
def ltD:=zv9 fun i j=>decide (i<j)
def leD:=zx0
def gtD:=zv9 fun i j=>decide (j<i)
section
variable{cl:Cf}{G:Genv}{k:Nat}{X:Cx}{nm:Names}{N:List Str}{E:St->XK}
theorem Gx.units(g:Gx cl G k X nm N E):X.A.units+64<cLine:=g.room.units
def Gx.un(g:Gx cl G k X nm N E){n:Nat}(h:n<=64):X.A.units+n<cLine:=Nat.lt_of_le_of_lt (Nat.add_le_add_left h _) g.units
def Gx.same(g:Gx cl G k X nm N E):Same' cl X:=⟨g.kk,g.pp,g.ww⟩
def zCb(J:args.all zbb=true)(U:args.length<30):methodCallForm (args.length+0) (backTo pos (starEach args env)) (backToKw pos (keywordEach [] env))=true:=by
 have h:=zbQ (pos:=pos) (env:=env) J;unfold methodCallForm
 have h1:(backTo pos (starEach args env)).all (!·.1)=true:=by
  rw[List.all_eq_not_any_not];simpa using h
 rw[h1];show(true&&true&&decide (args.length+0+0<30))=true;rw[yaz (by omega)];rfl
def znn(hb:attributeBase o m env (eval o env)=eval o env)(hf:methodCallForm (args.length+0) (backTo pos (starEach args env)) (backToKw pos (keywordEach [] env))=true)(J:(ap.endLine==pos.line)=true):
  eval (.Call (.Attribute o m ap) args [] pos) env=(do
   let ov ← eval o env
   standAt ap.atName
   let (f,first) ← holding [ov] (getMethod ov m (do return (← importBound o env).getD true))
   callWith pos f first (backTo pos (starEach args env)) (backToKw pos (keywordEach [] env))):=by
 show(do
  let ov ← attributeBase o m env (eval o env)
  standAt ap.atName
  methodCall o m ap pos env ov (args.length+0) (backTo pos (starEach args env)) (backToKw pos (keywordEach [] env)))=_
 rw[hb]
 have e:∀ov,methodCall o m ap pos env ov (args.length+0) (backTo pos (starEach args env)) (backToKw pos (keywordEach [] env))=(do
   let (f,first) ← holding [ov] (getMethod ov m (do return (← importBound o env).getD true))
   callWith pos f first (backTo pos (starEach args env)) (backToKw pos (keywordEach [] env))):=fun ov=>by
  unfold methodCall calleeOf methodCallPos;rw[hf,J];rfl
 simp only[e]
end
theorem zqm:bootBuiltins "all"=some (.builtin "all"):=by decide +kernel
theorem zgZ:bootBuiltins "tuple"=some (.type "tuple"):=by decide +kernel
theorem zql:bootBuiltins "int"=some (.type "int"):=by decide +kernel
theorem zow:bootBuiltins "bool"=some (.type "bool"):=by decide +kernel
theorem zk6:bootBuiltins "str"=some (.type "str"):=by decide +kernel
noncomputable def gd{α:Type}:(b:Bool)->(b=true->Option α)->Option α|true,k=>k rfl|false,_=>none
structure Dn(G:Genv)(nm:Names)(N:List Str)(e:Expr)where
 o:Bool
 f:Fe
 q:okE e=true
 ok:∀{cl k X E},Gx cl G k X nm N E->(o=true->PE X e (tN cl E f))/\PE X e (tE cl E f)/\(zc1 e=true->PT X e (tTr cl E f))
noncomputable abbrev Rec(G:Genv):=∀nm N e,Option (Dn G nm N e)
structure Do(G:Genv)(nm:Names)(N:List Str)(e:Expr)where
 f:Fe
 q:okE e=true
 ok:∀{cl k X E},Gx cl G k X nm N E->PE X e (tH cl E f)
structure DL(G:Genv)(nm:Names)(N:List Str)(es:List Expr)where
 fs:List Fe
 q:es.all zbb=true
 l:fs.length=es.length
 ok:∀{cl k X E},Gx cl G k X nm N E->PA X es (tAs cl E fs)
structure DH(G:Genv)(nm:Names)(N:List Str)(es:List Expr)where
 fs:List Fe
 q:es.all zbb=true
 ok:∀{cl k X E},Gx cl G k X nm N E->PA X es (tHs cl E fs)
structure Sl(G:Genv)(nm:Names)(N:List Str)(x:Str)where
 i:Nat
 ok:∀{cl k X E},Gx cl G k X nm N E->X.N[i]?=some x/\Vis X.env.scope x/\(x==("__debug__":Str))=false/\(x==("__classdict__":Str))=false
noncomputable def zvm(f:Str):Bool:=decide (f="done")||decide (f="undone")
noncomputable def zq7(f:Str):Bool:=decide (f="named")
structure FA(G:Genv)(nm:Names)(N:List Str)(e:Expr)where
 i:Nat
 f:Str
 ok:∀{cl k X E},Gx cl G k X nm N E->∃x p ap,e=.Attribute (.Name x p) f ap/\X.N[i]?=some x/\Vis X.env.scope x/\(x==("__debug__":Str))=false/\(x==("__classdict__":Str))=false/\zg3 cl G.ob.cur f
structure Dq(G:Genv)(nm:Names)(N:List Str)(e:Expr)where
 q:Fq
 pl:zbb e=true
 ok:∀{cl k X E},Gx cl G k X nm N E->PE X e (tQ cl q)
section
variable{G:Genv}(rc:Rec G){nm:Names}{N:List Str}{e:Expr}
noncomputable def zle(f:Fe)(q:okE e=true)(hv:∀env whole,isTrue e env whole=(do let v ← whole;standAt e.pos;holding [v] (truthy v)))(p:∀{cl k X E},Gx cl G k X nm N E->PE X e (tE cl E f)):Option (Dn G nm N e):=some ⟨false,f,q,fun g=>⟨nofun,p g,fun _=>zke (p g) (hv _)⟩⟩
noncomputable def zwH(f:Fe)(q:okE e=true)(hv:∀env whole,isTrue e env whole=(do let v ← whole;standAt e.pos;holding [v] (truthy v)))(p:∀{cl k X E},Gx cl G k X nm N E->PE X e (tN cl E f)):Option (Dn G nm N e):=some ⟨true,f,q,fun g=>⟨fun _=>p g,zen (p g),fun _=>zke (zen (p g)) (hv _)⟩⟩
def slO(G:Genv)(nm:Names)(N:List Str)(x:Str):Option (Sl G nm N x):=match h:zkh nm N x with|some i=>some ⟨i,fun g=>g.slot h⟩|none=>none
noncomputable def hld(a:Dn G nm N e):Do G nm N e:=⟨a.f,a.q,fun g=>zrZ (a.ok g).2.1⟩
def Sl.v{x:Str}{p:Pos}(s:Sl G nm N x){cl k X E}(g:Gx cl G k X nm N E):PE X (.Name x p) (tE cl E (zaa s.i))/\PE X (.Name x p) (tH cl E (zaf s.i))/\PE X (.Name x p) (tQ cl (zbF s.i)):=by
 obtain⟨s1,s2,b,a⟩:=s.ok g;exact⟨zug s1 s2 b a,zun s1 s2 b a,zuB s1 s2 b a⟩
def opE(nm:Names)(N:List Str):∀e,Option (Do G nm N e)
 |.Name x p=>(match slO G nm N x with|some s=>some ⟨zaf s.i,rfl,fun g=>(s.v g).2.1⟩|none=>(rc nm N (.Name x p)).map hld)
 |e=>(rc nm N e).map hld
def shL(nm:Names)(N:List Str):∀es,Option (DL G nm N es)
 |[]=>some ⟨[],rfl,rfl,fun _=>zeo⟩|e::es=>(rc nm N e).bind fun a=>(shL nm N es).map fun b=>⟨a.f::b.fs,by rw[ybZ,zad a.q,b.q];rfl,by rw[yap,yap,b.l],fun g=>zcb (a.ok g).2.1 (b.ok g) (zaG (zad a.q))⟩
def opL(nm:Names)(N:List Str):∀es,Option (DH G nm N es)
 |[]=>some ⟨[],rfl,fun _=>zqE⟩|e::es=>(opE rc nm N e).bind fun a=>(opL nm N es).map fun b=>⟨a.f::b.fs,by rw[ybZ,zad a.q,b.q];rfl,fun g=>zmA (a.ok g) (b.ok g) (zaG (zad a.q))⟩
def faG(G:Genv)(nm:Names)(N:List Str):∀e,Option (FA G nm N e)
 |.Attribute (.Name x p) f ap=>gd (G.ob.fk G.ob.cur f) fun hf=>(slO G nm N x).map fun s=>⟨s.i,f,fun g=>⟨x,p,ap,rfl,(s.ok g).1,(s.ok g).2.1,(s.ok g).2.2.1,(s.ok g).2.2.2,g.gok.fk _ _ hf⟩⟩|_=>none
noncomputable def quG(G:Genv)(nm:Names)(N:List Str):∀e,Option (Dq G nm N e)
 |.Name x _=>(slO G nm N x).map fun s=>⟨zbF s.i,rfl,fun g=>(s.v g).2.2⟩|.Call (.Attribute o m ap) [.Name y _] [] cp=>gd (decide (m="get")&&(ap.endLine==cp.line)) fun b=>(faG G nm N o).bind fun a=>gd (zq7 a.f) fun _=>(slO G nm N y).map fun s=>⟨ziz G.ob.cur a.f a.i (zbF s.i),rfl,fun g=>by
  rw[yab]at b;obtain rfl:=yag b.1;obtain⟨i,f,ok⟩:=a;obtain⟨x,p,h,rfl,s1,s2,d,c,fk⟩:=ok g
  exact zr9 s1 s2 d c g.same fk rfl (g.un (by decide)) (s.v g).2.2 ⟨rfl,rfl,b.2,rfl⟩⟩
 |_=>none
structure DQ(G:Genv)(nm:Names)(N:List Str)(es:List Expr)where
 gs:List Fq
 ok:∀{cl k X E},Gx cl G k X nm N E->PA X es (tQs cl gs)
def quL(G:Genv)(nm:Names)(N:List Str):∀es,Option (DQ G nm N es)
 |[]=>some ⟨[],fun _=>zuA⟩|e::es=>(quG G nm N e).bind fun a=>(quL G nm N es).map fun b=>⟨a.q::b.gs,fun g=>zr7 (a.ok g) (b.ok g) (zaG a.pl)⟩
def zCj:∀op,Option {J // ∀{cl X},OpD X cl (binaryOp op) J}
 |.Add=>some ⟨zb6,zvb⟩|.Sub=>some ⟨ztU,zu4⟩|.Mult=>some ⟨zjF,zu6⟩|.Mod=>some ⟨zqW,zu7⟩|.FloorDiv=>some ⟨zv0,zva⟩|_=>none
noncomputable def znQ:Expr->Bool|.Constant .none _ _=>true|_=>false
def zyy(b:Expr):∀op,Option {J // ∀{cl G k X nm N E},Gx cl G k X nm N E->OpD X cl (compareOp op) J}
 |.Eq=>some ⟨eqD,fun g=>zxT g.kk g.units⟩|.NotEq=>some ⟨neD,fun g=>zxR g.kk g.units⟩|.Lt=>some ⟨ltD,fun _=>zjD zxN⟩|.LtE=>some ⟨leD,fun _=>zu8⟩|.Gt=>some ⟨gtD,fun _=>zjD zxP⟩
 |.In=>some ⟨inD,fun g=>zxS g.kk g.units⟩|.NotIn=>some ⟨zhZ,fun g=>zu5 g.kk g.units⟩
 |.Is=>gd (znQ b) fun _=>some ⟨zji,fun _=>zu9⟩|.IsNot=>gd (znQ b) fun _=>some ⟨zlF,fun _=>zsA⟩|_=>none
structure DB(G:Genv)(nm:Names)(N:List Str)(op:BoolOp)(es:List Expr)where
 f:Fe
 ok:∀{cl k X E p},Gx cl G k X nm N E->PE X (.BoolOp op es p) (tE cl E f)/\PW X (.BoolOp op es p) (tTr cl E f)
noncomputable def boE:BoolOp->Fe->Fe->Fe|.And=>zgV|.Or=>eOr
noncomputable def zwi(nm:Names)(N:List Str)(op:BoolOp):∀es,Option (DB G nm N op es)
 |[]=>none|[a]=>gd (zc1 a) fun ht=>(rc nm N a).map fun fa=>⟨fa.f,fun g=>⟨zuQ (fa.ok g).2.1,by
   cases op with
   |And=>exact zsc ((fa.ok g).2.2 ht)|Or=>exact zuE ((fa.ok g).2.2 ht)⟩⟩
 |a::b::r=>gd (zc1 a) fun ht=>(rc nm N a).bind fun fa=>(zwi nm N op (b::r)).map fun fb=>⟨boE op fa.f fb.f,fun g=>by
   have h1:=fa.ok g;have h2:=fun p=>fb.ok (p:=p) g
   cases op with
   |And=>exact⟨zup h1.2.1 (h2 _).1,ztT (h1.2.2 ht) (h2 _).2⟩|Or=>exact⟨zxv h1.2.1 (h2 _).1,zxn (h1.2.2 ht) (h2 _).2⟩⟩
noncomputable def zyx(nm:Names)(N:List Str)(a:Expr)(p:Pos):∀ops bs,Option (Dn G nm N (.Compare a ops bs p))
 |[op],[b]=>(zyy b op).bind fun e=>(opE rc nm N a).bind fun fa=>(opE rc nm N b).map fun fb=>⟨false,zae e.1 fa.f fb.f,rfl,fun g=>⟨nofun,zum (e.2 g) (fa.ok g) (fb.ok g) (zfP fb.q),fun _=>ztX (e.2 g) (fa.ok g) (fb.ok g) (zfP fb.q)⟩⟩|[op,h],[b,c]=>(zyy b op).bind fun e=>(zyy c h).bind fun d=>(opE rc nm N a).bind fun fa=>(opE rc nm N b).bind fun fb=>(opE rc nm N c).map fun fc=>⟨false,zcm e.1 d.1 fa.f fb.f fc.f,rfl,fun g=>
   have hm:lastMarks [op,h] [b,c]=false:=zfP fc.q
   ⟨nofun,zo2 (e.2 g) (d.2 g) (fa.ok g) (fb.ok g) (fc.ok g) hm,fun _=>zoT (e.2 g) (d.2 g) (fa.ok g) (fb.ok g) (fc.ok g) hm⟩⟩
 |_,_=>none
def inF(nm:Names)(N:List Str)(a:Expr)(p:Pos):∀ops bs,Option (Dn G nm N (.Compare a ops bs p)):=match a with
 |.Name y py=>fun ops bs=>match ops,bs with
  |[op],[b]=>(faG G nm N b).bind fun t=>gd (zq7 t.f) fun _=>(slO G nm N y).bind fun s=>match op with
   |.In=>some ⟨false,eQ (zpa G.ob.cur t.f t.i (zbF s.i)),rfl,fun g=>by
     obtain⟨i,f,ok⟩:=t;obtain⟨x,p,e,rfl,s1,s2,d,c,fk⟩:=ok g
     exact⟨nofun,zxz (zuD s1 s2 d c g.same fk rfl (g.un (by decide)) (s.v g).2.2 rfl),fun _=>zuz s1 s2 d c g.same fk rfl (g.un (by decide)) (s.v g).2.2 rfl⟩⟩
   |.NotIn=>some ⟨false,eQ (zhp G.ob.cur t.f t.i (zbF s.i)),rfl,fun g=>by
     obtain⟨i,f,ok⟩:=t;obtain⟨x,p,e,rfl,s1,s2,d,c,fk⟩:=ok g
     exact⟨nofun,zxz (zr8 s1 s2 d c g.same fk rfl (g.un (by decide)) (s.v g).2.2 rfl),fun _=>zr6 s1 s2 d c g.same fk rfl (g.un (by decide)) (s.v g).2.2 rfl⟩⟩
   |_=>none
  |_,_=>none
 |_=>fun _ _=>none
structure BI(x:Str)where
 g:List D->Option D
 nw:Bool
 ok:∀{cl G k X nm N E},Gx cl G k X nm N E->∃v,bootBuiltins x=some v/\((∃id,v=.builtin id)\/∃T,v=.type T)/\(if nw then zwx X cl v g else zjg X cl v g)
def zwk(x:Str):Option (BI x):=
 if h:x="len"then some ⟨zd1,false,fun g=>⟨_,h ▸ PySem.boot_len,.inl ⟨_,rfl⟩,zwe g.kk⟩⟩
 else if h:x="all"then some ⟨zk9,false,fun g=>⟨_,h ▸ zqm,.inl ⟨_,rfl⟩,zwf g.calm⟩⟩
 else if h:x="tuple"then some ⟨zbu,false,fun g=>⟨_,h ▸ zgZ,.inr ⟨_,rfl⟩,zqe⟩⟩
 else if h:x="max"then some ⟨ztr,false,fun g=>⟨.builtin "max",by rw[h];decide +kernel,.inl ⟨_,rfl⟩,zwd g.calm⟩⟩
 else if h:x="sum"then some ⟨zto,false,fun g=>⟨.builtin "sum",by rw[h];decide +kernel,.inl ⟨_,rfl⟩,zwb g.calm⟩⟩
 else if h:x="str"then some ⟨zqA,false,fun g=>⟨_,h ▸ zk6,.inr ⟨_,rfl⟩,zwc⟩⟩
 else none
structure TI(x:Str)where
 T:String
 ok:bootBuiltins x=some (.type T)
noncomputable def zAU(x:Str):Option (TI x):=if h:x="int"then some ⟨"int",h ▸ zql⟩else if h:x="bool"then some ⟨"bool",h ▸ zow⟩else if h:x="tuple"then some ⟨"tuple",h ▸ zgZ⟩else if h:x="str"then some ⟨"str",h ▸ zk6⟩else none
theorem zwj{cl k X E}(bi:BI x)(g:Gx cl G k X nm N E)(hg:zaZ nm x=true)(hb:G.blt x=true)(a:DH G nm N (e::es)):
  (bi.nw=true->PE X (.Call (.Name x p) (e::es) [] pos) (tN cl E (zal bi.g a.fs)))/\PE X (.Call (.Name x p) (e::es) [] pos) (tE cl E (zal bi.g a.fs)):=by
 obtain⟨g1,g2,g3⟩:=g.glob hg;have m:=g.gok.blt x hb;have c:=a.q;rw[ybZ,yab]at c;have st:=zaG (es:=es) (env:=X.env) c.1;have pl:=zbQ (pos:=pos) (env:=X.env) c.2;obtain⟨v,hv,hk,b⟩:=bi.ok g
 cases d:bi.nw with
 |false=>
  rw[d]at b;have b:zjg X cl v bi.g:=b;refine⟨nofun,?_⟩
  rcases hk with⟨id,rfl⟩|⟨T,rfl⟩
  ·exact PE.imp (zcw b g1 m hv (a.ok g) g3 g2 st pl) fun _ _ _ q=>ztR (fun _ _ _ z=>z) q
  ·exact PE.imp (zdv b g1 m hv (a.ok g) g3 g2 st pl) fun _ _ _ q=>ztR (fun _ _ _ z=>z) q
 |true=>
  rw[d]at b;have b:zwx X cl v bi.g:=b
  have n:PE X (.Call (.Name x p) (e::es) [] pos) (tN cl E (zal bi.g a.fs)):=by
   rcases hk with⟨id,rfl⟩|⟨T,rfl⟩
   ·exact PE.imp (zcw b g1 m hv (a.ok g) g3 g2 st pl) fun _ _ _ q=>ztQ (fun _ _ _ z=>z) q
   ·exact PE.imp (zdv b g1 m hv (a.ok g) g3 g2 st pl) fun _ _ _ q=>ztQ (fun _ _ _ z=>z) q
  exact⟨fun _=>n,zen n⟩
def zCa{cl k X E}(g:Gx cl G k X nm N E)(hg:zaZ nm x=true)(J:G.fn x=some fi)(a:DL G nm N args)(U:args.length=fi.ar):
  (fi.own=true->PE X (.Call (.Name x p) args [] pos) (tN cl E (eFn fi.run a.fs)))/\PE X (.Call (.Name x p) args [] pos) (tE cl E (eFn fi.run a.fs)):=by
 obtain⟨g1,g2,g3⟩:=g.glob hg;obtain⟨fa,fd,ps,f,d,c,b⟩:=g.gok.fn x fi J;have hlen:a.fs.length=fi.ar:=a.l.trans U
 have main:PE X (.Call (.Name x p) args [] pos) (zia (zjh cl fi.ar fi.own fi.run) [] E (tAs cl E a.fs)):=by
  cases args with
  |nil=>
   refine PE.imp (zng b g.room g1 f d c .nil g.pass g2) ?_;have:a.fs=[]:=ya1 a.l;rw[this];rintro σ H Q ⟨B,w,ρ,S,rfl,R,q⟩;exact q [] w R (Fut.refl _) .nil
  |cons e es=>
   have a2:=a.q;rw[ybZ,yab]at a2;exact zpt b g.room g1 f d c .nil g.pass (a.ok g) g2 (zaG a2.1) (zbQ a2.2)
 cases h:fi.own with
 |false=>
  rw[h]at main;exact⟨nofun,PE.imp main fun _ _ _ q=>zwh q hlen⟩
 |true=>
  rw[h]at main;have n:PE X (.Call (.Name x p) args [] pos) (tN cl E (eFn fi.run a.fs)):=PE.imp main fun _ _ _ q=>zwg q hlen
  exact⟨fun _=>n,zen n⟩
noncomputable def zgB(o:Bool)(f:Fe)(h:∀{cl k X E},Gx cl G k X nm N E->(o=true->PE X (.Call (.Name x p) args [] pos) (tN cl E f))/\PE X (.Call (.Name x p) args [] pos) (tE cl E f)):Option (Dn G nm N (.Call (.Name x p) args [] pos)):=some ⟨o,f,rfl,fun g=>⟨(h g).1,(h g).2,fun _=>zke (h g).2 fun _=>rfl⟩⟩
def zyB(nm:Names)(N:List Str)(x:Str)(p pos:Pos)(args:List Expr):Option (Dn G nm N (.Call (.Name x p) args [] pos)):=gd (zaZ nm x) fun hg=>match hf:G.fn x with
 |some fi=>gd (decide (args.length=fi.ar)) fun b=>(shL rc nm N args).bind fun a=>zgB fi.own (eFn fi.run a.fs) fun g=>zCa g hg hf a (yag b)|none=>gd (G.blt x) fun hb=>match args with
  |[]=>none|e::es=>(zwk x).bind fun bi=>(opL rc nm N (e::es)).bind fun a=>zgB bi.nw (zal bi.g a.fs) fun g=>zwj bi g hg hb a
noncomputable def zB1(nm:Names)(N:List Str)(x:Str)(p pos:Pos):∀args,Option (Dn G nm N (.Call (.Name x p) args [] pos))
 |[a,.Name t _]=>gd (decide (x="isinstance")&&(zaZ nm x&&G.blt x&&zaZ nm t&&G.blt t)) fun b=>(zAU t).bind fun T=>(opE rc nm N a).bind fun fa=>zgB false (eUn (zeA T.T) fa.f) fun g=>⟨nofun,by
  simp only[yab]at b;obtain⟨c,⟨⟨h1,h2⟩,e⟩,d⟩:=b;obtain rfl:=yag c;obtain⟨t1,t2,t3⟩:=g.glob e
  exact zrY (g.glob h1).1 (g.gok.blt _ h2) t1 (g.gok.blt _ d) T.ok t3 t2 (zad fa.q) (fa.ok g)⟩
 |_=>none
def zCf(nm:Names)(N:List Str)(x:Str)(p pos:Pos)(a:Expr):Option (Dn G nm N (.Call (.Name x p) [a] [] pos)):=gd (decide (x="dict")&&(zaZ nm x&&G.blt x)) fun b=>(rc nm N a).bind fun fa=>zgB true (eUn zvZ fa.f) fun g=>by
   simp only[yab]at b;obtain⟨c,h1,h2⟩:=b;obtain rfl:=yag c;have n:=zul (p2:=p) (pos:=pos) g.calm (g.glob h1).1 (g.gok.blt _ h2) (fa.ok g).2.1 (zaG (zad fa.q));exact⟨fun _=>n,zen n⟩
def zA6(nm:Names)(N:List Str)(x:Str)(p pos:Pos):∀args,Option (Dn G nm N (.Call (.Name x p) args [] pos))
 |[.Call (.Name y d) [a] [] p2]=>if k:y="set"then gd (decide (x="sorted")&&(zaZ nm x&&G.blt x&&zaZ nm y&&G.blt y)) fun b=>(rc nm N a).bind fun fa=>zgB true (eUn zjp fa.f) fun g=>by
   subst k;simp only[yab]at b;obtain⟨c,⟨⟨h1,h2⟩,o⟩,l⟩:=b;obtain rfl:=yag c;have n:=zrV (p:=p) (p2:=d) (pos2:=p2) (pos:=pos) g.calm g.kk (g.glob h1).1 (g.gok.blt _ h2) (g.glob o).1 (g.gok.blt _ l) (fa.ok g).2.1 (zaG (zad fa.q));exact⟨fun _=>n,zen n⟩
  else zCf rc nm N x p pos (.Call (.Name y d) [a] [] p2)
 |[.Call (.Attribute (.Name y px) m ap) [] [] cp]=>gd (decide (x="sorted")&&decide (m="items")&&(zaZ nm x&&G.blt x)&&(ap.endLine==cp.line)) fun b=>(slO G nm N y).bind fun s=>zgB true (zvY s.i) fun g=>by
   simp only[yab]at b;obtain⟨⟨⟨c,hm⟩,h1,h2⟩,j⟩:=b;obtain rfl:=yag c;obtain rfl:=yag hm;obtain⟨s1,s2,h,e⟩:=s.ok g;exact⟨fun _=>zqF g.calm (g.glob h1).1 (g.gok.blt _ h2) s1 s2 h e j,zen (zqF g.calm (g.glob h1).1 (g.gok.blt _ h2) s1 s2 h e j)⟩
 |_=>none
def zBq(nm:Names)(N:List Str)(x:Str)(p pos:Pos):∀args,Option (Dn G nm N (.Call (.Name x p) args [] pos))
 |[.Call (.Name y _) [a] [] _]=>gd (decide (x="len")&&decide (y="set")&&(zaZ nm x&&G.blt x&&zaZ nm y&&G.blt y)) fun j=>(rc nm N a).bind fun fa=>zgB false (eUn zd6 fa.f) fun g=>⟨nofun,by
  simp only[yab]at j;obtain⟨⟨b,k⟩,⟨⟨h1,h2⟩,m⟩,l⟩:=j;obtain rfl:=yag b;obtain rfl:=yag k
  exact zmG g.calm (g.un (by decide)) (g.glob h1).1 (g.gok.blt _ h2) (g.glob m).1 (g.gok.blt _ l) (fa.ok g).2.1 (zaG (zad fa.q))⟩
 |[.Attribute o f ap]=>gd (zaZ nm x&&G.blt x) fun hg=>(faG G nm N (.Attribute o f ap)).bind fun t=>if b:x="len"then gd (zvm t.f) fun _=>zgB false (zlQ G.ob.cur t.f t.i) fun g=>⟨nofun,by
   subst b;rw[yab]at hg;obtain⟨i,n,ok⟩:=t;obtain⟨x,p,h,e,s1,s2,d,c,fk⟩:=ok g;cases e
   exact zrX (y:="") s1 s2 d c g.same fk rfl (g.glob hg.1).1 (g.gok.blt _ hg.2)⟩
  else if b:x="sorted"then gd (zq7 t.f) fun _=>zgB true (zlN G.ob.cur t.f t.i) fun g=>by
   subst b;rw[yab]at hg;obtain⟨i,n,ok⟩:=t;obtain⟨x,p,h,e,s1,s2,d,c,fk⟩:=ok g;cases e;exact⟨fun _=>zmF s1 s2 d c g.calm g.same fk rfl (g.glob hg.1).1 (g.gok.blt _ hg.2),zen (zmF s1 s2 d c g.calm g.same fk rfl (g.glob hg.1).1 (g.gok.blt _ hg.2))⟩
  else none
 |_=>none
def zxY{cl k X E}(g:Gx cl G k X nm N E)(hg:zaZ nm x=true)(hm:G.ob.mks x=some (ah,fi))(J:args.isEmpty=false)(a:DL G nm N args)(U:args.length+1=fi.ar):PE X (.Call (.Name x p) args [] pos) (tE cl E (eMk x [] fi.run a.fs)):=by
 obtain⟨f,fd,ps,dvs,ds,k',hk,b,M,c,i,d,h,F⟩:=g.gok.mks x ah fi hm;obtain⟨g1,g2,g3⟩:=g.glob hg
 cases args with
 |nil=>cases J|cons e es=>
  have a2:=a.q;rw[ybZ,yab]at a2;exact PE.imp (zpm M F (g.room.mono hk) g1 b c .nil g.pass (a.ok g) g2 (zaG a2.1) (zbQ a2.2)) fun _ _ _ q=>zBp (ah:=[]) (fun _=>.nil) q (by rw[a.l];exact U)
def mkG(nm:Names)(N:List Str)(x:Str)(p pos:Pos)(args:List Expr):Option (Dn G nm N (.Call (.Name x p) args [] pos)):=match hm:G.ob.mks x with
 |some c=>gd (zaZ nm x&&(!args.isEmpty&&decide (args.length+1=c.2.ar))) fun b=>(shL rc nm N args).bind fun a=>zgB false (eMk x [] c.2.run a.fs) fun g=>⟨nofun,by
  simp only[yab,yaJ,yaT]at b
  exact zxY g b.1 hm b.2.1 a b.2.2⟩
 |none=>none
noncomputable def ztt(w:Bool)(f:Fe)(h:∀{cl k X E},Gx cl G k X nm N E->(w=true->PE X (.Call (.Attribute o m ap) args [] cp) (tN cl E f))/\PE X (.Call (.Attribute o m ap) args [] cp) (tE cl E f)):Option (Dn G nm N (.Call (.Attribute o m ap) args [] cp)):=some ⟨w,f,rfl,fun g=>⟨(h g).1,(h g).2,fun _=>zke (h g).2 fun _=>rfl⟩⟩
noncomputable def zrf(o:Expr):Prop:=∀m env,attributeBase o m env (eval o env)=eval o env
structure Bo(o:Expr):Type where
 ok:zrf o
noncomputable def zzk:∀o,Option (Bo o)|.Name _ _=>some ⟨fun _ _=>rfl⟩|.Constant _ _ _=>some ⟨fun _ _=>rfl⟩|.Subscript _ _ _=>some ⟨fun _ _=>rfl⟩|_=>none
noncomputable def zBd:∀o,Option (Bo o)|.Name _ _=>some ⟨fun _ _=>rfl⟩|.Call (.Name _ _) (_::_) _ _=>some ⟨fun _ _=>rfl⟩|.Attribute (.Name _ _) _ _=>some ⟨fun _ _=>rfl⟩|_=>none
structure Sm(m:Str)where
 g:Str->D->Option D
 ok:∃id,Slot "str" m id/\typeOf (.builtin id)=pure (.type "method_descriptor")/\∀{X cl},MtS X cl id g
def zA7(m:Str):Option (Sm m):=if h:m="endswith"then some ⟨zod,_,h ▸ PySem.F.slot_str_endswith,PySem.F.type_str_endswith,zsH⟩else if h:m="join"then some ⟨zgv,_,h ▸ PySem.F.slot_str_join,PySem.F.type_str_join,zsG⟩else if h:m="split"then some ⟨zej,_,h ▸ ycg,PySem.F.type_str_split,zpC⟩else if h:m="partition"then some ⟨zni,_,h ▸ PySem.F.slot_str_partition,PySem.F.type_str_partition,zsF⟩else if h:m="index"then some ⟨zkW,_,h ▸ PySem.F.slot_str_index,PySem.F.type_str_index,zpD⟩else none
def zAV(nm:Names)(N:List Str)(o:Expr)(m:Str)(ap cp:Pos):∀args,Option (Dn G nm N (.Call (.Attribute o m ap) args [] cp))
 |[a]=>gd (ap.endLine==cp.line) fun e=>(zzk o).bind fun b=>(zA7 m).bind fun s=>(rc nm N o).bind fun fo=>(rc nm N a).bind fun fa=>ztt false (eSm s.g fo.f fa.f) fun g=>⟨nofun,by
   obtain⟨id,s1,s2,d⟩:=s.ok
   exact zxt s1 s2 d (fo.ok g).2.1 (fa.ok g).2.1 (zad fa.q) (b.ok _ _) e⟩
 |[a,a2]=>gd (decide (m="get")&&(ap.endLine==cp.line)) fun c=>(zzk o).bind fun b=>(rc nm N o).bind fun fo=>(rc nm N a).bind fun fa=>(rc nm N a2).bind fun fb=>ztt false (zfj fo.f fa.f fb.f) fun g=>⟨nofun,by
   rw[yab]at c;obtain rfl:=yag c.1
   exact zo1 (g.un (by decide)) (fo.ok g).2.1 (fa.ok g).2.1 (fb.ok g).2.1 (zad fa.q) (zad fb.q) (b.ok _ _) c.2⟩
 |_=>none
noncomputable def zBm(nm:Names)(N:List Str)(o:Expr)(m:Str)(ap cp:Pos):∀args,Option (Dn G nm N (.Call (.Attribute o m ap) args [] cp))
 |[]=>gd (decide (m="pop")&&(ap.endLine==cp.line)) fun a=>(faG G nm N o).bind fun t=>gd (zvm t.f) fun _=>ztt false (zlP G.ob.cur t.f t.i) fun g=>⟨nofun,by
   rw[yab]at a;obtain rfl:=yag a.1;obtain⟨i,f,ok⟩:=t;obtain⟨x,p,d,rfl,s1,s2,c,b,fk⟩:=ok g
   exact zrW s1 s2 c b g.same fk rfl rfl a.2⟩
 |_=>none
def zom:∀(l:List D) (d r:D),zeH l d=some r->∃n,r=.int n:=by
 intro l d r h;unfold zeH at h;split at h
 ·cases h;exact⟨_,rfl⟩
 ·cases h
def zBo(nm:Names)(N:List Str)(m:Str)(ap cp:Pos):∀o args,Option (Dn G nm N (.Call (.Attribute o m ap) args [] cp))
 |.Name x _,[a]=>gd (decide (m="count")&&(ap.endLine==cp.line)) fun b=>(slO G nm N x).bind fun s=>(opE rc nm N a).bind fun fa=>ztt false (eMt zeH s.i fa.f) fun g=>⟨nofun,by
   rw[yab]at b;obtain rfl:=yag b.1;obtain⟨s1,s2,d,c⟩:=s.ok g
   exact zxw PySem.F.slot_list_count PySem.F.type_list_count (zpE g.kk g.units) zom s1 s2 d c (fa.ok g) (zad fa.q) b.2⟩
 |.Name x _,[a,.Constant (.int z) k e]=>gd (decide (m="get")&&(ap.endLine==cp.line)) fun b=>(slO G nm N x).bind fun s=>(rc nm N a).bind fun fa=>(rc nm N (.Constant (.int z) k e)).bind fun fz=>ztt false (zoe s.i fa.f fz.f) fun g=>⟨nofun,by
   rw[yab]at b;obtain rfl:=yag b.1;obtain⟨s1,s2,d,c⟩:=s.ok g
   exact zr0 (g.un (by decide)) s1 s2 d c (fa.ok g).2.1 (fz.ok g).2.1 (zad fa.q) (zad fz.q) b.2⟩
 |_,_=>none
def zsI{cl k X E}(g:Gx cl G k X nm N E)(h1:G.ob.mt m=some (c,fi))(b:zrf o)(U:(ap.endLine==pos.line)=true)(J:args.length<30)(hl:args.length+1=fi.ar)(fo:Dn G nm N o)(a:DL G nm N args):
  (fi.own=true->PE X (.Call (.Attribute o m ap) args [] pos) (tN cl E (zbH c m fi.run fo.f a.fs)))/\PE X (.Call (.Attribute o m ap) args [] pos) (tE cl E (zbH c m fi.run fo.f a.fs)):=by
 obtain⟨f,fd,ps,c1,c2,p,j⟩:=g.gok.mt m c fi h1
 have hlen:a.fs.length+1=fi.ar:=by rw[a.l];exact hl
 have ht:=znn (ap:=ap) (b m X.env) (zCb (pos:=pos) a.q J) U
 have main:PE X (.Call (.Attribute o m ap) args [] pos) (zh9 (cl c) m (zjh cl fi.ar fi.own fi.run) [] E (tE cl E fo.f) (tAs cl E a.fs)):=by
  cases args with
  |nil=>
   have y:a.fs=[]:=ya1 a.l;rw[y];refine PE.imp (zne (fo.ok g).2.1 c1 c2 j g.room p .nil g.pass ht) ?_;rintro σ H Q ⟨B,w,ρ,S,rfl,R,q⟩;refine⟨B,w,ρ,S,rfl,R,?_⟩
   cases h:fo.f ρ S with
   |bad=>rwa[h]at q|exc c S1=>rwa[h]at q|ok d S1=>
    rw[h]at q;intro v s z C sh;obtain⟨a,dx,fs,x,e2,u,D,w',r,S',t,A,q⟩:=q v s z C sh;refine⟨a,dx,fs,x,e2,u,?_⟩;have:=q [] w' A (Fut.refl _) .nil;rwa[t]at this
  |cons e es=>
   have a2:=a.q;rw[ybZ,yab]at a2;exact zpl (fo.ok g).2.1 c1 c2 j g.room p .nil g.pass (a.ok g) (zaG a2.1) (zbQ a2.2) ht
 cases i:fi.own with
 |false=>
  rw[i]at main;exact⟨nofun,PE.imp main fun _ _ _ q=>zvk q hlen⟩
 |true=>
  rw[i]at main;have n:=PE.imp main fun _ _ _ q=>zvj q hlen
  exact⟨fun _=>n,zen n⟩
def zxZ(nm:Names)(N:List Str)(o:Expr)(m:Str)(ap cp:Pos)(args:List Expr):Option (Dn G nm N (.Call (.Attribute o m ap) args [] cp)):=match hm:G.ob.mt m with
 |some c=>gd ((ap.endLine==cp.line)&&(decide (args.length<30)&&decide (args.length+1=c.2.ar))) fun d=>(zBd o).bind fun b=>(rc nm N o).bind fun fo=>(shL rc nm N args).bind fun a=>ztt c.2.own (zbH c.1 m c.2.run fo.f a.fs) fun g=>by
  simp only[yab,yaT]at d;exact zsI g hm b.ok d.1 d.2.1 d.2.2 fo a
 |none=>none
def zyv(nm:Names)(N:List Str)(args:List Expr)(cp:Pos):∀f J,Option (Dn G nm N (.Call f args J cp))
 |.Name x p,[]=>(zA6 rc nm N x p cp args).or ((zB1 rc nm N x p cp args).or ((zBq rc nm N x p cp args).or ((mkG rc nm N x p cp args).or (zyB rc nm N x p cp args))))|.Attribute o m ap,[]=>(zBo rc nm N m ap cp o args).or ((zBm nm N o m ap cp args).or ((zAV rc nm N o m ap cp args).or (zxZ rc nm N o m ap cp args)))|_,_=>none
end
noncomputable def zye:Option NameKind->Bool|some .local=>true|some .cell=>true|_=>false
structure Ti(G:Genv)(nm:Names)(N:List Str)(n:Nat)(x:Str)where
 i:Nat
 ok:∀{cl k X E},Gx cl G k X nm N E->i<n/\X.N.Nodup/\X.N[i]?=some x/\Loc X.env.scope x/\(X.fn x=true\/X.env.scope.names.lookup x=some .local)
structure Tgs(G:Genv)(nm:Names)(N:List Str)(n:Nat)(es:List Expr)where
 is:List Nat
 ok:∀{cl k X E},Gx cl G k X nm N E->PGs X es (tGs cl n is)/\(assignEach es X.env).length=is.length/\(assignEach es X.env).findIdx? (·.1)=none
structure Dt(G:Genv)(nm:Names)(N:List Str)(n:Nat)(tg:Expr)where
 t:Tg
 ok:∀{cl k X E},Gx cl G k X nm N E->PG X tg (tG cl n t)
section
variable{G:Genv}(rc:Rec G){nm:Names}{N:List Str}{e:Expr}
def tgI(G:Genv)(nm:Names)(N:List Str)(n:Nat)(x:Str):Option (Ti G nm N n x):=gd (zye (nm.lookup x)) fun a=>match hi:idx N x with
 |some i=>gd (decide (i<n)) fun d=>some ⟨i,fun g=>by
  refine⟨yag d,by rw[g.eN];exact g.nd,by rw[g.eN];exact zhF hi,?_⟩
  cases hk:nm.lookup x with
  |none=>rw[hk]at a;cases a|some b=>
   obtain⟨c,e,z⟩:=g.vis x b hk;rw[hk]at a
   cases b with
   |«local»=>
    rcases z with rfl|⟨z,_⟩
    ·exact⟨.inl e,.inr e⟩
    ·cases z
   |cell=>
    rcases z with rfl|⟨z,_⟩
    ·exact⟨.inr e,.inl (g.fnc x hk)⟩
    ·cases z
   |_=>cases a⟩
 |none=>none
def zzl(G:Genv)(nm:Names)(N:List Str)(n:Nat):∀es,Option (Tgs G nm N n es)
 |[]=>some ⟨[],fun _=>⟨zrS,rfl,rfl⟩⟩|.Name x pos::es=>(tgI G nm N n x).bind fun a=>(zzl G nm N n es).map fun b=>⟨a.i::b.is,fun g=>by
   obtain⟨a1,a2,a3,a4,a5⟩:=a.ok g;obtain⟨e,d,c⟩:=b.ok g;refine⟨zoY a1 a2 a3 a4 a5 e,congrArg (·+1) d,?_⟩;show((false,assign (.Name x pos) _)::assignEach es _).findIdx? (·.1)=none;rw[List.findIdx?_cons]
   simp[c]⟩
 |_::_=>none
def tgG(G:Genv)(nm:Names)(N:List Str)(n:Nat):∀tg,Option (Dt G nm N n tg)
 |.Name x _=>(tgI G nm N n x).map fun a=>⟨.one a.i,fun g=>by
   obtain⟨a1,a2,a3,a4,a5⟩:=a.ok g
   exact zuf a1 a2 a3 a4 a5⟩
 |.Tuple es _ _=>(zzl G nm N n es).map fun b=>⟨.tup b.is,fun g=>by
   obtain⟨e,d,c⟩:=b.ok g
   exact zue g.calm e d c⟩
 |_=>none
structure Di(G:Genv)(nm:Names)(N:List Str)(tg e:Expr)where
 f:Fi
 q:okE e=true
 ok:∀{cl k X E},Gx cl G k X nm N E->PI X tg e (tI cl E f)
def zyF(tg:Expr)(a:Dn G nm N e):Di G nm N tg e:=⟨zap a.f,a.q,fun g=>zud g.kk (a.ok g).2.1⟩
noncomputable def zAn(nm:Names)(N:List Str)(x:Str)(p pos:Pos)(a b:Expr):∀tg,Option (Di G nm N tg (.Call (.Name x p) [a,b] [] pos))
 |.Tuple es kk d=>gd (decide (x="zip")&&(zaZ nm x&&G.blt x)) fun c=>(rc nm N a).bind fun fa=>(rc nm N b).map fun fb=>⟨zp5 fa.f fb.f,rfl,fun g=>by
   simp only[yab]at c;obtain rfl:=yag c.1
   exact zt8 (g.glob c.2.1).1 (g.gok.blt _ c.2.2) (zcb (fa.ok g).2.1 (zcb (fb.ok g).2.1 zeo (zaG (zad fb.q))) (zaG (zad fa.q))) (zaG (zad fa.q)) (zbQ (by simp[zad fb.q]))⟩
 |_=>none
def zA9(nm:Names)(N:List Str)(tg:Expr)(x:Str)(p pos:Pos)(a:Expr):Option (Di G nm N tg (.Call (.Name x p) [a] [] pos)):=gd (decide (x="range")&&(zaZ nm x&&G.blt x)) fun b=>(rc nm N a).map fun fa=>⟨zeG fa.f,rfl,fun g=>by
   simp only[yab]at b;obtain rfl:=yag b.1
   exact zrP (g.glob b.2.1).1 (g.gok.blt _ b.2.2) (zcb (fa.ok g).2.1 zeo (zaG (zad fa.q))) (zaG (zad fa.q))⟩
def zBb(nm:Names)(N:List Str)(tg:Expr)(x:Str)(p pos:Pos)(a:Expr):Option (Di G nm N tg (.Call (.Name x p) [a] [] pos)):=gd (decide (x="reversed")&&(zaZ nm x&&G.blt x)) fun b=>(rc nm N a).map fun fa=>⟨zta fa.f,rfl,fun g=>by
   simp only[yab]at b;obtain rfl:=yag b.1
   exact zub g.kk (g.glob b.2.1).1 (g.gok.blt _ b.2.2) (zcb (fa.ok g).2.1 zeo (zaG (zad fa.q))) (zaG (zad fa.q))⟩
def zBa(nm:Names)(N:List Str)(tg:Expr)(x:Str)(p pos:Pos)(a b:Expr):Option (Di G nm N tg (.Call (.Name x p) [a,b] [] pos)):=gd (decide (x="range")&&(zaZ nm x&&G.blt x)) fun c=>(rc nm N a).bind fun fa=>(rc nm N b).map fun fb=>⟨zlO fa.f fb.f,rfl,fun g=>by
   simp only[yab]at c;obtain rfl:=yag c.1
   exact zrO (g.glob c.2.1).1 (g.gok.blt _ c.2.2) (zcb (fa.ok g).2.1 (zcb (fb.ok g).2.1 zeo (zaG (zad fb.q))) (zaG (zad fa.q))) (by rw[zaG (zad fa.q),zaG (zad fb.q)];rfl) (zaG (zad fb.q))⟩
def zvM(nm:Names)(N:List Str)(tg:Expr):∀e,Option (Di G nm N tg e)
 |.Call (.Name x p) [a] [] pos=>(zBb rc nm N tg x p pos a).or ((zA9 rc nm N tg x p pos a).or ((rc nm N (.Call (.Name x p) [a] [] pos)).map (zyF tg)))|.Call (.Name x p) [a,b] [] pos=>(zBa rc nm N tg x p pos a b).or ((zAn rc nm N x p pos a b tg).or ((rc nm N (.Call (.Name x p) [a,b] [] pos)).map (zyF tg)))|e=>(rc nm N e).map (zyF tg)
noncomputable def zvg:Expr->Option Str|.Name x _=>some x|_=>none
def zbT:Expr->List Str
 |.Name x _=>[x]|.Tuple es _ _=>es.filterMap zvg|_=>[]
def zbx(names:Names)(N:List Str):List (Str×Nat):=names.filterMap fun p=>if p.2=.free then(idx N p.1).map fun i=>(p.1,i)else none
noncomputable def zB0:Option NameKind->Bool|some .cell=>true|some .free=>true|_=>false
def zoo(nm:Names)(scope:Scope)(xs:List Str)(caps:List (Str×Nat)):Bool:=
 decide (scope.kind=.function)&&decide ((scope.names.map (·.1)).Nodup)&&scope.names.all (fun y=>!decide (y.2=.local)||decide (scope.names.lookup y.1=some .local))
 && scope.names.all (fun y=>!decide (y.2=.free)||zB0 (nm.lookup y.1))&&caps.all (fun p=>scope.names.all fun z=>!decide (z.1=p.1)||decide (z.2=.free))&&decide ((xs++caps.map (·.1)).Nodup)
def zjz{env:PySem.Env}{x:Str}{U:NameKind}{names:Names}(h:names.lookup x=some U):
  ∃J,(names.map fun(n,k)=>if(k==NameKind.free&&env.scope.kind==.function&&env.kindOf n==some .cell)then(n,NameKind.cell)else(n,k)).lookup x=some J/\(J=U\/(U=.free/\J=.cell)):=by
 induction names with
 |nil=>cases h|cons p r c=>
  obtain⟨n,k0⟩:=p;rw[yaM]at h;rw[yaw];dsimp only
  by_cases b:(k0==NameKind.free&&env.scope.kind==.function&&env.kindOf n==some .cell)=true
  ·rw[if_pos b,yaM]
   cases a:x==n with
   |true=>
    rw[a]at h;cases h;simp only[yab,ycB]at b;exact⟨_,rfl,.inr ⟨b.1.1,rfl⟩⟩
   |false=>rw[a]at h;exact c h
  ·rw[if_neg b,yaM]
   cases a:x==n with
   |true=>rw[a]at h;cases h;exact⟨_,rfl,.inl rfl⟩|false=>rw[a]at h;exact c h
def zlU{cl k X E}(g:Gx cl G k X nm N E)(h:zoo nm scope xs (zbx scope.names N)=true):CompScopeG X.env.scope scope X.N xs (zbx scope.names N)/\(xs++(zbx scope.names N).map (·.1)).Nodup:=by
 unfold zoo at h;simp only[yab,ybj,yaT,ycS,yaJ,ycW]at h;obtain⟨⟨⟨⟨⟨h1,h2⟩,s⟩,r⟩,o⟩,n⟩:=h
 have fr:∀y∈scope.names,y.2=.free->X.env.scope.names.lookup y.1=some .cell\/X.env.scope.names.lookup y.1=some .free:=fun y c hf=>by
  rcases r y c with z|z
  ·exact absurd hf z
  ·cases hk:nm.lookup y.1 with
   |none=>rw[hk]at z;cases z|some j=>
    obtain⟨b,e,f⟩:=g.vis y.1 j hk;rw[hk]at z;rw[e]
    rcases f with rfl|⟨_,rfl⟩
    ·cases b<;>first|exact .inl rfl|exact .inr rfl|cases z
    ·exact .inl rfl
 refine⟨⟨h2,h1,fun y c m=>(s y c).elim (fun z=>absurd m z) fun z=>z,fr,fun p a=>?_,fun p a z l e=>(o p a z l).elim (fun w=>absurd e w) fun w=>w⟩,n⟩;unfold zbx at a;obtain⟨q,d,e⟩:=yci.mp a;split at e
 ·rename_i hf
  cases hi:idx N q.1 with
  |none=>rw[hi]at e;cases e|some i=>
   rw[hi]at e;have t:(q.1,i)=p:=Option.some.inj e;subst t;refine⟨by rw[g.eN];exact zhF hi,by rw[<-hf];exact d,?_⟩
   rcases fr q d hf with z|z<;>rw[z]<;>exact fun w=>by cases w
 ·cases e
def zhE{cl k X E}(g:Gx cl G k X nm N E)(U:(xs++(zbx scope.names N).map (·.1)).Nodup)(J:List (Str×Addr))(C:Addr)(s:Shared)(H:Hp)(fp:List Addr):
  Gx cl G k (za9 X xs (zbx scope.names N) scope J C s H fp) scope.names (xs++(zbx scope.names N).map (·.1)) noE where
 gok:=g.gok
 room:=g.room
 calm:=g.calm
 pass:=fun pins σ H s e s' I q=>by
  obtain⟨a,cls,a0,H',B,_,_,_,_,_,_,_,_,_,z⟩:=q;exact z.elim
 eN:=rfl
 kk:=g.kk
 pp:=g.pp
 ww:=g.ww
 nd:=U
 vis:=fun x b h=>zjz h
 fnx:=fun x h=>lookup_relabel_local h
 fnc:=fun x h=>yaz h
structure Dif(G:Genv)(nm:Names)(N:List Str)(ifs:List Expr)where
 f:Fe
 ok:∀{cl k X},Gx cl G k X nm N noE->PIf X ifs (tTr cl noE f)
def zyw(nm:Names)(N:List Str):∀ifs,Option (Dif G nm N ifs)
 |[]=>some ⟨zbv,fun _ pins s σ H Q I q=>by
   obtain⟨B,w,ρ,S,rfl,R,q⟩:=q
   exact zsl pins s σ w.H Q I (q w R (Fut.refl _))⟩
 |[c]=>gd (zc1 c) fun ht=>(rc nm N c).map fun a=>⟨a.f,fun g=>zsk ((a.ok g).2.2 ht)⟩|_=>none
structure Dc(G:Genv)(nm:Names)(N:List Str)(elt:Expr)(gg:Comprehension)(scope:Scope)where
 f:Fe
 ok:∀{cl k X E},Gx cl G k X nm N E->∃it t c el,f=za2 (zbT gg.target).length t it c el ((zbx scope.names N).map (·.2))/\gg=⟨gg.target,gg.iter,gg.ifs,0⟩/\CompScopeG X.env.scope scope X.N (zbT gg.target) (zbx scope.names N)/\PI X gg.target gg.iter (tI cl E it)/\okE gg.iter=true ∧
   (∀cl' C s H fp,PG (za9 X (zbT gg.target) (zbx scope.names N) scope cl' C s H fp) gg.target (tG cl (zbT gg.target).length t)) ∧
   (∀cl' C s H fp,PIf (za9 X (zbT gg.target) (zbx scope.names N) scope cl' C s H fp) gg.ifs (tTr cl noE c)) ∧
   ∀cl' C s H fp,PE (za9 X (zbT gg.target) (zbx scope.names N) scope cl' C s H fp) elt (tE cl noE el)
def zv6(nm:Names)(N:List Str)(elt:Expr)(J:Comprehension)(scope:Scope):Option (Dc G nm N elt J scope):=
 gd (decide (J.is_async=0)&&zoo nm scope (zbT J.target) (zbx scope.names N)) fun d=>
  (zvM rc nm N J.target J.iter).bind fun it=>
  (tgG G scope.names (zbT J.target++(zbx scope.names N).map (·.1)) (zbT J.target).length J.target).bind fun t=>
  (zyw rc scope.names (zbT J.target++(zbx scope.names N).map (·.1)) J.ifs).bind fun c=>
  (rc scope.names (zbT J.target++(zbx scope.names N).map (·.1)) elt).map fun e=>
  ⟨za2 (zbT J.target).length t.t it.f c.f e.f ((zbx scope.names N).map (·.2)),fun g=>by
   rw[yab]at d;obtain⟨S,b⟩:=zlU g d.2;refine⟨_,_,_,_,rfl,?_,S,it.ok g,it.q,fun a C s H fp=>t.ok (zhE g b a C s H fp),fun a C s H fp=>c.ok (zhE g b a C s H fp),fun a C s H fp=>(e.ok (zhE g b a C s H fp)).2.1⟩;have:=yag d.1;clear it t c e S b g;cases J;simp only at this
   rw[this]⟩
def Dc.n{cl k X E}{elt:Expr}{J:Comprehension}{scope:Scope}{pos:Pos}(c:Dc G nm N elt J scope)(g:Gx cl G k X nm N E):PE X (.ListComp elt [J] scope pos) (tN cl E c.f):=by
 obtain⟨it,t,c',i,e,h,S,i1,i2,d,b,a⟩:=c.ok g;rw[e,h];exact PE.imp (zpr g.calm S i1 d b a (zhs i2)) fun _ _ _ q=>zra q
structure Dop(G:Genv)(nm:Names)(N:List Str)(o:Option Expr)where
 f:Option Fe
 ok:∀{cl k X E},Gx cl G k X nm N E->PO X o (zwD cl E f)
def zzr(nm:Names)(N:List Str):∀o,Option (Dop G nm N o)
 |none=>some ⟨none,fun _=>zsi⟩|some e=>(opE rc nm N e).map fun a=>⟨some a.f,fun g=>zsh (a.ok g)⟩
structure Px(i:Expr):Type where
 ok:zj0 i
noncomputable def ixO:∀i,Option (Px i)|.Name _ _=>some ⟨fun _ _=>rfl⟩|.Constant _ _ _=>some ⟨fun _ _=>rfl⟩|.BinOp _ _ _ _=>some ⟨fun _ _=>rfl⟩|.Subscript _ _ _=>some ⟨fun _ _=>rfl⟩|.Call _ _ _ _=>some ⟨fun _ _=>rfl⟩|.UnaryOp _ _ _=>some ⟨fun _ _=>rfl⟩|_=>none
def zA5(nm:Names)(N:List Str)(a:Expr)(pos:Pos):∀i,Option (Dn G nm N (.Subscript a i pos))
 |.Slice lo hi none _=>(opE rc nm N a).bind fun fa=>(zzr rc nm N lo).bind fun l=>(zzr rc nm N hi).bind fun u=>zle (eSl fa.f l.f u.f) rfl (fun _ _=>rfl) fun g=>zxu (fa.ok g) (l.ok g) (u.ok g)|i=>(ixO i).bind fun h=>(opE rc nm N a).bind fun fa=>(opE rc nm N i).bind fun fi=>zle (zae ixD fa.f fi.f) rfl (fun _ _=>rfl) fun g=>zxx (zyf g.kk g.units) (fa.ok g) (fi.ok g) h.ok
noncomputable def ixF(nm:Names)(N:List Str)(b:Expr)(pos:Pos):∀i,Option (Dn G nm N (.Subscript b i pos))
 |.Name y _=>(faG G nm N b).bind fun t=>gd (zq7 t.f) fun _=>(slO G nm N y).bind fun s=>zle (eQ (zsa G.ob.cur t.f t.i (zbF s.i))) rfl (fun _ _=>rfl) fun g=>by
   obtain⟨i,f,ok⟩:=t;obtain⟨x,p,d,rfl,s1,s2,c,a,fk⟩:=ok g;exact zxz (zuC s1 s2 c a g.same fk rfl (g.un (by decide)) (s.v g).2.2 fun _ _=>rfl)
 |_=>none
structure Kn(d:D):Type where
 x:Str
 ok:d=.str x
noncomputable def zxo:∀d,Option (Kn d)|.str x=>some ⟨x,rfl⟩|_=>none
def ztb:Rec G:=fun nm N e=>match e with
 |.Constant c _ _=>(match c with
  |.int i=>zle (zab (.int i)) rfl (fun _ _=>rfl) fun _=>zmE zuS fun w=>.int _|.bool b=>zle (zab (.bl b)) rfl (fun _ _=>rfl) fun _=>zmE zxL fun w=>.bl _|.none=>zle (zab .non) rfl (fun _ _=>rfl) fun _=>zmE zqO fun w=>.non|.str x=>zle (zab (.str x)) rfl (fun _ _=>rfl) fun _=>zmE zuP fun w=>.str _|_=>none)
 |.Name x _=>(match slO G nm N x with
  |some s=>zle (zaa s.i) rfl (fun _ _=>rfl) fun g=>(s.v g).1|none=>gd (zaZ nm x) fun hg=>(match k:G.con x with
   |some d=>zle (zab d) rfl (fun _ _=>rfl) fun g=>by
    obtain⟨v,u,m,r,sh⟩:=g.gok.con x d k;exact zmE (znf (g.glob hg).1 m r (g.glob hg).2.1) sh
   |none=>none))
 |.Tuple es _ _=>(shL rc nm N es).bind fun a=>zle (zgw a.fs) rfl (fun _ _=>rfl) fun g=>zuh (a.ok g)|.List es _=>(shL rc nm N es).bind fun a=>zwH (zk0 a.fs) rfl (fun _ _=>rfl) fun g=>zuj (a.ok g)|.BinOp a op b _=>(zCj op).bind fun h=>(opE rc nm N a).bind fun fa=>(opE rc nm N b).bind fun fb=>zle (zae h.1 fa.f fb.f) rfl (fun _ _=>rfl) fun g=>zuo h.2 (fa.ok g) (fb.ok g)|.UnaryOp op a _=>(match op with
  |.Not=>gd (zc1 a) fun ht=>(rc nm N a).map fun fa=>⟨false,eUn zcn fa.f,rfl,fun g=>⟨nofun,zui (fa.ok g).2.1,fun _=>ztW ((fa.ok g).2.2 ht)⟩⟩|.USub=>(opE rc nm N a).bind fun fa=>zle (eUn zsD fa.f) rfl (fun _ _=>rfl) fun g=>zxs ztA (fa.ok g)|_=>none)
 |.BoolOp op es _=>(zwi rc nm N op es).map fun b=>⟨false,b.f,rfl,fun g=>⟨nofun,(b.ok g).1,fun _=>(b.ok g).2.pt⟩⟩|.Compare a ops bs p=>(inF nm N a p ops bs).or (zyx rc nm N a p ops bs)|.IfExp c a b _=>gd (zc1 c) fun ht=>(rc nm N c).bind fun fc=>(rc nm N a).bind fun fa=>(rc nm N b).map fun fb=>⟨false,eIf fc.f fa.f fb.f,rfl,fun g=>⟨nofun,zxy ((fc.ok g).2.2 ht) (fa.ok g).2.1 (fb.ok g).2.1,nofun⟩⟩|.Subscript a i pos=>(ixF nm N a pos i).or (zA5 rc nm N a pos i)|.Attribute (.Name x p) f _=>gd (G.ob.fk G.ob.cur f) fun hf=>(rc nm N (.Name x p)).bind fun fo=>zle (zof G.ob.cur f fo.f) rfl (fun _ _=>rfl) fun g=>zuk (g.gok.fk _ _ hf) g.kk (fo.ok g).2.1 rfl|.Call f args j cp=>zyv rc nm N args cp f j|.ListComp elt [h] scope _=>(zv6 rc nm N elt h scope).bind fun c=>zwH c.f rfl (fun _ _=>rfl) fun g=>c.n g|.Dict [] [] _=>zwH zp6 rfl (fun _ _=>rfl) fun _=>zr2|.Dict [some (.Name c p)] [v] _=>gd (zaZ nm c) fun hg=>(match k:G.con c with
  |some d=>(zxo d).bind fun l=>(rc nm N v).bind fun o=>zwH (zlR l.x o.f) rfl (fun _ _=>rfl) fun g=>by
   obtain⟨q,u,m,r,sh⟩:=g.gok.con c d k;obtain⟨x,rfl⟩:=l;cases sh ⟨fun _=>none,fun _=>none,[]⟩;exact zr1 (znf (g.glob hg).1 m r (g.glob hg).2.1) (o.ok g).2.1
  |none=>none)
 |_=>none
end
noncomputable def zAh(G:Genv):Nat->Rec G
 |0=>fun _ _ _=>none|n+1=>ztb (zAh G n)
noncomputable def zoF(X:Cx)(E:St->XK):Prop:=∀(C:Addr) (pins:Z3) (σ:St) (H:Hp) (s:Shared) (e:Addr) (h':Heap) (vs:List Value),Inv X pins σ H s->Heap.MadeExcOf s.heap h' e (.ref C) vs->E σ (.ref C) none H->X.xe (.ref e) {s with heap:=h'}
noncomputable def zrt(C:Addr)(E:St->XK)(t:TA):TS:=fun _ σ H=>t σ H fun vs H1=>vs.length<=sizeLine/\E σ (.ref C) none H1
theorem zm2(U:zoF X E)(hc:X.calm=true)(hg:Gl X x)(hm:X.mg x=some (.ref C))
  (z:PySem.W.excIn X.K C bmV "ValueError.__new__"=true) (ha:PA X (e::es) t)
  (he:starEach (e::es) X.env=(false,eval e X.env)::starEach es X.env) (af:(backTo cpos (starEach es X.env)).any (·.1)=false) (J:(x==("__debug__":Str))=false):
  PS X (.Raise (some (.Call (.Name x np) (e::es) [] cpos)) none pos) (zrt C E t):=by
 intro pins s σ H D I h;obtain⟨bm,N,nm,f,bs,hd,sn,sub,ab,col,dd,o,c1,c2,n,m,mN,l,k,j,c⟩:=zs5 I.mod.kin z
 refine wpAny_Raise_call_subU (C:=C) (nm:=nm) (q:=f) (N:=N) (bs:=bs) (bm:=bm) (hdct:=hd) (sn:=sn) (sub:=sub) (ab:=ab) (col:=col) (dd:=dd) (k0:=o) (k1:=c1) (k2:=c2) (k3:=n) (k5:=m)
  yct (by decide +kernel) yct (mN:=mN) (c.hasType yct.hasBase) (I.ok.hd hc) (by rw[he];show(false||(backTo cpos (starEach es X.env)).any (·.1))=false;rw[af];rfl) j (zfT I hg hm ⟨rfl,?_⟩ J)
 have go:=ha cpos pins s σ H _ I h;rw[he]at go ⊢;exact yb6 (thn go fun us s2 ⟨vs,H2,b,d,i,g⟩=>⟨rfl,by rw[<-d.length];exact i,b.bk _ _ l,k.keeps b.bk,c.keeps b.bk,fun h' a mk=>U C pins σ H2 s2 a h' us b mk g⟩)
def sRz(c:Str)(fs:List Fe):Fs:=fun ρ S=>match zah fs ρ S with|.ok ds S'=>if zax ds.length then .ex c ρ S' else .bad|.exc x S'=>.ex x ρ S'|.bad=>.bad
noncomputable def Wd.claim(w:Wd)(p:Addr)(r:Root):Wd:=⟨w.H,fun a=>if a=p then some r else if w.ow a=some r then some .far else w.ow a,w.mu⟩
section
variable{cl:Cf}{B:Base}{σ:St}{w:Wd}{ρ:Env}{S:Sto}
def zf7(h:w.ow p≠none):Fut w (w.claim p r)where
 keep:=fun a u b hk=>by
  have n:a≠p:=fun z=>h (by rw[<-z];exact hk)
  refine⟨b,?_⟩;show(if a=p then some r else if w.ow a=some r then some Root.far else w.ow a)=none;rw[if_neg n,if_neg (by rw[hk];exact fun z=>by cases z)];exact hk
 mu:=fun _ _ h=>h
theorem Rel.claim(R:Rel cl (B.hold p o) σ w ρ S)(J:B.Fr p=none)(t:Top cl w o d):Rel cl B (σ.set i (some (.ref p))) (w.claim p (.slot i)) (ρ.set i (some (true,d))) S:=by
 have F:=R.wd.fr p o (show(if p=p then some o else B.Fr p)=some o from if_pos rfl);have c:w.ow p=some .far:=F.2.trans (show(if p=p then some Root.far else B.fw p)=_ from if_pos rfl);have m:=zf7 (w:=w) (p:=p) (r:=.slot i) (by rw[c];exact yaI _)
 have kp:∀a u,w.H a=some u->w.ow a≠some .far->w.ow a≠some (.slot i)->(w.claim p (.slot i)).H a=some u/\(w.claim p (.slot i)).ow a=w.ow a:=fun a u C hk A=>by
  have n:a≠p:=fun z=>hk (by rw[z];exact c)
  refine⟨C,?_⟩;show(if a=p then _ else if w.ow a=some (Root.slot i)then some Root.far else w.ow a)=_;rw[if_neg n,if_neg A]
 refine⟨⟨fun a u h=>?_,fun a r h=>?_,R.wd.len,fun n ob h=>?_,R.wd.tab.keep m fun P ps h1 h2=>⟨(kp P _ h1 (by rw[h2];simp) (by rw[h2];simp)).1,(kp P _ h1 (by rw[h2];simp) (by rw[h2];simp)).2.trans h2⟩⟩,by rw[yaS,yaS];exact R.len,fun j b e l=>?_⟩
 ·have g:a≠p:=fun z=>by rw[z,J]at h;cases h
  have h2:=R.wd.fr a u (show(if a=p then some o else B.Fr a)=some u by rw[if_neg g];exact h);have I:w.ow a=B.fw a:=h2.2.trans (show(if a=p then some Root.far else B.fw a)=_ from if_neg g)
  have s:w.ow a≠some (.slot i):=fun z=>by
   rcases R.wd.own a _ z with y|y
   ·cases y
   ·have E:(if a=p then some o else B.Fr a)=none:=y;rw[if_neg g,h]at E;cases E
  refine⟨h2.1,?_⟩;show(if a=p then some (Root.slot i)else if w.ow a=some (Root.slot i)then some Root.far else w.ow a)=_;rw[if_neg g,if_neg s];exact I
 ·have h':(if a=p then some (Root.slot i)else if w.ow a=some (Root.slot i)then some Root.far else w.ow a)=some r:=h;split at h'
  ·rename_i e;rw[e];exact .inr J
  ·rename_i g;split at h'
   ·cases h';exact .inl rfl
   ·rcases R.wd.own a r h' with z|z
    ·exact .inl z
    ·have D:(if a=p then some o else B.Fr a)=none:=z;rw[if_neg g]at D;exact .inr D
 ·obtain⟨a,e,x⟩:=R.wd.obj n ob h;exact⟨a,e,x.keep m fun b u hb G=>kp b u hb (fun z=>by rwa[z]at G) (fun z=>by rwa[z]at G)⟩
 ·by_cases f:i=j
  ·subst f
   have k:i<ρ.length:=by
    have:=(yaq.mp l).1;rwa[yaS]at this
   rw[yaN k]at l;cases l;exact⟨.ref p,by rw[yaN (by rw[R.len];exact k)],p,o,rfl,if_pos rfl,F.1,t.up m⟩
  ·rw[ya4 f]at l ⊢;obtain⟨v,K,x⟩:=R.slots j b e l;refine⟨v,K,x.keep m fun a u C q=>?_⟩;have:=kp a u C (by rw[q];exact fun z=>by cases z) (by rw[q];exact fun z=>f (by cases z;rfl));exact⟨this.1,this.2.trans q⟩
end
noncomputable def tO(cl:Cf)(E:St->XK):Bool->Fe->TE|true,f=>tN cl E f|false,f=>tE cl E f
noncomputable def ztp(i j:Nat)(U:Bool)(f1:Fe)(J:Bool)(f2:Fe):Fs:=fun ρ S=>match f1 ρ S with
 |.ok d1 S1=>(match f2 ρ S1 with
  |.ok d2 S2=>.nx ((ρ.set i (some (U,d1))).set j (some (J,d2))) S2|.exc c S'=>.ex c ρ S'|.bad=>.bad)
 |.exc c S'=>.ex c ρ S'|.bad=>.bad
section
variable{X:Cx}{cl:Cf}{E:St->XK}{own:Bool}
def zpu(q:tS cl E own (ztp i j U f1 J f2) De σ H):zzm i j (zrv (tO cl E U f1) (zrv (tO cl E J f2) zwE)) De σ H:=by
 obtain⟨B,w,ρ,S,rfl,R,q⟩:=q;unfold ztp at q
 cases U with
 |false=>
  refine⟨B,w,ρ,S,rfl,R,?_⟩
  cases h1:f1 ρ S with
  |bad=>rwa[h1]at q|exc c S1=>rw[h1]at q;exact fun w' d f=>q σ w' d f|ok d1 S1=>
   rw[h1]at q;dsimp only at q;intro v l n g m
   cases J with
   |false=>
    refine⟨B,l,ρ,S1,rfl,n,?_⟩
    cases h2:f2 ρ S1 with
    |bad=>rwa[h2]at q|exc c S2=>rw[h2]at q;exact fun w' d f=>q σ w' d (g.trans f)|ok d2 S2=>
     rw[h2]at q;intro v2 a R2 e h;exact⟨v,v2,rfl,q _ a ((R2.put (m.up e)).put h) (g.trans e)⟩
   |true=>
    refine⟨B,l,ρ,S1,rfl,n,?_⟩
    cases h2:f2 ρ S1 with
    |bad=>rwa[h2]at q|exc c S2=>rw[h2]at q;exact fun w' d f=>q σ w' d (g.trans f)|ok d2 S2=>
     rw[h2]at q;intro p2 t a R2 e hp2 t2;exact⟨v,.ref p2,rfl,q _ (a.addAs p2 t (.slot j)) ((R2.put (m.up e)).own hp2 t2) (g.trans (e.trans (zbR hp2)))⟩
 |true=>
  refine⟨B,w,ρ,S,rfl,R,?_⟩
  cases h1:f1 ρ S with
  |bad=>rwa[h1]at q|exc c S1=>rw[h1]at q;exact fun w' d f=>q σ w' d f|ok d1 S1=>
   rw[h1]at q;dsimp only at q;intro p u l n g y t1;have A:=n.hold (o:=u) y;have fa:=zbR (w:=l) (p:=p) (o:=u) (r:=.far) y
   have s:B.Fr p=none:=by
    cases z:B.Fr p with
    |none=>rfl|some x=>have:=(n.wd.fr p x z).1;rw[y]at this;cases this
   cases J with
   |false=>
    refine⟨B.hold p u,l.addAs p u .far,ρ,S1,rfl,A,?_⟩
    cases h2:f2 ρ S1 with
    |bad=>rwa[h2]at q|exc c S2=>rw[h2]at q;exact fun w' d f=>q σ w' (d.unhold s) (g.trans (fa.trans f))|ok d2 S2=>
     rw[h2]at q;intro v2 a R2 e h;have k:=R2.wd.fr p u (show(if p=p then some u else B.Fr p)=some u from if_pos rfl)
     have b:a.ow p≠none:=by rw[k.2,show(B.hold p u).fw p=some Root.far from if_pos rfl];exact yaI _
     have fc:=zf7 (w:=a) (p:=p) (r:=.slot i) b;exact⟨.ref p,v2,rfl,q _ (a.claim p (.slot i)) ((R2.claim s (t1.up (fa.trans e))).put (h.up fc)) (g.trans (fa.trans (e.trans fc)))⟩
   |true=>
    refine⟨B.hold p u,l.addAs p u .far,ρ,S1,rfl,A,?_⟩
    cases h2:f2 ρ S1 with
    |bad=>rwa[h2]at q|exc c S2=>rw[h2]at q;exact fun w' d f=>q σ w' (d.unhold s) (g.trans (fa.trans f))|ok d2 S2=>
     rw[h2]at q;intro p2 t a R2 e hp2 t2;have k:=R2.wd.fr p u (show(if p=p then some u else B.Fr p)=some u from if_pos rfl)
     have b:a.ow p≠none:=by rw[k.2,show(B.hold p u).fw p=some Root.far from if_pos rfl];exact yaI _
     have fc:=zf7 (w:=a) (p:=p) (r:=.slot i) b;exact⟨.ref p,.ref p2,rfl,q _ ((a.claim p (.slot i)).addAs p2 t (.slot j)) ((R2.claim s (t1.up (fa.trans e))).own (w:=a.claim p (.slot i)) hp2 (t2.up fc)) (g.trans (fa.trans (e.trans (fc.trans (zbR (w:=a.claim p (.slot i)) hp2)))))⟩
end
noncomputable def znS:Expr->Bool|.ListComp _ _ _ _=>true|.SetComp _ _ _ _=>true|.DictComp _ _ _ _ _=>true|_=>false
def zha(h:znS e=false):swapsWith e t l env=pure false:=by
 cases e<;>first|rfl|cases h
structure Gd(cl:Cf)(G:Genv)(k:Nat)(X:Cx)(nm:Names)(N:List Str)(E:St->XK):Prop where
 gx:Gx cl G k X nm N E
 kind:X.env.scope.kind=.function
 sc:X.env.scope.names=nm
 own:PassesOwn (model X.prog X.w) X.A X.env X.xe
 raises:zoF X E
def zc7:Nat->Names->List Str->Expr->List Nat
 |0,_,_,_=>[]|n+1,nm,N,e=>
  let rc:=zc7 n nm N
  let op:=fun(e:Expr)=>match e with|.Name _ _=>[]|e=>rc e
  match e with
  |.Name x _=>(zkh nm N x).toList|.Tuple es _ _=>es.flatMap rc|.List es _=>es.flatMap rc|.BinOp a _ b _=>op a++op b|.UnaryOp _ a _=>rc a|.BoolOp _ es _=>es.flatMap rc|.Compare a _ bs _=>op a++bs.flatMap op|.IfExp c a b _=>rc c++rc a++rc b|.Subscript a (.Slice lo hi _ _) _=>op a++lo.toList.flatMap op++hi.toList.flatMap op|.Subscript a i _=>op a++op i|.Call (.Name f _) args [] _=>if(zwk f).isSome||decide (f="isinstance")then args.flatMap op else args.flatMap rc
  |.Call (.Attribute o _ _) args [] _=>op o++args.flatMap rc|.Dict _ _ _=>[]|.Attribute o _ _=>op o|.ListComp _ [g] scope _=>rc g.iter++(zbx scope.names N).map (·.2)|_=>[]
def zlp(t:Tg)(f:Fe):Fs:=fun ρ S=>match f ρ S with
 |.ok d S'=>(match t.put ρ d with|some a=>.nx a S'|none=>.bad)
 |.exc c S'=>.ex c ρ S'|.bad=>.bad
noncomputable def zpv(nm:Names)(x y:Str)(px py:Pos)(a b:Expr):Bool:=
 decide (nm.lookup x=some .local)&&decide (nm.lookup y=some .local)&&decide (px.line=py.line)&&!decide (x=y)&&zbb a&&zbb b&&!([a,b].all (foldedForSure 8))&&!([a,b].all (constantsAlone 8))
def zsj(n:Nat)(own:Bool)(nm:Names)(N:List Str):Stmt->List Nat
 |.Assign [_] e _=>zc7 n nm N e|.Expr (.Call (.Attribute _ _ _) args [] _) _=>args.flatMap (zc7 n nm N)|.Expr e _=>zc7 n nm N e|.Return (some (.Name x p)) _=>if own then[]else zc7 n nm N (.Name x p)
 |.Return (some e) _=>zc7 n nm N e|.If c _ _ _=>zc7 n nm N c|.For _ it _ _ _=>zc7 n nm N it|.While c _ _ _=>zc7 n nm N c|_=>[]
structure Ds(G:Genv)(nm:Names)(N:List Str)(own:Bool)(st:Stmt)where
 f:Fs
 ok:∀{cl k X E},Gd cl G k X nm N E->PS X st (tS cl E own f)
structure Dss(G:Genv)(nm:Names)(N:List Str)(own:Bool)(b:List Stmt)where
 f:Fs
 ok:∀{cl k X E},Gd cl G k X nm N E->PSs X b (tS cl E own f)
noncomputable def zvN:Expr->Bool|.Tuple _ _ _=>true|_=>false
section
variable{cl:Cf}{G:Genv}{k:Nat}{X:Cx}{nm:Names}{N:List Str}{E:St->XK}{own:Bool}
def zoy(q:tS cl E own (zlp t f) J σ H):ztn (tE cl E f) (tG cl n t) J σ H:=by
 obtain⟨B,w,ρ,S,rfl,R,q⟩:=q;refine⟨B,w,ρ,S,rfl,R,?_⟩;unfold zlp at q
 cases hf:f ρ S with
 |bad=>rwa[hf]at q|exc c S1=>rw[hf]at q;exact fun w' g h=>q σ w' g h|ok d S1=>
  rw[hf]at q;intro v w' g h h';dsimp only at q
  cases e:t.put ρ d with
  |none=>rw[e]at q;exact q.elim|some b=>rw[e]at q;exact⟨B,w',ρ,S1,d,b,rfl,g,h',e,fun a _ _ R2=>q a w' R2 h⟩
def zuV(hk:X.env.scope.kind=.function)(hs:X.env.scope.names=nm)(h:zpv nm x y px py a b=true):
  swappedStores [.Tuple [.Name x px,.Name y py] kt pt] (.Tuple [a,b] k2 pt2) X.env=pure (some [x,y]):=by
 unfold zpv at h;simp only[yab,yaT,yaJ,ycW]at h;obtain⟨⟨⟨⟨⟨⟨⟨h1,h2⟩,l⟩,k⟩,f⟩,d⟩,j⟩,i⟩:=h
 have hb:X.env.blockKind=.function:=by unfold Env.blockKind;rw[hk];rfl
 have k1:X.env.kindOf x=some .local:=by unfold Env.kindOf;rw[hs];exact h1
 have c:X.env.kindOf y=some .local:=by unfold Env.kindOf;rw[hs];exact h2
 have st:([a,b].any fun|.Starred ..=>true|_=>false)=false:=by
  rw[List.any_eq_false];intro e he
  have g:zbb e=true:=by
   rcases yau.mp he with z|z
   ·rw[z];exact f
   ·rw[yaD.mp z];exact d
  cases e<;>first|(cases g;done)|(intro z;cases z)
 have m:[x,y].eraseDups.length=2:=by
  have:(y==x)=false:=by rw[ybz];exact fun z=>k z.symm
  simp[List.eraseDups_cons,this]
 unfold swappedStores;simp only[hb,st];simp[k1,c,l,j,i,m,show(Expr.Name x px).pos=px from rfl,show(Expr.Name y py).pos=py from rfl];intro z;exfalso
 rcases z with z|z
 ·cases a<;>first|(cases f;done)|cases z
 ·cases b<;>first|(cases d;done)|cases z
def zqy:swapsWithSole [.Subscript a i p] e l env=pure false:=by cases e<;>rfl
def zqB:swappedStores [.Subscript a i p] e env=pure none:=by cases e<;>rfl
def ztS:swapsWithSole [.Tuple es kk p] e l env=pure false:=by cases e<;>rfl
def ztV(h:zvN e=false):swappedStores [.Tuple es kk p] e env=pure none:=by cases e<;>first|rfl|cases h
def zqz:swapsWith e (some (.Attribute o f p)) l env=pure false:=by cases e<;>rfl
def zqd(g:Gd cl G k X nm N E)(i:Ti G nm N N.length x)(c:Dc G nm N elt J scope):
  PS X (.Assign [.Name x px] (.ListComp elt [J] scope p) pos) (tS cl E own (zbM i.i true c.f)):=by
 obtain⟨a1,a2,a3,a4,a5⟩:=i.ok g.gx;obtain⟨b,hb⟩:∃b,swapsWith (.ListComp elt [J] scope p) (some (.Name x px)) pos.line X.env=pure b:=⟨_,rfl⟩
 cases b with
 |false=>exact zmt a2 a3 a4 (c.n g.gx) hb a5|true=>
  obtain⟨it,t,c',l,e,j,S,i1,i2,h,d,a⟩:=c.ok g.gx;rw[e];rw[j]at hb ⊢;refine PS.imp (zpe g.gx.calm S a2 a3 a4 i1 h d a hb a5 (zhs i2)) ?_;intro m σ H q;exact zra (zwo q)
end
section
variable{G:Genv}(rc:Rec G){nm:Names}{N:List Str}{own:Bool}
noncomputable def zCl(nm:Names)(N:List Str)(x:Str)(px pos:Pos):∀e,Option (Ds G nm N own (.Assign [.Name x px] e pos))
 |.ListComp elt [j] scope p=>(tgI G nm N N.length x).bind fun i=>(zv6 rc nm N elt j scope).map fun c=>⟨zbM i.i true c.f,fun g=>zqd g i c⟩|e=>gd (!znS e) fun d=>(tgI G nm N N.length x).bind fun i=>(rc nm N e).map fun a=>⟨zbM i.i a.o a.f,fun g=>by
   obtain⟨a1,a2,a3,a4,a5⟩:=i.ok g.gx;have b:=a.ok g.gx
   cases h:a.o with
   |false=>exact zt2 a2 a3 a4 b.2.1 (zha ((yaJ _).mp d)) a5|true=>exact zmt a2 a3 a4 (b.1 h) (zha ((yaJ _).mp d)) a5⟩
def zwp(nm:Names)(N:List Str)(es:List Expr)(kt:Nat)(pt pos:Pos)(e:Expr)(sw:∀{cl k X E},Gd cl G k X nm N E->swappedStores [.Tuple es kt pt] e X.env=pure none):Option (Ds G nm N own (.Assign [.Tuple es kt pt] e pos)):=(tgG G nm N N.length (.Tuple es kt pt)).bind fun t=>(rc nm N e).map fun a=>⟨zlp t.t a.f,fun g=>PS.imp (zm3 (a.ok g.gx).2.1 (t.ok g.gx) ztS (sw g) rfl) fun _ _ _ q=>zoy q⟩
noncomputable def ztK(h:(o=true->PE X e (tN cl E f))/\PE X e (tE cl E f)):PE X e (tO cl E o f):=by
 cases o with
 |false=>exact h.2|true=>exact h.1 rfl
def zBn(nm:Names)(N:List Str)(kt k2:Nat)(pt p2 pos:Pos):∀es vs,Option (Ds G nm N own (.Assign [.Tuple es kt pt] (.Tuple vs k2 p2) pos))
 |[.Name x px,.Name y py],[a,b]=>gd (zpv nm x y px py a b) fun d=>(tgI G nm N N.length x).bind fun i=>(tgI G nm N N.length y).bind fun j=>gd (!decide (i.i=j.i)) fun c=>(rc nm N a).bind fun fa=>(rc nm N b).map fun fb=>⟨ztp i.i j.i fa.o fa.f fb.o fb.f,fun g=>by
   have c:=of_decide_eq_false ((yaJ _).mp c);obtain⟨_,a2,a3,_,_⟩:=i.ok g.gx;obtain⟨_,_,h,_,_⟩:=j.ok g.gx;have P:=fa.ok g.gx;have Q:=fb.ok g.gx
   have e:nm.lookup x=some .local/\nm.lookup y=some .local:=by
    unfold zpv at d;simp only[yab,yaT]at d;exact⟨d.1.1.1.1.1.1.1,d.1.1.1.1.1.1.2⟩
   rw[<-g.sc]at e
   exact PS.imp (zuJ g.gx.calm a2 a3 h c e.1 e.2 (zbg (ztK ⟨P.1,P.2.1⟩) (zbg (ztK ⟨Q.1,Q.2.1⟩) zcx (zaG (zad fb.q))) (zaG (zad fa.q))) (zuV g.kind g.sc d) rfl) fun _ _ _ q=>zpu q⟩
 |_,_=>none
def zCk(nm:Names)(N:List Str)(es:List Expr)(kt:Nat)(pt pos:Pos):∀e,Option (Ds G nm N own (.Assign [.Tuple es kt pt] e pos))
 |.Tuple vs k2 p2=>if h:zyA nm es=true then zwp rc nm N es kt pt pos _ fun g=>zte g.sc h else zBn rc nm N kt k2 pt p2 pos es vs
 |e=>gd (!zvN e) fun h=>zwp rc nm N es kt pt pos e fun _=>ztV ((yaJ _).mp h)
def zCn(nm:Names)(N:List Str)(x f:Str)(p ap pos:Pos):∀e,Option (Ds G nm N own (.Assign [.Attribute (.Name x p) f ap] e pos))
 |.List [] _=>gd (G.ob.fk G.ob.cur f&&zvm f) fun hf=>(slO G nm N x).map fun s=>⟨zgt G.ob.cur f s.i,fun g=>by
   obtain⟨s1,s2,c,b⟩:=s.ok g.gx
   exact zrF s1 s2 c b g.gx.same (g.gx.gok.fk _ _ ((yab _ _).mp hf).1) rfl⟩
 |.Dict [] [] _=>gd (G.ob.fk G.ob.cur f&&zq7 f) fun hf=>(slO G nm N x).map fun s=>⟨zmM G.ob.cur f s.i,fun g=>by
   obtain⟨s1,s2,c,b⟩:=s.ok g.gx
   exact zrG s1 s2 c b g.gx.same (g.gx.gok.fk _ _ ((yab _ _).mp hf).1) rfl⟩
 |e=>gd (G.ob.fk G.ob.cur f) fun hf=>if zq7 f then(slO G nm N x).bind fun s=>(rc nm N e).bind fun a=>gd a.o fun d=>some ⟨zlo G.ob.cur f s.i a.f,fun g=>by
   obtain⟨s1,s2,c,b⟩:=s.ok g.gx
   exact zrD s1 s2 c b g.gx.kk (g.gx.gok.fk _ _ hf) ((a.ok g.gx).1 d) zqz⟩
  else(rc nm N (.Name x p)).bind fun fo=>(rc nm N e).map fun a=>⟨zmL G.ob.cur f fo.f a.f,fun g=>zrE g.gx.same (g.gx.gok.fk _ _ hf) (fo.ok g.gx).2.1 (a.ok g.gx).2.1 zqz⟩
structure Ix(ix:Expr):Type where
 ok:∀(env:PySem.Env) (x:Str) (p p3:Pos) (v:Value),assign (.Subscript (.Name x p) ix p3) env v=(do
   let ov ← holding [v] (eval (.Name x p) env)
   let iv ← holding [v,ov] (eval ix env)
   standAt p3
   holding [v,ov,iv] (setItem ov iv v)
   release [v,ov,iv] [])
noncomputable def ixA:∀J,Option (Ix J)|.Name _ _=>some ⟨fun _ _ _ _ _=>rfl⟩|.Subscript _ _ _=>some ⟨fun _ _ _ _ _=>rfl⟩|.Call _ _ _ _=>some ⟨fun _ _ _ _ _=>rfl⟩|_=>none
noncomputable def zBl(nm:Names)(N:List Str)(J e:Expr)(p3 pos:Pos):∀b,Option (Ds G nm N own (.Assign [.Subscript b J p3] e pos))
 |.Name x _=>(ixA J).bind fun h=>(slO G nm N x).bind fun s=>(rc nm N J).bind fun k=>(rc nm N e).map fun a=>⟨zgs s.i k.f a.f,fun g=>by
   obtain⟨s1,s2,d,c⟩:=s.ok g.gx
   exact zrz (g.gx.un (by decide)) s1 s2 d c (k.ok g.gx).2.1 (a.ok g.gx).2.1 zqy zqB (h.ok _ _ _ _)⟩
 |_=>none
noncomputable def zxF(nm:Names)(N:List Str)(J:Expr)(p3 pos:Pos):∀b e,Option (Ds G nm N own (.Assign [.Subscript b J p3] e pos))
 |.Name x _,.BinOp l op r j=>(ixA J).bind fun h=>(slO G nm N x).bind fun s=>(rc nm N J).bind fun k=>(rc nm N (.BinOp l op r j)).map fun a=>⟨zmI s.i k.f a.f,fun g=>by
   obtain⟨s1,s2,d,c⟩:=s.ok g.gx
   exact zrA (g.gx.un (by decide)) s1 s2 d c (k.ok g.gx).2.1 (a.ok g.gx).2.1 zqy zqB (h.ok _ _ _ _)⟩
 |_,_=>none
noncomputable def zdR(nm:Names)(N:List Str)(b:Expr)(p3 pos:Pos):∀J e,Option (Ds G nm N own (.Assign [.Subscript b J p3] e pos))
 |.Name y _,.Name z _=>(faG G nm N b).bind fun t=>gd (zq7 t.f) fun _=>(slO G nm N y).bind fun s=>(slO G nm N z).map fun l=>⟨zlm G.ob.cur t.f t.i (zbF s.i) (zbF l.i),fun g=>by
   obtain⟨i,f,ok⟩:=t;obtain⟨x,p,d,rfl,s1,s2,c,a,fk⟩:=ok g.gx
   exact zrB s1 s2 c a g.gx.same fk rfl (g.gx.un (by decide)) (s.v g.gx).2.2 (l.v g.gx).2.2 rfl⟩
 |_,_=>none
def zCm(nm:Names)(N:List Str)(e:Expr)(pos:Pos):∀tg,Option (Ds G nm N own (.Assign [tg] e pos))
 |.Name x px=>zCl rc nm N x px pos e|.Tuple es kt pt=>zCk rc nm N es kt pt pos e|.Attribute (.Name x p) f ap=>zCn rc nm N x f p ap pos e|.Subscript b i p3=>(zxF rc nm N i p3 pos b e).or ((zdR nm N b p3 pos i e).or (zBl rc nm N i e p3 pos b))|_=>none
def zAg(nm:Names)(N:List Str)(pos:Pos)(e:Expr):Option (Ds G nm N own (.Expr e pos)):=gd (!znS e) fun b=>(rc nm N e).map fun a=>⟨zkn a.f,fun g=>zt1 (a.ok g.gx).2.1 (zha ((yaJ _).mp b))⟩
noncomputable def zCo(nm:Names)(N:List Str)(m:Str)(ap cp pos:Pos)(a:Expr):∀o,Option (Ds G nm N own (.Expr (.Call (.Attribute o m ap) [a] [] cp) pos))
 |.Name x _=>gd (decide (m="append")&&(ap.endLine==cp.line)) fun b=>(slO G nm N x).bind fun s=>(rc nm N a).map fun fa=>⟨zl4 s.i fa.f,fun g=>by
   rw[yab]at b;obtain rfl:=yag b.1;obtain⟨s1,s2,d,c⟩:=s.ok g.gx
   exact zt3 s1 s2 d c (fa.ok g.gx).2.1 (zad fa.q) b.2⟩
 |_=>none
def zCp(nm:Names)(N:List Str)(m:Str)(ap cp pos:Pos)(o:Expr):∀a,Option (Ds G nm N own (.Expr (.Call (.Attribute o m ap) [a] [] cp) pos))
 |.Tuple es kk p2=>gd (decide (m="append")&&(ap.endLine==cp.line)) fun b=>(faG G nm N o).bind fun t=>gd (zvm t.f) fun _=>(quL G nm N es).map fun gs=>⟨zlq G.ob.cur t.f t.i gs.gs,fun g=>by
   rw[yab]at b;obtain rfl:=yag b.1;obtain⟨i,f,ok⟩:=t;obtain⟨x,p,e,rfl,s1,s2,d,c,fk⟩:=ok g.gx
   exact zrI s1 s2 d c g.gx.same fk rfl (gs.ok g.gx) rfl b.2⟩
 |a=>gd (decide (m="append")&&(ap.endLine==cp.line)) fun b=>(faG G nm N o).bind fun t=>gd (zvm t.f) fun _=>(quG G nm N a).map fun q=>⟨zlr G.ob.cur t.f t.i q.q,fun g=>by
   rw[yab]at b;obtain rfl:=yag b.1;obtain⟨i,f,ok⟩:=t;obtain⟨x,p,e,rfl,s1,s2,d,c,fk⟩:=ok g.gx
   exact zrJ s1 s2 d c g.gx.same fk rfl (q.ok g.gx) rfl q.pl b.2⟩
def zyp(nm:Names)(N:List Str)(pos:Pos):∀e,Option (Ds G nm N own (.Expr e pos))
 |.Call (.Attribute o m ap) [.Name y py,.Constant .none j p2] [] cp=>gd (decide (m="pop")&&(ap.endLine==cp.line)) fun b=>(faG G nm N o).bind fun t=>gd (zq7 t.f) fun _=>(slO G nm N y).map fun s=>⟨zln G.ob.cur t.f t.i (zbF s.i),fun g=>by
   rw[yab]at b;obtain rfl:=yag b.1;obtain⟨i,f,ok⟩:=t;obtain⟨x,p,h,rfl,s1,s2,d,c,fk⟩:=ok g.gx
   exact zrC s1 s2 d c g.gx.same fk rfl (s.v g.gx).2.2 ⟨rfl,rfl,b.2,rfl⟩⟩
 |.Call (.Attribute o m ap) [a] [] cp=>(zCp nm N m ap cp pos o a).or ((zCo rc nm N m ap cp pos a o).or (zAg rc nm N pos _))|e=>zAg rc nm N pos e
def zBc(nm:Names)(N:List Str)(e:Expr)(pos:Pos):∀own,Option (Ds G nm N own (.Return (some e) pos))
 |true=>(match e with
  |.Name x _=>(slO G nm N x).map fun s=>⟨zik s.i,fun g=>by
    obtain⟨s1,s2,c,b⟩:=s.ok g.gx
    exact zrx s1 s2 c b⟩
  |e=>(rc nm N e).bind fun a=>gd a.o fun d=>some ⟨zaK a.f,fun g=>zry ((a.ok g.gx).1 d)⟩)
 |false=>(rc nm N e).map fun a=>⟨zaK a.f,fun g=>ztY (a.ok g.gx).2.1⟩
def zxC{cl k X E}(g:Gd cl G k X nm N E)(h:zaZ nm c=true)(U:G.exc c=true)(J:args.isEmpty=false)(a:DL G nm N args):PS X (.Raise (some (.Call (.Name c p) args [] cp)) none pos) (tS cl E own (sRz c a.fs)):=by
 cases args with
 |nil=>cases J|cons e es=>
 obtain⟨m,z⟩:=g.gx.gok.exc c U;have a2:=a.q;rw[ybZ,yab]at a2;refine PS.imp (zm2 g.raises g.gx.calm (g.gx.glob h).1 m z (a.ok g.gx) (zaG a2.1) (zbQ a2.2) (g.gx.glob h).2.1) ?_;rintro i σ H ⟨B,w,ρ,S,rfl,R,q⟩;refine⟨B,w,ρ,S,rfl,R,?_⟩;unfold sRz at q
 cases hv:zah a.fs ρ S with
 |bad=>rwa[hv]at q|exc c S1=>rw[hv]at q;exact fun w' d f=>q σ w' d f|ok ds S1=>
  rw[hv]at q;dsimp only at q
  cases b:zax ds.length with
  |false=>rw[b,if_neg (by decide)]at q;exact q.elim
  |true=>
   rw[b,if_pos rfl]at q;exact fun vs w' d f sh=>⟨by rw[sh.length];exact zaM b,q σ w' d f⟩
def stG(rs:∀b,Option (Dss G nm N own b)):∀st,Option (Ds G nm N own st)
 |.Assign [tg] e p=>zCm rc nm N e p tg|.Expr e p=>zyp rc nm N p e|.Return (some e) p=>zBc rc nm N e p own|.If c a b _=>gd (zc1 c) fun ht=>(rc nm N c).bind fun fc=>(rs a).bind fun fa=>(rs b).map fun fb=>⟨sIf fc.f fa.f fb.f,fun g=>zxp ((fc.ok g.gx).2.2 ht) (fa.ok g) (fb.ok g)⟩|.For tg it body [] _=>(zvM rc nm N tg it).bind fun i=>(tgG G nm N N.length tg).bind fun t=>(rs body).map fun b=>⟨zjq t.t i.f b.f,fun g=>zt0 g.own g.gx.calm (i.ok g.gx) (t.ok g.gx) (b.ok g) (zhs i.q)⟩|.Raise (some (.Call (.Name c _) args [] _)) none _=>gd (zaZ nm c&&G.exc c&&!args.isEmpty) fun d=>(shL rc nm N args).map fun a=>⟨sRz c a.fs,fun g=>by
   simp only[yab,yaJ]at d
   exact zxC g d.1.1 d.1.2 d.2 a⟩
 |_=>none
end
def blk(ds:∀st,Option (Ds G nm N own st)):∀b,Option (Dss G nm N own b)
 |[]=>some ⟨sNx,fun _=>ztZ⟩|s::r=>(ds s).bind fun f=>(blk ds r).map fun h=>⟨zac f.f h.f,fun g=>zrH (f.ok g) (h.ok g)⟩
def zv2(G:Genv)(nm:Names)(N:List Str)(own:Bool):Nat->∀st,Option (Ds G nm N own st)
 |0=>fun _=>none|n+1=>fun st=>(stG (zAh G n) (blk (zv2 G nm N own n)) st).map fun a=>⟨sFz (zsj n own nm N st) a.f,fun g=>zxq _ (a.ok g)⟩
noncomputable def zaT(J:Nat)(own:Bool)(fs:Fs)(ds:List D)(S:Sto):Out D:=match fs (ds.map (fun d=>some (false,d))++List.replicate (J-ds.length) none) S with
 |.rt d S'=>.ok d S'|.nx _ S'=>if own then .bad else .ok .non S'
 |.ex c _ S'=>.exc c S'|_=>.bad
def zi2(G:Genv)(own:Bool)(N:List Str)(st:Stmt):Option Fs:=(blk (zv2 G (zaL st).names N own 40) (zbX st)).map Dss.f
def zv1{cl k X E}{G:Genv}{own:Bool}{N:List Str}{st:Stmt}{f:Fs}(h:zi2 G own N st=some f)(g:Gd cl G k X (zaL st).names N E):PSs X (zbX st) (tS cl E own f):=by
 obtain⟨a,_,rfl⟩:=ybx.mp h;exact a.ok g
section
variable{cl:Cf}
theorem ztg(J:zjh cl n own (zaT N.length own fs) vs H Q X):tS cl (fun _=>X) own fs {nx:=fun _ H'=>Q .non H',rt:=Q} (L2.zgq N vs) H:=by
 obtain⟨m,B,w,ds,k,rfl,W,sh,q⟩:=J;have g:ds.length=vs.length:=sh.length.symm;refine⟨B,w,ds.map (fun d=>some (false,d))++List.replicate (N.length-ds.length) none,k,rfl,⟨W,?_,fun i o d hi=>?_⟩,?_⟩
 ·unfold L2.zgq;rw[yak,yak,yae,yae,ya2,ya2,g]
 ·by_cases f:i<ds.length
  ·rw[yaF (by rw[yae];exact f),yax]at hi
   cases a:ds[i]? with
   |none=>rw[a]at hi;cases hi|some d'=>
    rw[a]at hi;cases hi;obtain⟨v,l,e2⟩:=sh.at a;refine⟨v,?_,e2⟩;unfold L2.zgq;rw[yaF (by rw[yae];omega),yax,l];rfl
  ·rw[yaA (by rw[yae];omega),ycb]at hi
   split at hi<;>cases hi
 ·unfold zaT at q
  cases hf:fs (ds.map (fun d=>some (false,d))++List.replicate (N.length-ds.length) none) k with
  |bad=>rwa[hf]at q|bk _ _=>rw[hf]at q;exact q.elim|ct _ _=>rw[hf]at q;exact q.elim|rt d S'=>rwa[hf]at q|ex c e S'=>rw[hf]at q;exact fun b w' h j=>q w' h.wd j|nx e S'=>
   rw[hf]at q;dsimp only at q
   cases own with
   |true=>exact q.elim|false=>exact fun b w' h j=>q .non w' h.wd j .non
end
theorem zpZ{P:Program}{wo:PySem.World}{K:PySem.W.Frag}{mg:Z6}{base:Heap}{cl:Cf}{G:Genv}{k:Nat}{x qual:Str}{st:Stmt}{f:Addr}{fd:FuncData}{N ps:List Str}{own:Bool}{fs:Fs}(F:Fun K x qual st f fd)(S:FnScope N ps (zaL st))(hG:GOk cl G P wo K mg base k)
  (hk:K=cl.K) (U:P=cl.P) (J:wo=cl.wo) (hd:zi2 G own N st=some fs):FnOk P wo K mg base (CXE P wo) (k+1) f fd ps (zjh cl ps.length own (zaT N.length own fs)):=by
 obtain⟨oc,j,kV,doc,pm,an,i,ct,b,rfl,c,hcd⟩:=F.ex;refine zyk c hcd S (fun vs H Q E h=>h.1) fun A outer s H vs Q E g a=>⟨tS cl (fun _=>E) own fs,zv1 hd (k:=k) ⟨⟨hG,g,rfl,fun pins σ H1 s1 e s' I q=>zxM pins σ H1 s1 e s' I q,rfl,hk,U,J,S.nd,fun x d h=>⟨d,h,.inl rfl⟩,(fun x h=>h),(fun x h=>rfl)⟩,S.kind,rfl,PassesOwn.leaving,fun C pins σ H1 s1 e h' vs I mk q=>zr4 C pins σ H1 s1 e h' vs I mk q⟩,ztg a⟩
noncomputable def inC(j:Nat):Stmt->Stmt|.ClassDef _ _ _ b ..=>b.getD j (.Pass ⟨0,0,0,0⟩)|s=>s
structure Tab where
 con:List (Str×D)
 blt:List Str
 exc:List Str
 und:List (Str×Str)
 rz:List Str
 fk:List (Str×Str)
 df:List Str
 ds:List Str
noncomputable def zyb(rz exc:List Str)(c C:Str):Option Bool:=if rz.contains c then(if C="ValueError"then some true else if exc.contains C then some (decide (C=c)||decide (C="FloorError"))else none)else none
noncomputable def zzi(l:List (Str×Str))(c C:Str):Bool:=l.contains (c,C)
structure Fn3 where
 cur:Str
 fs:List (Str×FnI)
 ms:List (Str×Str×FnI)
 ks:List (Str×List D×FnI)
def Gn(T:Tab)(F:Fn3):Genv:=⟨fun x=>T.con.lookup x,fun x=>F.fs.lookup x,fun x=>T.blt.contains x,fun x=>T.exc.contains x,zzi T.und,zyb T.rz T.exc,⟨F.cur,zzi T.fk,fun f=>T.df.contains f,fun m=>F.ms.lookup m,fun c=>F.ks.lookup c⟩,fun x=>T.ds.contains x⟩
noncomputable def Fn3.fn(F:Fn3)(x:Str)(fi:FnI):Fn3:=⟨F.cur,(x,fi)::F.fs,F.ms,F.ks⟩
noncomputable def Fn3.mt(F:Fn3)(m c:Str)(fi:FnI):Fn3:=⟨F.cur,F.fs,(m,c,fi)::F.ms,F.ks⟩
noncomputable def Fn3.cls(F:Fn3)(c:Str)(ah:List D)(fi:FnI):Fn3:=⟨F.cur,F.fs,F.ms,(c,ah,fi)::F.ks⟩
noncomputable def Fn3.at(F:Fn3)(c:Str):Fn3:=⟨c,F.fs,F.ms,F.ks⟩
section
variable{cl:Cf}{T:Tab}{P:Program}{wo:PySem.World}{K:PySem.W.Frag}{mg:Z6}{base:Heap}{k:Nat}{fs:Fn3}
def zcy{α:Type}{a:α}{l:List (Str×α)}{b:α}(h:((x,a)::l).lookup y=some b):(y=x/\b=a)\/l.lookup y=some b:=by
 rw[yaM]at h
 cases e:y==x with
 |true=>rw[e]at h;cases h;exact .inl ⟨eq_of_beq e,rfl⟩|false=>rw[e]at h;exact .inr h
def zgR{α:Type}{p:α->Prop}:∀x∈([]:List α),p x:=fun _ h=>nomatch h
def zaA{α:Type}{p:α->Prop}{a:α}{l:List α}(h:p a)(t:∀x∈l,p x):∀x∈a::l,p x:=fun x b=>(yau.mp b).elim (fun e=>e ▸ h) (t x)
theorem ziM{α:Type}{a:α}:∀{l:List (Str×α)},l.lookup x=some a->(x,a)∈l
 |[],h=>by cases h
 |(y,b)::l,h=>by
  rcases zcy h with⟨rfl,rfl⟩|h
  ·exact yan
  ·exact yal _ (ziM h)
noncomputable def zyI(K:PySem.W.Frag)(cl:Cf)(exc:List Str)(c:Str):Prop:=PySem.W.ExcCls K (cl c)/\PySem.W.kitOne K (.ref (cl c)) (.type "ValueError")=some true/\∀C∈exc,PySem.W.kitOne K (.ref (cl c)) (.ref (cl C))=some (decide (C=c)||decide (C="FloorError"))
def zB6(U:∀p∈T.con,∃v u,mg p.1=some u/\zaV v u/\∀w,Shd cl w v p.2)(hb:∀x∈T.blt,mg x=none)(he:∀c∈T.exc,mg c=some (.ref (cl c))/\PySem.W.excIn K (cl c) bmV "ValueError.__new__"=true)(hu:∀p∈T.und,L2.zws K (cl p.1) (cl p.2))(hx:∀c∈T.rz,zyI K cl T.exc c)(J:∀p∈T.fk,Cls cl.K (cl p.1)/\zcE cl.K (cl p.1) p.2):GOk cl (Gn T ⟨"",[],[],[]⟩) P wo K mg base 0 where
 fk:=fun c f h=>J (c,f) (by simpa using(show T.fk.contains (c,f)=true from h))
 mt:=fun m c fi h=>by cases h
 mks:=fun c ah fi h=>by cases h
 con:=fun x d h=>U (x,d) (ziM h)
 fn:=fun x fi h=>by cases h
 blt:=fun x h=>hb x (by simpa using(show T.blt.contains x=true from h))
 exc:=fun c h=>he c (by simpa using(show T.exc.contains c=true from h))
 und:=fun c C h=>hu (c,C) (by simpa using(show T.und.contains (c,C)=true from h))
 isx:=fun c C b h=>by
  have h':zyb T.rz T.exc c C=some b:=h;unfold zyb at h';split at h'
  ·rename_i U;obtain⟨i,g,e⟩:=hx c (by simpa using U);refine⟨i,?_⟩;unfold zAi;split at h'
   ·rename_i a;cases h';rw[if_pos a];exact g
   ·rename_i a;rw[if_neg a];split at h'
    ·rename_i hm;cases h';exact e C (by simpa using hm)
    ·cases h'
  ·cases h'
def GOk.add(g:GOk cl (Gn T fs) P wo K mg base k)(m:mg x=some (.ref f))(kp:PySem.W.keepIn K (.ref f)=true)(b:zdm K fd ps [])(F:FnOk P wo K mg base (CXE P wo) (k+1) f fd ps (zjh cl fi.ar fi.own fi.run)):
  GOk cl (Gn T (fs.fn x fi)) P wo K mg base (k+1)where
 con:=g.con
 fn:=fun y l h=>by
  rcases zcy h with⟨rfl,rfl⟩|h
  ·exact⟨f,fd,ps,m,kp,b,F⟩
  ·obtain⟨e,d,a,h1,h2,j,i⟩:=g.fn y l h;exact⟨e,d,a,h1,h2,j,i.mono (yb3 _)⟩
 blt:=g.blt
 exc:=g.exc
 und:=g.und
 isx:=g.isx
 fk:=g.fk
 mt:=fun m c fi h=>by
  obtain⟨e,d,a,h1,h2,j,i⟩:=g.mt m c fi h;exact⟨e,d,a,h1,h2,j,i.mono (yb3 _)⟩
 mks:=fun c ah fi h=>by
  obtain⟨e,d,a,dvs,ds,k',hk,z⟩:=g.mks c ah fi h;exact⟨e,d,a,dvs,ds,k',Nat.le_succ_of_le hk,z⟩
theorem GOk.at(g:GOk cl (Gn T fs) P wo K mg base k)(c:Str):GOk cl (Gn T (fs.at c)) P wo K mg base k:=⟨g.con,g.fn,g.blt,g.exc,g.und,g.isx,g.fk,g.mt,g.mks⟩
def GOk.up(g:GOk cl (Gn T fs) P wo K mg base k)(hk:k<=k'):GOk cl (Gn T fs) P wo K mg base k' where
 con:=g.con
 fn:=fun y l h=>by
  obtain⟨d,b,a,h1,h2,f,e⟩:=g.fn y l h;exact⟨d,b,a,h1,h2,f,e.mono hk⟩
 blt:=g.blt
 exc:=g.exc
 und:=g.und
 isx:=g.isx
 fk:=g.fk
 mt:=fun m c fi h=>by
  obtain⟨d,b,a,h1,h2,f,e⟩:=g.mt m c fi h;exact⟨d,b,a,h1,h2,f,e.mono hk⟩
 mks:=fun c ah fi h=>by
  obtain⟨d,b,a,dvs,ds,j,i,z⟩:=g.mks c ah fi h;exact⟨d,b,a,dvs,ds,j,yas i hk,z⟩
def GOk.addM(g:GOk cl (Gn T fs) P wo K mg base k)(J:Cls K (cl c))(hm:Meth K (cl c) m f)(b:zdm K fd ps [])(F:FnOk P wo K mg base (CXE P wo) k f fd ps (zjh cl fi.ar fi.own fi.run)):
  GOk cl (Gn T (fs.mt m c fi)) P wo K mg base k where
 con:=g.con
 fn:=g.fn
 blt:=g.blt
 exc:=g.exc
 und:=g.und
 isx:=g.isx
 fk:=g.fk
 mt:=fun d c' a h=>by
  rcases zcy h with⟨rfl,e⟩|h
  ·cases e;exact⟨f,fd,ps,J,hm,b,F⟩
  ·exact g.mt d c' a h
 mks:=g.mks
def GOk.addK(g:GOk cl (Gn T fs) P wo K mg base k)(hk:k'+1<=k)(hm:mg c=some (.ref (cl c)))(M:Mk K (cl c) f)(b0:zdm K fd ps [])(bD:zdm K fd ps ds)(J:Vals dvs ds)(U:∀w,Shds cl w dvs ah)(F:FnOk P wo K mg base (CXE P wo) k' f fd ps (zjh cl fi.ar false fi.run)):
  GOk cl (Gn T (fs.cls c ah fi)) P wo K mg base k where
 con:=g.con
 fn:=g.fn
 blt:=g.blt
 exc:=g.exc
 und:=g.und
 isx:=g.isx
 fk:=g.fk
 mt:=g.mt
 mks:=fun c' a b h=>by
  rcases zcy h with⟨rfl,e⟩|h
  ·cases e;exact⟨f,fd,ps,dvs,ds,k',hk,hm,M,b0,bD,J,U,F⟩
  ·exact g.mks c' a b h
end
noncomputable def zoV(K:PySem.W.Frag):Sp:=fun vs H Q _=>∃(a:Addr) (ns:List Int),vs=[.ref a]/\ns.length<=63/\zwT H/\SqL K H a (ns.map V.int)/\∀H',Q (.bl true) H'
def zvo{cl:Cf}(U:cl.tabs=fun _=>none){run:List D->Sto->Out D}(J:∀l:List Int,l.length<=63->∃S,run [.scr l] []=.ok (.bl true) S):∀vs H Q E,zoV cl.K vs H Q E->zjh cl 1 false run vs H Q E:=by
 rintro vs H Q E ⟨a,ns,rfl,c,d,b,q⟩;refine⟨rfl,⟨fun _=>none,fun _=>none⟩,⟨H,fun _=>none,[]⟩,[.scr ns],[],rfl,⟨(fun a o h=>by cases h),(fun a r h=>by cases h),rfl,(fun n ob h=>by simp at h),fun P w h=>by rw[U]at h;cases h⟩,.cons ?_ .nil,?_⟩
 ·rcases b with(b|⟨o,b⟩)|b
  ·rcases d a with z|⟨o,xs,z⟩
   ·rw[b]at z;cases z
   ·rw[b]at z;cases z
  ·exact .scr b rfl
  ·exact .scrK fun H=>.inr b
 ·obtain⟨S',e⟩:=J ns c;rw[e];intro v w' _ _ r;have r':Shd cl w' v (.bl true):=r;cases r';exact q _
noncomputable abbrev Rn:=List D->Sto->Out D
structure FnT(K:PySem.W.Frag)(x q:Str)(st:Stmt)(f:Addr):Prop where
 ex:∃(oc:Value) (od:Option Addr) (kV dc pm:Value) (an:Option Addr) (cd ct:Value) (sl:Array (Option Value)),K.lookup f=some ⟨oc,od,.func (PySem.W.fnOf x q (zcL st) (zbX st) (zaL st) .none kV dc pm an cd ct),sl⟩/\PySem.W.codeIn K cd q=true/\PySem.W.keepIn K (.ref f)=true/\PySem.W.isFn K (.ref f)=true
structure GFn(K:PySem.W.Frag)(x:Str)(st:Stmt):Prop where
 ex:∃f,PySem.W.nsIn K mainGlobals x=some (some (.ref f))/\FnT K x x st f
structure MFn(K:PySem.W.Frag)(C:Addr)(m q:Str)(st:Stmt):Prop where
 ex:∃f,PySem.W.findIn K (.ref C) m=some (some (.ref f))/\FnT K m q st f
noncomputable def BB(x q:Str)(st:Stmt)(ps:List Str):Prop:=∀(kV doc pm:Value) (an:Option Addr) (a ct:Value) (us:List Value),us.length=ps.length->bindArgs (PySem.W.fnOf x q (zcL st) (zbX st) (zaL st) .none kV doc pm an a ct) ⟨us,[]⟩=pure (ps.zip us)
def bb0{p:List Value->Prop}(h:p []):∀us:List Value,us.length=0->p us:=fun us e=>by rw[ya1 e];exact h
def bbS{n:Nat}{p:List Value->Prop}(h:∀a:Value,∀us:List Value,us.length=n->p (a::us)):∀us:List Value,us.length=n+1->p us:=fun us e=>by
 cases us with
 |nil=>cases e|cons a us=>exact h a us (Nat.succ.inj e)
def bb1{p:List Value->Prop}(h:∀a0:Value,p [a0]):∀us:List Value,us.length=1->p us:=bbS fun a0=>bb0 (h a0)
def bb2{p:List Value->Prop}(h:∀a0 a1:Value,p [a0,a1]):∀us:List Value,us.length=2->p us:=bbS fun a0=>bbS fun a1=>bb0 (h a0 a1)
def bb3{p:List Value->Prop}(h:∀a0 a1 a2:Value,p [a0,a1,a2]):∀us:List Value,us.length=3->p us:=bbS fun a0=>bbS fun a1=>bbS fun a2=>bb0 (h a0 a1 a2)
def bb4{p:List Value->Prop}(h:∀a0 a1 a2 a3:Value,p [a0,a1,a2,a3]):∀us:List Value,us.length=4->p us:=bbS fun a0=>bbS fun a1=>bbS fun a2=>bbS fun a3=>bb0 (h a0 a1 a2 a3)
def bb5{p:List Value->Prop}(h:∀a0 a1 a2 a3 a4:Value,p [a0,a1,a2,a3,a4]):∀us:List Value,us.length=5->p us:=bbS fun a0=>bbS fun a1=>bbS fun a2=>bbS fun a3=>bbS fun a4=>bb0 (h a0 a1 a2 a3 a4)
def bb6{p:List Value->Prop}(h:∀a0 a1 a2 a3 a4 a5:Value,p [a0,a1,a2,a3,a4,a5]):∀us:List Value,us.length=6->p us:=bbS fun a0=>bbS fun a1=>bbS fun a2=>bbS fun a3=>bbS fun a4=>bbS fun a5=>bb0 (h a0 a1 a2 a3 a4 a5)
section
variable{cl:Cf}{T:Tab}{P:Program}{wo:PySem.World}{K:PySem.W.Frag}{mg:Z6}{base:Heap}{k:Nat}{fs:Fn3}
def FnT.un{x q:Str}{st:Stmt}{f:Addr}{ps:List Str}(p:FnT K x q st f)(b:BB x q st ps):∃fd,Fun K x q st f fd/\zdm K fd ps []/\PySem.W.keepIn K (.ref f)=true/\PySem.W.isFn K (.ref f)=true:=by
 obtain⟨oc,d,kV,e,pm,an,cd,ct,a,l,c,kp,i⟩:=p.ex;have U:=zq4 (st:=st) l c kp;exact⟨_,U,U.binds b,kp,i⟩
end
open PySem
open L2 hiding D
noncomputable def zdX:Fs:=
  (zac (sFz [] (zaK (zgV (eUn (zeA "int") (zaf 0)) (eUn zcn (eUn (zeA "bool") (zaf 0))))))
  sNx)
noncomputable def zaO:List S2.D->Sto->Out S2.D:=zaT 1 false zdX
noncomputable def zb3:Fs:=
  (zac (sFz [] (zaK (zgV (eUn (zeA "tuple") (zaf 0)) (zcm leD leD (zaf 1) (zal zd1 [(zaf 0)]) (zaf 2)))))
  sNx)
noncomputable def zak:List S2.D->Sto->Out S2.D:=zaT 3 false zb3
noncomputable def zed:Fs:=
  (zac (sFz [0] (zaK (zgV (eFn zaO [(zaa 0)]) (zcm leD leD (zab (.int 0)) (zaf 0) (zab (.int 8))))))
  sNx)
noncomputable def zc4:List S2.D->Sto->Out S2.D:=zaT 1 false zed
noncomputable def zge:Fs:=
  (zac (sFz [0,0] (zaK (zgV (eFn zak [(zaa 0),(zab (.int 4)),(zab (.int 4))]) (zal zk9 [(za2 1 (.one 0) (zap (zaa 0)) zbv (eFn zc4 [(zaa 0)]) [])]))))
  sNx)
noncomputable def zds:List S2.D->Sto->Out S2.D:=zaT 1 false zge
noncomputable def zhK:Fs:=
  (zac (sFz [0] (sIf (eUn zcn (eFn zak [(zaa 0),(zab (.int 1)),(zab (.int 16))])) (zac (sFz [] (zaK (zab (.bl false)))) sNx) sNx))
  (zac (sFz [0,0] (zaK (zgV (zal zk9 [(za2 1 (.one 0) (zap (zaa 0)) zbv (eFn zds [(zaa 0)]) [])]) (zae eqD (eUn zd6 (zaa 0)) (zal zd1 [(zaf 0)])))))
  sNx))
noncomputable def zb0:List S2.D->Sto->Out S2.D:=zaT 1 false zhK
noncomputable def zcB:Fs:=
  (zac (sFz [1] (zaK (zgV (eFn zaO [(zaa 1)]) (zcm leD ltD (zab (.int 0)) (zaf 1) (zal zd1 [(zaf 0)])))))
  sNx)
noncomputable def zbk:List S2.D->Sto->Out S2.D:=zaT 2 false zcB
noncomputable def zeB:Fs:=
  (zac (sFz [0,1] (zaK (eOr (zae zji (zaf 1) (zab .non)) (eFn zbk [(zaa 0),(zaa 1)]))))
  sNx)
noncomputable def zcS:List S2.D->Sto->Out S2.D:=zaT 2 false zeB
noncomputable def zhL:Fs:=
  (zac (sFz [1,1,0] (zaK (zgV (eFn zak [(zaa 1),(zab (.int 1)),(zab (.int 6))]) (zal zk9 [(za2 1 (.one 0) (zap (zaa 1)) zbv (eFn zcS [(zaa 1),(zaa 0)]) [0])]))))
  sNx)
noncomputable def zer:List S2.D->Sto->Out S2.D:=zaT 2 false zhL
noncomputable def ze6:Fs:=
  (zac (sFz [1] (sIf (eUn zcn (eFn zak [(zaa 1),(zab (.int 1)),(zab (.int 6))])) (zac (sFz [] (zaK (zab (.bl false)))) sNx) sNx))
  (zac (sFz [1,0] (sIf (eUn zcn (zal zk9 [(za2 1 (.one 0) (zap (zaa 1)) zbv (eFn zer [(zaa 1),(zaa 0)]) [0])])) (zac (sFz [] (zaK (zab (.bl false)))) sNx) sNx))
  (zac (sFz [1,1] (zaK (zal zk9 [(za2 1 (.one 0) (zap (zaa 1)) zbv (zae eqD (zal zd1 [(zaf 0)]) (zal zd1 [(zae ixD (zaf 1) (zab (.int 0)))])) [1])])))
  sNx)))
noncomputable def za7:List S2.D->Sto->Out S2.D:=zaT 2 false ze6
noncomputable def zjM:Fs:=
  (zac (sFz [] (zaK (zae zjF (zgw [(zae zjF (zgw [(zab .non)]) (zaf 1))]) (zaf 0))))
  sNx)
noncomputable def zho:List S2.D->Sto->Out S2.D:=zaT 2 false zjM
noncomputable def zgd:Fs:=
  (zac (sFz [] (zbM 1 false (eIf (zae gtD (zal zd1 [(zaf 0)]) (zab (.int 0))) (zal zd1 [(zae ixD (zaf 0) (zab (.int 0)))]) (zab (.int 0)))))
  (zac (sFz [1] (zaK (zgw [(zal zd1 [(zaf 0)]),(zaa 1)])))
  sNx))
noncomputable def zaN:List S2.D->Sto->Out S2.D:=zaT 2 false zgd
noncomputable def zb5:Fs:=
  (zac (sFz [3,4] (zl4 2 (zgw [(zaa 3),(zaa 4)]))) sNx)
noncomputable def zdh:Fs:=
  (zac (sFz [] (zjq (.one 4) (zeG (zae ixD (zaf 1) (zab (.int 1)))) zb5)) sNx)
noncomputable def zea:Fs:=
  (zac (sFz [0] (zbM 1 false (eFn zaN [(zaa 0)])))
  (zac (sFz [] (zbM 2 true (zk0 [])))
  (zac (sFz [] (zjq (.one 3) (zeG (zae ixD (zaf 1) (zab (.int 0)))) zdh))
  (zac (sFz [] (zik 2))
  sNx))))
noncomputable def zbA:List S2.D->Sto->Out S2.D:=zaT 5 true zea
noncomputable def zdc:Fs:=
  (zac (sFz [1] (zaK (eFn zak [(zaa 1),(zal zd1 [(zaf 0)]),(zal zd1 [(zaf 0)])])))
  sNx)
noncomputable def zbp:List S2.D->Sto->Out S2.D:=zaT 2 false zdc
noncomputable def zeC:Fs:=
  (zac (sFz [1] (sIf (eUn zcn (eFn zak [(zaa 1),(zal zd1 [(zaf 0)]),(zal zd1 [(zaf 0)])])) (zac (sFz [] (zaK (zab (.bl false)))) sNx) sNx))
  (zac (sFz [0,1] (zaK (zal zk9 [(za2 2 (.tup [0,1]) (zp5 (zaa 0) (zaa 1)) zbv (eFn zbp [(zaa 0),(zaa 1)]) [])])))
  sNx))
noncomputable def zcT:List S2.D->Sto->Out S2.D:=zaT 2 false zeC
noncomputable def zbs:Fs:=
  (zac (sFz [0,1] (sIf (eUn zcn (eFn zcT [(zaa 0),(zaa 1)])) (zac (sFz [] (sRz "Unlike" [(zab (.str "the sizes are unlike"))])) sNx) sNx))
  sNx)
noncomputable def za4:List S2.D->Sto->Out S2.D:=zaT 2 false zbs
noncomputable def zeb:Fs:=
  (zac (sFz [] (zaK (zae ixD (zae ixD (zaf 0) (zae ixD (zaf 1) (zab (.int 0)))) (zae ixD (zaf 1) (zab (.int 1))))))
  sNx)
noncomputable def zas:List S2.D->Sto->Out S2.D:=zaT 2 false zeb
noncomputable def zda:Fs:=
  (zac (sFz [0,0] (zaK (za2 1 (.one 0) (zap (eFn zbA [(zaa 0)])) (zae zlF (eFn zas [(zaa 1),(zaa 0)]) (zab .non)) (zaa 0) [0])))
  sNx)
noncomputable def zbo:List S2.D->Sto->Out S2.D:=zaT 1 true zda
noncomputable def zdz:Fs:=
  (zac (sFz [0,0] (zaK (za2 1 (.one 0) (zap (eFn zbo [(zaa 0)])) zbv (eFn zas [(zaa 1),(zaa 0)]) [0])))
  sNx)
noncomputable def zcp:List S2.D->Sto->Out S2.D:=zaT 1 true zdz
noncomputable def zcI:Fs:=
  (zac (sFz [1,1,0] (zaK (zal zk9 [(za2 1 (.one 0) (zap (eFn zbo [(zaa 1)])) zbv (zae eqD (eFn zas [(zaa 2),(zaa 0)]) (eFn zas [(zaa 1),(zaa 0)])) [1,0])])))
  sNx)
noncomputable def zbJ:List S2.D->Sto->Out S2.D:=zaT 2 false zcI
noncomputable def zee:Fs:=
  (zac (sFz [1] (sIf (eOr (eUn zcn (eFn zak [(zaa 1),(zab (.int 2)),(zab (.int 2))])) (eOr (eUn zcn (eFn zaO [(zae ixD (zaf 1) (zab (.int 0)))])) (eUn zcn (eFn zaO [(zae ixD (zaf 1) (zab (.int 1)))])))) (zac (sFz [] (zaK (zab (.bl false)))) sNx) sNx))
  (zac (sFz [0] (zbM 2 false (eFn zaN [(zaa 0)])))
  (zac (sFz [] (zaK (zgV (zcm leD ltD (zab (.int 0)) (zae ixD (zaf 1) (zab (.int 0))) (zae ixD (zaf 2) (zab (.int 0)))) (zcm leD ltD (zab (.int 0)) (zae ixD (zaf 1) (zab (.int 1))) (zae ixD (zaf 2) (zab (.int 1)))))))
  sNx)))
noncomputable def zbC:List S2.D->Sto->Out S2.D:=zaT 3 false zee
noncomputable def zdC:Fs:=
  (zac (sFz [1,2,0,1,2] (sIf (eOr (eUn zcn (eFn zbC [(zaa 1),(zaa 2)])) (eUn zcn (eFn zbk [(zaa 0),(eFn zas [(zaa 1),(zaa 2)])]))) (zac (sFz [] (zaK (zab .non))) sNx) sNx))
  (zac (sFz [1,2] (zaK (zae ixD (zae ixD (zaf 0) (eFn zas [(zaa 1),(zaa 2)])) (zaf 3))))
  sNx))
noncomputable def zaP:List S2.D->Sto->Out S2.D:=zaT 4 false zdC
noncomputable def zcJ:Fs:=
  (zac (sFz [] (zbM 3 false (zgw [(zae ixD (zaf 2) (zab (.int 0))),(zae zb6 (zae ixD (zaf 2) (zab (.int 1))) (zab (.int 1)))])))
  (zac (sFz [0,1,2,0,1,3] (zaK (zgw [(eFn zaP [(zaa 0),(zaa 1),(zaa 2),(zab (.int 1))]),(eFn zaP [(zaa 0),(zaa 1),(zaa 3),(zab (.int 3))])])))
  sNx))
noncomputable def zbK:List S2.D->Sto->Out S2.D:=zaT 4 false zcJ
noncomputable def zck:Fs:=
  (zac (sFz [] (zbM 3 false (zgw [(zae zb6 (zae ixD (zaf 2) (zab (.int 0))) (zab (.int 1))),(zae ixD (zaf 2) (zab (.int 1)))])))
  (zac (sFz [0,1,2,0,1,3] (zaK (zgw [(eFn zaP [(zaa 0),(zaa 1),(zaa 2),(zab (.int 2))]),(eFn zaP [(zaa 0),(zaa 1),(zaa 3),(zab (.int 0))])])))
  sNx))
noncomputable def zbq:List S2.D->Sto->Out S2.D:=zaT 4 false zck
noncomputable def zbh:Fs:=
  (zac (sFz [0,1] (zaK (zal zbu [(za2 1 (.one 0) (zta (zaa 0)) zbv (zae ixD (zaf 0) (zaf 1)) [1])])))
  sNx)
noncomputable def zaC:List S2.D->Sto->Out S2.D:=zaT 2 false zbh
noncomputable def zcG:Fs:=
  (zac (sFz [0,0] (zaK (zal zbu [(za2 1 (.one 0) (zeG (zae ixD (eFn zaN [(zaa 0)]) (zab (.int 1)))) zbv (eFn zaC [(zaa 1),(zaa 0)]) [0])])))
  sNx)
noncomputable def zbI:List S2.D->Sto->Out S2.D:=zaT 1 false zcG
noncomputable def zhM:Fs:=
  (zac (sFz [0,1] (sIf (zae neD (zae ixD (eFn zaN [(zaa 0)]) (zab (.int 0))) (zae ixD (eFn zaN [(zaa 1)]) (zab (.int 0)))) (zac (sFz [] (sRz "Unlike" [(zab (.str "the floors have not as many rows"))])) sNx) sNx))
  (zac (sFz [0,1] (zaK (zal zbu [(za2 2 (.tup [0,1]) (zp5 (zaa 0) (zaa 1)) zbv (zae zb6 (zaf 0) (zaf 1)) [])])))
  sNx))
noncomputable def zc5:List S2.D->Sto->Out S2.D:=zaT 2 false zhM
noncomputable def zjN:Fs:=
  (zac (sFz [0,1] (sIf (zae neD (zae ixD (eFn zaN [(zaa 0)]) (zab (.int 1))) (zae ixD (eFn zaN [(zaa 1)]) (zab (.int 1)))) (zac (sFz [] (sRz "Unlike" [(zab (.str "the floors have not as many columns"))])) sNx) sNx))
  (zac (sFz [] (zaK (zae zb6 (zaf 0) (zaf 1))))
  sNx))
noncomputable def zdu:List S2.D->Sto->Out S2.D:=zaT 2 false zjN
noncomputable def zgc:Fs:=
  (zac (sFz [] (zaK (eSl (zaf 0) (some (zal ztr [(zaf 1),(zab (.int 0))])) (some (zal ztr [(zae zb6 (zaf 1) (zaf 2)),(zab (.int 0))])))))
  sNx)
noncomputable def zcQ:List S2.D->Sto->Out S2.D:=zaT 3 false zgc
noncomputable def zoa:Fs:=
  (zac (sFz [0,1,3,4,2] (zaK (zal zbu [(za2 1 (.one 0) (zap (eFn zcQ [(zaa 0),(zaa 1),(zaa 3)])) zbv (eFn zcQ [(zaa 0),(zaa 2),(zaa 1)]) [4,2])])))
  sNx)
noncomputable def zkv:List S2.D->Sto->Out S2.D:=zaT 5 false zoa
noncomputable def zgf:Fs:=
  (zac (sFz [0,0] (zaK (za2 1 (.one 0) (zap (eUn zjp (zaa 0))) zbv (zgw [(zaa 0),(eMt zeH 1 (zaf 0))]) [0])))
  sNx)
noncomputable def zes:List S2.D->Sto->Out S2.D:=zaT 1 true zgf
noncomputable def zjK:Fs:=
  (zac (sFz [0] (zaK (eFn zes [(eFn zcp [(zaa 0)])])))
  sNx)
noncomputable def zcf:List S2.D->Sto->Out S2.D:=zaT 1 true zjK
noncomputable def zdI:Fs:=
  (zac (sFz [0,1,3] (zl4 2 (eFn zbK [(zaa 0),(zaa 1),(zaa 3)]))) (zac (sFz [0,1,3] (zl4 2 (eFn zbq [(zaa 0),(zaa 1),(zaa 3)]))) sNx))
noncomputable def ze5:Fs:=
  (zac (sFz [] (zbM 2 true (zk0 [])))
  (zac (sFz [1] (zjq (.one 3) (zap (eFn zbA [(zaa 1)])) zdI))
  (zac (sFz [2] (zaK (za2 1 (.one 0) (zap (zaa 2)) (zae zhZ (zab .non) (zaf 0)) (zaa 0) [])))
  sNx)))
noncomputable def zdQ:List S2.D->Sto->Out S2.D:=zaT 4 true ze5
noncomputable def zjL:Fs:=
  (zac (sFz [0,1] (zbM 2 true (eFn zdQ [(zaa 0),(zaa 1)])))
  (zac (sFz [2] (zbM 3 true (za2 1 (.one 0) (zap (zaa 2)) (zae eqD (zae ixD (zaf 0) (zab (.int 0))) (zae ixD (zaf 0) (zab (.int 1)))) (zaa 0) [])))
  (zac (sFz [] (zaK (zgw [(zal zd1 [(zaf 3)]),(zae ztU (zal zd1 [(zaf 2)]) (zal zd1 [(zaf 3)]))])))
  sNx)))
noncomputable def zeV:List S2.D->Sto->Out S2.D:=zaT 4 false zjL
noncomputable def zdj:Fs:=
  (zac (sFz [] (sIf (zae eqD (zae ixD (zaf 0) (zaf 2)) (zae ixD (zaf 0) (zaf 3))) (zac (sFz [2,3] (zl4 1 (zgw [(zaa 2),(zaa 3)]))) sNx) sNx)) sNx)
noncomputable def zdi:Fs:=
  (zac (sFz [] (zjq (.one 3) (zlO (zae zb6 (zaf 2) (zab (.int 1))) (zal zd1 [(zaf 0)])) zdj)) sNx)
noncomputable def zec:Fs:=
  (zac (sFz [] (zbM 1 true (zk0 [])))
  (zac (sFz [] (zjq (.one 2) (zeG (zal zd1 [(zaf 0)])) zdi))
  (zac (sFz [] (zik 1))
  sNx)))
noncomputable def zcg:List S2.D->Sto->Out S2.D:=zaT 4 true zec
noncomputable def zdb:Fs:=
  (zac (sFz [1] (zbM 3 false (eFn zaN [(zaa 1)])))
  (zac (sFz [0] (zbM 4 false (eFn zkv [(zaa 0),(zae ixD (zaf 2) (zab (.int 0))),(zae ixD (zaf 2) (zab (.int 1))),(zae ixD (zaf 3) (zab (.int 0))),(zae ixD (zaf 3) (zab (.int 1)))])))
  (zac (sFz [1,4,4,1] (zaK (zgV (eFn zcT [(zaa 1),(zaa 4)]) (eFn zbJ [(zaa 4),(zaa 1)]))))
  sNx)))
noncomputable def zbB:List S2.D->Sto->Out S2.D:=zaT 5 false zdb
noncomputable def zgb:Fs:=
  (zac (sFz [0,0,1] (zaK (za2 1 (.one 0) (zap (eFn zbA [(zaa 0)])) (eFn zbB [(zaa 1),(zaa 2),(zaa 0)]) (zaa 0) [0,1])))
  sNx)
noncomputable def zce:List S2.D->Sto->Out S2.D:=zaT 2 true zgb
noncomputable def zd8:Fs:=
  (zac (sFz [0] (zaK (eSm zgv (zab (.str "")) (za2 1 (.one 0) (zap (zaa 0)) zbv (zal zqA [(zaf 0)]) []))))
  sNx)
noncomputable def zby:List S2.D->Sto->Out S2.D:=zaT 1 false zd8
noncomputable def ze0:Fs:=
  (zac (sFz [0] (zaK (eSm zgv (zab (.str "")) (za2 1 (.one 0) (zap (zaa 0)) zbv (zae zb6 (eFn zby [(zaa 0)]) (zab (.str "\n"))) []))))
  sNx)
noncomputable def zdO:List S2.D->Sto->Out S2.D:=zaT 1 false ze0
noncomputable def zb2:Fs:=
  (zac (sFz [] (zaK (eIf (zae zji (zaf 0) (zab .non)) (zab (.str "-")) (zal zqA [(zaf 0)]))))
  sNx)
noncomputable def zaR:List S2.D->Sto->Out S2.D:=zaT 1 false zb2
noncomputable def ze1:Fs:=
  (zac (sFz [0] (zaK (eSm zgv (zab (.str " ")) (za2 1 (.one 0) (zap (zaa 0)) zbv (eFn zaR [(zaa 0)]) []))))
  sNx)
noncomputable def zb7:List S2.D->Sto->Out S2.D:=zaT 1 false ze1
noncomputable def zdA:Fs:=
  (zac (sFz [0] (zaK (eSm zgv (zab (.str "\n")) (za2 1 (.one 0) (zap (zaa 0)) zbv (eFn zb7 [(zaa 0)]) []))))
  sNx)
noncomputable def zcq:List S2.D->Sto->Out S2.D:=zaT 1 false zdA
noncomputable def zdd:Fs:=
  (zac (sFz [0] (zaK (eIf (zae inD (zaf 0) (zab (.str "012345678"))) (eSm zkW (zab (.str "012345678")) (zaa 0)) (zab (.str "?")))))
  sNx)
noncomputable def zbf:List S2.D->Sto->Out S2.D:=zaT 1 false zdd
noncomputable def zd9:Fs:=
  (zac (sFz [0] (zaK (zal zbu [(za2 1 (.one 0) (zap (zaa 0)) zbv (eFn zbf [(zaa 0)]) [])])))
  sNx)
noncomputable def zbz:List S2.D->Sto->Out S2.D:=zaT 1 false zd9
noncomputable def ze3:Fs:=
  (zac (sFz [] (sIf (eUn zcn (eSm zod (zaa 0) (zab (.str "\n")))) (zac (sFz [] (sRz "NoText" [(zab (.str "the last line is not ended"))])) sNx) sNx))
  (zac (sFz [] (zbM 1 false (zal zbu [(za2 1 (.one 0) (zap (eSm zej (eSl (zaf 0) none (some (eUn zsD (zab (.int 1))))) (zab (.str "\n")))) zbv (eFn zbz [(zaa 0)]) [])])))
  (zac (sFz [1] (sIf (eUn zcn (eFn zb0 [(zaa 1)])) (zac (sFz [] (sRz "NoText" [(zab (.str "this is not the writing of a set"))])) sNx) sNx))
  (zac (sFz [1] (zaK (zaa 1)))
  sNx))))
noncomputable def zdP:List S2.D->Sto->Out S2.D:=zaT 2 false ze3
noncomputable def zbi:Fs:=
  (zac (sFz [2] (zgs 1 (eFn zaR [(zaa 2)]) (zaa 2))) sNx)
noncomputable def zbG:Fs:=
  (zac (sFz [] (zbM 1 true (zlR "-" (zab .non))))
  (zac (sFz [] (zjq (.one 2) (zeG (zal zd1 [(zaf 0)])) zbi))
  (zac (sFz [] (zik 1))
  sNx)))
noncomputable def za6:List S2.D->Sto->Out S2.D:=zaT 3 true zbG
noncomputable def ze4:Fs:=
  (zac (sFz [0] (zaK (zal zbu [(za2 1 (.one 0) (zap (eSm zej (zaa 1) (zab (.str " ")))) zbv (zfj (zaa 1) (zaa 0) (zab (.str "?"))) [0])])))
  sNx)
noncomputable def zb8:List S2.D->Sto->Out S2.D:=zaT 2 false ze4
noncomputable def zdx:Fs:=
  (zac (sFz [0] (zbM 2 true (eFn za6 [(zaa 0)])))
  (zac (sFz [2] (zbM 3 false (zal zbu [(za2 1 (.one 0) (zap (eSm zej (zaa 1) (zab (.str "\n")))) zbv (eFn zb8 [(zaa 1),(zaa 0)]) [2])])))
  (zac (sFz [0,3] (sIf (eUn zcn (eFn za7 [(zaa 0),(zaa 3)])) (zac (sFz [] (sRz "NoText" [(zab (.str "this is not the writing of a floor of the set"))])) sNx) sNx))
  (zac (sFz [3] (zaK (zaa 3)))
  sNx))))
noncomputable def zbN:List S2.D->Sto->Out S2.D:=zaT 4 false zdx
noncomputable def ziX:Fs:=
  (zac (sFz [] (sIf (eOr (eUn zcn (eUn (zeA "str") (zaf 0))) (eUn zcn (zcm leD leD (zab (.int 1)) (zal zd1 [(zaf 0)]) (zab (.int 6))))) (zac (sFz [] (zaK (zab (.bl false)))) sNx) sNx))
  (zac (sFz [0] (zaK (zal zk9 [(za2 1 (.one 0) (zap (zaa 0)) zbv (zcm leD leD (zab (.str "a")) (zaf 0) (zab (.str "z"))) [])])))
  sNx))
noncomputable def zdt:List S2.D->Sto->Out S2.D:=zaT 1 false ziX
noncomputable def zbU:Fs:=
  (zac (sFz [0] (sIf (eUn zcn (eFn zdt [(zaa 0)])) (zac (sFz [] (sRz "NoName" [(zab (.str "this is no name"))])) sNx) sNx))
  sNx)
noncomputable def zaU:List S2.D->Sto->Out S2.D:=zaT 1 false zbU
noncomputable def zbW:Fs:=
  (zac (sFz [1] (sIf (eUn zcn (eFn zb0 [(zaa 1)])) (zac (sFz [] (sRz "Unlike" [(zab (.str "this is no set"))])) sNx) sNx))
  (zac (sFz [1] (zmL "Album" "tiles" (zaa 0) (zaa 1)))
  (zac (sFz [] (zmM "Album" "named" 0))
  (zac (sFz [] (zgt "Album" "done" 0))
  (zac (sFz [] (zgt "Album" "undone" 0))
  sNx)))))
noncomputable def zaF:List S2.D->Sto->Out S2.D:=zaT 2 false zbW
noncomputable def za0:Fs:=
  (zac (sFz [] (sIf (zae zji (zaf 2) (zab .non)) (zac (sFz [1] (zln "Album" "named" 0 (zbF 1))) sNx) (zac (sFz [2] (zlm "Album" "named" 0 (zbF 1) (zbF 2))) sNx)))
  sNx)
noncomputable def zaw:List S2.D->Sto->Out S2.D:=zaT 3 false za0
noncomputable def ze7:Fs:=
  (zac (sFz [1,2,2,3] (zlq "Album" "done" 0 [(zbF 1),(zbF 2),(ziz "Album" "named" 0 (zbF 2)),(zbF 3)]))
  (zac (sFz [] (zgt "Album" "undone" 0))
  (zac (sFz [2,3] (zkn (zbH "Album" "name_floor" zaw (zaa 0) [(zaa 2),(zaa 3)])))
  sNx)))
noncomputable def zb9:List S2.D->Sto->Out S2.D:=zaT 4 false ze7
noncomputable def zeg:Fs:=
  (zac (sFz [1] (zkn (eFn zaU [(zaa 1)])))
  (zac (sFz [2] (sIf (eUn zcn (eFn za7 [(zof "Album" "tiles" (zaa 0)),(zaa 2)])) (zac (sFz [] (sRz "Unlike" [(zab (.str "this is no floor of the set"))])) sNx) sNx))
  (zac (sFz [] (zbM 3 false (eQ (zpa "Album" "named" 0 (zbF 1)))))
  (zac (sFz [1,2] (zkn (zbH "Album" "do" zb9 (zaa 0) [(zab (.str "put")),(zaa 1),(zaa 2)])))
  (zac (sFz [3] (zaK (zaa 3)))
  sNx)))))
noncomputable def zbE:List S2.D->Sto->Out S2.D:=zaT 4 false zeg
noncomputable def zbV:Fs:=
  (zac (sFz [1] (sIf (eOr (eUn zcn (eFn zdt [(zaa 1)])) (eQ (zhp "Album" "named" 0 (zbF 1)))) (zac (sFz [] (sRz "NoName" [(zab (.str "no floor has this name"))])) sNx) sNx))
  (zac (sFz [] (zaK (eQ (zsa "Album" "named" 0 (zbF 1)))))
  sNx))
noncomputable def zar:List S2.D->Sto->Out S2.D:=zaT 2 false zbV
noncomputable def zdG:Fs:=
  (zac (sFz [1] (zbM 2 false (zbH "Album" "floor_of" zar (zaa 0) [(zaa 1)])))
  (zac (sFz [1] (zkn (zbH "Album" "do" zb9 (zaa 0) [(zab (.str "take")),(zaa 1),(zab .non)])))
  (zac (sFz [2] (zaK (zaa 2)))
  sNx)))
noncomputable def zct:List S2.D->Sto->Out S2.D:=zaT 3 false zdG
noncomputable def zcC:Fs:=
  (zac (sFz [1] (zkn (eFn zaU [(zaa 1)])))
  (zac (sFz [2] (zbM 5 false (zbH "Album" "floor_of" zar (zaa 0) [(zaa 2)])))
  (zac (sFz [3] (zbM 6 false (zbH "Album" "floor_of" zar (zaa 0) [(zaa 3)])))
  (zac (sFz [4,5,6,5,6] (zbM 7 false (eIf (zaa 4) (eFn zc5 [(zaa 5),(zaa 6)]) (eFn zdu [(zaa 5),(zaa 6)]))))
  (zac (sFz [7] (sIf (eUn zcn (eFn za7 [(zof "Album" "tiles" (zaa 0)),(zaa 7)])) (zac (sFz [] (sRz "Unlike" [(zab (.str "both together are no floor"))])) sNx) sNx))
  (zac (sFz [1,7] (zkn (zbH "Album" "do" zb9 (zaa 0) [(zab (.str "join")),(zaa 1),(zaa 7)])))
  (zac (sFz [7] (zaK (zaa 7)))
  sNx)))))))
noncomputable def zbP:List S2.D->Sto->Out S2.D:=zaT 8 false zcC
noncomputable def zde:Fs:=
  (zac (sFz [] (zaK (zlN "Album" "named" 0)))
  sNx)
noncomputable def zbr:List S2.D->Sto->Out S2.D:=zaT 1 true zde
noncomputable def zcK:Fs:=
  (zac (sFz [] (zaK (zof "Album" "tiles" (zaa 0))))
  sNx)
noncomputable def zbL:List S2.D->Sto->Out S2.D:=zaT 1 false zcK
noncomputable def zdH:Fs:=
  (zac (sFz [] (sIf (zae eqD (zlQ "Album" "done" 0) (zab (.int 0))) (zac (sFz [] (sRz "Nothing" [(zab (.str "there is nothing to take back"))])) sNx) sNx))
  (zac (sFz [] (zbM 1 false (zlP "Album" "done" 0)))
  (zac (sFz [1] (zlr "Album" "undone" 0 (zbF 1)))
  (zac (sFz [] (zkn (zbH "Album" "name_floor" zaw (zaa 0) [(zae ixD (zaf 1) (zab (.int 1))),(zae ixD (zaf 1) (zab (.int 2)))])))
  (zac (sFz [] (zaK (zae ixD (zaf 1) (zab (.int 0)))))
  sNx)))))
noncomputable def zcu:List S2.D->Sto->Out S2.D:=zaT 2 false zdH
noncomputable def zdB:Fs:=
  (zac (sFz [1] (zaK (zae zb6 (zae zb6 (zae zb6 (zae zb6 (zab (.str "--\n")) (zaf 1)) (zab (.str "\n"))) (eFn zcq [(zbH "Album" "floor_of" zar (zaa 0) [(zaa 1)])])) (zab (.str "\n")))))
  sNx)
noncomputable def zbl:List S2.D->Sto->Out S2.D:=zaT 2 false zdB
noncomputable def zdD:Fs:=
  (zac (sFz [0] (zaK (zae zb6 (eFn zdO [(zbH "Album" "set_of" zbL (zaa 0) [])]) (eSm zgv (zab (.str "")) (za2 1 (.one 0) (zap (zbH "Album" "names" zbr (zaa 0) [])) zbv (eFn zbl [(zaa 1),(zaa 0)]) [0])))))
  sNx)
noncomputable def zcr:List S2.D->Sto->Out S2.D:=zaT 1 false zdD
noncomputable def zbe:Fs:=
  (zac (sFz [] (zbM 5 false (eSm zni (zaa 4) (zab (.str "\n"))))) (zac (sFz [] (zbM 6 false (zae ixD (zaf 5) (zab (.int 0))))) (zac (sFz [6] (sIf (eOr (eUn zcn (eFn zdt [(zaa 6)])) (zae leD (zaf 6) (zaf 3))) (zac (sFz [] (sRz "NoText" [(zab (.str "there is no name, or not in its turn"))])) sNx) sNx)) (zac (sFz [0] (zgs 2 (zaa 6) (eFn zbN [(zaa 0),(zae ixD (zaf 5) (zab (.int 2)))]))) (zac (sFz [6] (zbM 3 false (zaa 6))) sNx)))))
noncomputable def zcH:Fs:=
  (zac (sFz [] (zbM 2 true zp6))
  (zac (sFz [] (zbM 3 false (zab (.str ""))))
  (zac (sFz [1] (zjq (.one 4) (zap (zaa 1)) zbe))
  (zac (sFz [] (zik 2))
  sNx))))
noncomputable def zaH:List S2.D->Sto->Out S2.D:=zaT 7 true zcH
noncomputable def zdy:Fs:=
  (zac (sFz [] (sIf (eOr (eUn zcn (eUn (zeA "str") (zaf 0))) (eUn zcn (eSm zod (zaa 0) (zab (.str "\n"))))) (zac (sFz [] (sRz "NoText" [(zab (.str "this is no text, or its last line is not ended"))])) sNx) sNx))
  (zac (sFz [] (zbM 1 false (eSm zej (eSl (zaf 0) none (some (eUn zsD (zab (.int 1))))) (zab (.str "\n--\n")))))
  (zac (sFz [] (zbM 2 false (eMk "Album" [] zaF [(eFn zdP [(zae zb6 (zae ixD (zaf 1) (zab (.int 0))) (zab (.str "\n")))])])))
  (zac (sFz [] (zlo "Album" "named" 2 (eFn zaH [(zof "Album" "tiles" (zaa 2)),(eSl (zaf 1) (some (zab (.int 1))) none)])))
  (zac (sFz [2] (zaK (zaa 2)))
  sNx)))))
noncomputable def zco:List S2.D->Sto->Out S2.D:=zaT 3 false zdy
noncomputable def ze2:Fs:=
  (zac (sFz [0,1] (zaK (zal zbu [(za2 2 (.tup [0,1]) (zp5 (zaa 0) (zaa 1)) zbv (eIf (zae zji (zaf 1) (zab .non)) (zaa 0) (zaa 1)) [])])))
  sNx)
noncomputable def zcR:List S2.D->Sto->Out S2.D:=zaT 2 false ze2
noncomputable def zob:Fs:=
  (zac (sFz [0,1] (zkn (eFn za4 [(zaa 0),(zaa 1)])))
  (zac (sFz [0,1] (zaK (zal zbu [(za2 2 (.tup [0,1]) (zp5 (zaa 0) (zaa 1)) zbv (eFn zcR [(zaa 0),(zaa 1)]) [])])))
  sNx))
noncomputable def zkw:List S2.D->Sto->Out S2.D:=zaT 2 false zob
noncomputable def zcl:Fs:=
  (zac (sFz [] (sIf (zae ltD (zaf 1) (zal zd1 [(zaf 0)])) (zac (sFz [] (zaK (zae ixD (zaf 0) (zaf 1)))) sNx) sNx))
  (zac (sFz [] (sIf (zae eqD (zaf 0) (zk0 [])) (zac (sFz [] (zaK (zab (.int 0)))) sNx) sNx))
  (zac (sFz [] (zaK (zae zb6 (zae zjF (zae ixD (zaf 0) (zae zqW (zaf 1) (zal zd1 [(zaf 0)]))) (zab (.int 31))) (zaf 1))))
  sNx)))
noncomputable def zbD:List S2.D->Sto->Out S2.D:=zaT 2 false zcl
noncomputable def zef:Fs:=
  (zac (sFz [0,1] (zbM 3 false (zae zqW (zae zjF (zae zb6 (eFn zbD [(zaa 0),(zaa 1)]) (zae zjF (zab (.int 6151)) (zae zb6 (zaf 1) (zab (.int 1))))) (zab (.int 40692))) (zab (.int 2147483399)))))
  (zac (sFz [] (zaK (zae zqW (zae zqW (zae zb6 (zae zjF (zaf 3) (zaf 3)) (zae zv0 (zaf 3) (zab (.int 31)))) (zab (.int 2147483629))) (zaf 2))))
  sNx))
noncomputable def zay:List S2.D->Sto->Out S2.D:=zaT 4 false zef
noncomputable def zbc:Fs:=
  (zac (sFz [1,3,5,0] (zbM 6 false (zal zbu [(za2 1 (.one 0) (zeG (zab (.int 4))) zbv (eFn zay [(zaa 4),(zae zb6 (zae zb6 (zae zb6 (zaf 1) (zae zjF (zab (.int 4)) (zaf 3))) (zab (.int 2))) (zaf 0)),(zaa 2)]) [1,3,5,0])]))) (zac (sFz [0] (sIf (zae eqD (eFn zay [(zaa 0),(zae zb6 (zae zb6 (zaf 1) (zab (.int 60))) (zaf 5)),(zab (.int 3))]) (zab (.int 0))) (zac (sFz [] (zbM 6 false (zgw [(zae ixD (zaf 6) (zab (.int 0))),(zae ixD (zaf 6) (zab (.int 1))),(zae ixD (zaf 6) (zab (.int 0))),(zae ixD (zaf 6) (zab (.int 1)))]))) sNx) sNx)) (zac (sFz [] (sIf (zae zhZ (zaf 6) (zaf 4)) (zac (sFz [6] (zl4 4 (zaa 6))) sNx) sNx)) sNx)))
noncomputable def zdE:Fs:=
  (zac (sFz [0,1] (zbM 3 false (zae zb6 (zab (.int 2)) (eFn zay [(zaa 0),(zaa 1),(zab (.int 2))]))))
  (zac (sFz [] (zbM 4 true (zk0 [])))
  (zac (sFz [0,2] (zjq (.one 5) (zeG (zae zb6 (zab (.int 1)) (eFn zay [(zaa 0),(zae zb6 (zaf 1) (zab (.int 1))),(zaa 2)]))) zbc))
  (zac (sFz [] (zaK (zal zbu [(zaf 4)])))
  sNx))))
noncomputable def zcs:List S2.D->Sto->Out S2.D:=zaT 7 false zdE
noncomputable def zbd:Fs:=
  (zac (sFz [0] (zbM 10 false (eFn zay [(zaa 0),(zae zb6 (zae zb6 (zaf 1) (zae zjF (zab (.int 7)) (zaf 7))) (zaf 9)),(zae zjF (zal zd1 [(zaf 2)]) (zaf 5))]))) (zac (sFz [10] (zl4 8 (eIf (zae ltD (zaf 10) (zal zd1 [(zaf 2)])) (zaa 10) (zab .non)))) sNx))
noncomputable def zcM:Fs:=
  (zac (sFz [] (zbM 8 true (zk0 []))) (zac (sFz [4] (zjq (.one 9) (zeG (zaa 4)) zbd)) (zac (sFz [] (zl4 6 (zal zbu [(zaf 8)]))) sNx)))
noncomputable def zdF:Fs:=
  (zac (sFz [] (zbM 6 true (zk0 [])))
  (zac (sFz [3] (zjq (.one 7) (zeG (zaa 3)) zcM))
  (zac (sFz [] (zaK (zal zbu [(zaf 6)])))
  sNx)))
noncomputable def zbO:List S2.D->Sto->Out S2.D:=zaT 11 false zdF
noncomputable def Fo.seq(b:Fs):Fo->Fo|.nx J S'=>b J S'|o=>o
def zx8(a b:Fs)(ρ:Env):Out D->Fo|.ok d S'=>(match isB d with|some true=>a ρ S'|some false=>b ρ S'|none=>.bad)|.exc x S'=>.ex x ρ S'|.bad=>.bad
noncomputable def zAc(i:Nat)(o:Bool)(ρ:Env):Out D->Fo|.ok d S'=>.nx (ρ.set i (some (o,d))) S'|.exc c S'=>.ex c ρ S'|.bad=>.bad
noncomputable def zz8(ρ:Env):Out D->Fo|.ok _ S'=>.nx ρ S'|.exc c S'=>.ex c ρ S'|.bad=>.bad
noncomputable def zz2(ρ:Env):Out D->Fo|.ok d S'=>.rt d S'|.exc c S'=>.ex c ρ S'|.bad=>.bad
noncomputable def zvA(S:Sto):Option (Option (Bool×D))->Fo|some (some (true,d))=>.rt d S|_=>.bad
def zsU(i:Nat)(ρ:Env)(l:List D):Out D->Fo
 |.ok d S'=>if zax l.length then .nx (ρ.set i (some (true,.lst (l++[d])))) S' else .bad
 |.exc c S'=>.ex c ρ S'|.bad=>.bad
noncomputable def zAd(i:Nat)(f:Fe)(ρ:Env)(S:Sto):Option (Option (Bool×D))->Fo|some (some (true,.lst l))=>zsU i ρ l (f ρ S)|_=>.bad
noncomputable def zsR(i j:Nat)(U J:Bool)(d1:D)(ρ:Env):Out D->Fo|.ok d2 S2=>.nx ((ρ.set i (some (U,d1))).set j (some (J,d2))) S2|.exc c S'=>.ex c ρ S'|.bad=>.bad
noncomputable def zz3(i j:Nat)(U J:Bool)(g:Fe)(ρ:Env):Out D->Fo|.ok d1 S1=>zsR i j U J d1 ρ (g ρ S1)|.exc c S'=>.ex c ρ S'|.bad=>.bad
noncomputable def zx7(S:Sto):Option Env->Fo|some J=>.nx J S|none=>.bad
def zsT(t:Tg)(ρ:Env):Out D->Fo|.ok d S'=>zx7 S' (t.put ρ d)|.exc c S'=>.ex c ρ S'|.bad=>.bad
noncomputable def zz6(t:Tg)(a:Fs)(ρ:Env):Out (List D)->Fo|.ok ds S'=>zfr t a ds ρ S'|.exc c S'=>.ex c ρ S'|.bad=>.bad
noncomputable def zz0(S:Sto):Option (Option (Bool×D))->Out D|some (some (false,d))=>.ok d S|_=>.bad
noncomputable def zAa(S:Sto):Option (Option (Bool×D))->Out D|some (some (_,d))=>.ok d S|_=>.bad
def kUn(u:D->Option D):Out D->Out D|.ok a S=>Out.of (u a) S|.exc c S=>.exc c S|.bad=>.bad
def zpO(u:D->D->Option D)(a:D):Out D->Out D|.ok b S=>Out.of (u a b) S|.exc c S=>.exc c S|.bad=>.bad
noncomputable def zAb(u:D->D->Option D)(g:Fe)(ρ:Env):Out D->Out D|.ok a S=>zpO u a (g ρ S)|.exc c S=>.exc c S|.bad=>.bad
def kIf(f g:Fe)(ρ:Env):Out D->Out D|.ok d S1=>(match isB d with|some true=>f ρ S1|some false=>g ρ S1|none=>.bad)|.exc c S=>.exc c S|.bad=>.bad
def zya(g:Fe)(ρ:Env):Out D->Out D|.ok d S1=>(match isB d with|some true=>g ρ S1|some false=>.ok (.bl false) S1|none=>.bad)|.exc c S=>.exc c S|.bad=>.bad
def kOr(g:Fe)(ρ:Env):Out D->Out D|.ok d S1=>(match isB d with|some true=>.ok (.bl true) S1|some false=>g ρ S1|none=>.bad)|.exc c S=>.exc c S|.bad=>.bad
noncomputable def zkT(d:D):Out (List D)->Out (List D)|.ok ds S=>.ok (d::ds) S|.exc c S=>.exc c S|.bad=>.bad
def zvE(fs:List Fe)(ρ:Env):Out D->Out (List D)|.ok d S=>zkT d (zah fs ρ S)|.exc c S=>.exc c S|.bad=>.bad
def zz1:Out (List D)->Out D|.ok ds S=>if zax ds.length then .ok (.tup ds) S else .bad|.exc c S=>.exc c S|.bad=>.bad
def zz4:Out (List D)->Out D|.ok ds S=>if zax ds.length then .ok (.lst ds) S else .bad|.exc c S=>.exc c S|.bad=>.bad
def zvF(u:List D->Option D):Out (List D)->Out D|.ok ds S=>Out.of (u ds) S|.exc c S=>.exc c S|.bad=>.bad
noncomputable def kFn(r:List D->Sto->Out D):Out (List D)->Out D|.ok ds S=>r ds S|.exc c S=>.exc c S|.bad=>.bad
def zfZ(v:D->D->Option D)(b:D):Out D->Out D|.ok c S=>Out.of (v b c) S|.exc c S=>.exc c S|.bad=>.bad
def zfY(v:D->D->Option D)(h:Fe)(ρ:Env)(b:D)(S:Sto):Option D->Out D|some d=>(match isB d with|some true=>zfZ v b (h ρ S)|some false=>.ok (.bl false) S|none=>.bad)|none=>.bad
noncomputable def zhz(u v:D->D->Option D)(h:Fe)(ρ:Env)(a:D):Out D->Out D|.ok b S=>zfY v h ρ b S (u a b)|.exc c S=>.exc c S|.bad=>.bad
noncomputable def zqZ(u v:D->D->Option D)(g h:Fe)(ρ:Env):Out D->Out D|.ok a S=>zhz u v h ρ a (g ρ S)|.exc c S=>.exc c S|.bad=>.bad
noncomputable def zz5:Out D->Out (Option Int)|.ok (.int i) S=>.ok (some i) S|.ok _ _=>.bad|.exc c S=>.exc c S|.bad=>.bad
def zwJ(d:D)(l:Option Int):Out (Option Int)->Out D|.ok u S=>Out.of (slD d l u) S|.exc c S=>.exc c S|.bad=>.bad
def zwK(d:D)(u:Option Fe)(ρ:Env):Out (Option Int)->Out D|.ok l S=>zwJ d l (zdq u ρ S)|.exc c S=>.exc c S|.bad=>.bad
def kSl(l u:Option Fe)(ρ:Env):Out D->Out D|.ok d S=>zwK d u ρ (zdq l ρ S)|.exc c S=>.exc c S|.bad=>.bad
def zkS:Out D->Out (List D)|.ok (.str x) S=>.ok (zl3 x) S|.ok (.lst l) S=>.ok l S|.ok (.tup l) S=>.ok l S|.ok _ _=>.bad|.exc c S=>.exc c S|.bad=>.bad
def zzZ:Out (List D)->Out (List D)|.ok ds S1=>(match ds with|[.tup l,.tup k]=>.ok (zgp l k) S1|_=>.bad)|.exc c S=>.exc c S|.bad=>.bad
def zvz:Out (List D)->Out (List D)|.ok ds S1=>(match ds with|[.int j]=>if -1000000<=j/\j<=1000000 then .ok (zao 0 j) S1 else .bad|_=>.bad)|.exc c S=>.exc c S|.bad=>.bad
def zvy:Out (List D)->Out (List D)|.ok ds S1=>(match ds with|[.int i,.int j]=>if(-1000000<=i/\i<=1000000)/\-1000000<=j/\j<=1000000 then .ok (zao i j) S1 else .bad|_=>.bad)|.exc c S=>.exc c S|.bad=>.bad
def znK:Out (List D)->Out D|.ok ys S2=>if zax ys.length then .ok (.lst ys) S2 else .bad|_=>.bad
def zsS(tg:Tg)(c elt:Fe)(aj:Env):Out (List D)->Out D|.ok ds S1=>znK (zaD tg c elt aj ds S1)|.exc c S=>.exc c S|.bad=>.bad
noncomputable def zz9:Option (Option (Bool×D))->Option (Bool×D)|some (some (false,d))=>some (false,d)|_=>none
noncomputable def zx9(ρ:Env)(i:Nat):Option (Option (Bool×D))->Env|some (some (true,d))=>ρ.set i (some (false,d))|_=>ρ
noncomputable def zwL(own:Bool):Fo->Out D|.rt d S'=>.ok d S'|.nx _ S'=>if own then .bad else .ok .non S'|.ex c _ S'=>.exc c S'|_=>.bad
def kRz(c:Str)(ρ:Env):Out (List D)->Fo|.ok ds S'=>if zax ds.length then .ex c ρ S' else .bad|.exc x S'=>.ex x ρ S'|.bad=>.bad
def zwO(u:List D->D->Option D)(l:List D):Out D->Out D|.ok d S=>Out.of (u l d) S|.exc c S=>.exc c S|.bad=>.bad
noncomputable def kMt(u:List D->D->Option D)(f:Fe)(ρ:Env)(S:Sto):Option (Option (Bool×D))->Out D|some (some (_,.lst l))=>zwO u l (f ρ S)|_=>.bad
section
variable{ρ:Env}{S:Sto}{f g h k c:Fe}{a b:Fs}
@[simp] def zAO:eMt u i f ρ S=kMt u f ρ S ρ[i]?:=by
 show(match ρ[i]? with|some (some (_,.lst l))=>(f ρ S).bind fun d S1=>Out.of (u l d) S1|_=>.bad)=_
 cases ρ[i]? with
 |none=>rfl|some o=>cases o with
  |none=>rfl|some p=>
   obtain⟨b,d⟩:=p
   cases d with
   |lst l=>show((f ρ S).bind fun d S1=>Out.of (u l d) S1)=zwO u l (f ρ S);cases f ρ S<;>rfl|_=>rfl
@[simp] def zCy:kMt u f ρ S (some (some (o,.lst l)))=zwO u l (f ρ S):=(rfl)
@[simp] def zBF:zwO u l (.ok d S)=Out.of (u l d) S:=(rfl)
@[simp] def zyM:zac a b ρ S=(a ρ S).seq b:=by
 show(match a ρ S with|.nx c S'=>b c S'|o=>o)=_
 cases a ρ S<;>rfl
@[simp] def zzy:(Fo.nx ρ S).seq b=b ρ S:=(rfl)
@[simp] def zzx:(Fo.rt d S).seq b=.rt d S:=(rfl)
@[simp] def zzw:(Fo.ex x ρ S).seq b=.ex x ρ S:=(rfl)
@[simp] def zw6:zp6 ρ S=.ok (.dic []) S:=(rfl)
def zuG(h:ρ[i]?=some (some (true,.dic ds)))(ho:zaB ds=true)(J:ds.length<=100000)(he:fe ρ S=.ok d S1)(hk:fk ρ S1=.ok (.str x) S2):zgs i fk fe ρ S=.nx (ρ.set i (some (true,.dic (putS x d ds)))) S2:=by
 unfold zgs zif;rw[h];dsimp only;rw[ho,show zax ds.length=true from yaz J]
 show(match fe ρ S with
  |.ok d S1=>(match fk ρ S1 with
   |.ok k S2=>(match k with
    |.str x=>Fo.nx (ρ.set i (some (true,.dic (putS x d ds)))) S2|_=>.bad)
   |.exc c S2=>.ex c ρ S2|.bad=>.bad)
  |.exc c S1=>.ex c ρ S1|.bad=>.bad)=_
 rw[he];dsimp only;rw[hk]
@[simp] def zAy:sFz is a ρ S=a (frz is ρ) S:=(rfl)
@[simp] def zy5:frz [] ρ=ρ:=(rfl)
@[simp] def zy4:frz (i::is) ρ=frz is (frz1 ρ i):=(rfl)
@[simp] def zAJ(i:Nat):frz1 ρ i=zx9 ρ i ρ[i]?:=(rfl)
@[simp] def zzO:zx9 ρ i (some (some (true,d)))=ρ.set i (some (false,d)):=(rfl)
@[simp] def zzN:zx9 ρ i (some (some (false,d)))=ρ:=(rfl)
@[simp] def zAw:sNx ρ S=.nx ρ S:=(rfl)
@[simp] def zyR:zbM i o f ρ S=zAc i o ρ (f ρ S):=(rfl)
@[simp] def zzV:zAc i o ρ (.ok d S)=.nx (ρ.set i (some (o,d))) S:=(rfl)
@[simp] def zyQ:zkn f ρ S=zz8 ρ (f ρ S):=(rfl)
@[simp] def zzP:zz8 ρ (.ok d S)=.nx ρ S:=(rfl)
@[simp] def zyN:zaK f ρ S=zz2 ρ (f ρ S):=(rfl)
@[simp] def zzF:zz2 ρ (.ok d S)=.rt d S:=(rfl)
@[simp] def zwW:zik i ρ S=zvA S ρ[i]?:=(rfl)
@[simp] def zzE:zvA S (some (some (true,d)))=.rt d S:=(rfl)
@[simp] def zAx:sIf c a b ρ S=zx8 a b ρ (c ρ S):=(rfl)
@[simp] def zzJ:zx8 a b ρ (.ok (.bl true) S)=a ρ S:=(rfl)
@[simp] def zzI:zx8 a b ρ (.ok (.bl false) S)=b ρ S:=(rfl)
@[simp] def zyS:zl4 i f ρ S=zAd i f ρ S ρ[i]?:=(rfl)
@[simp] def zBY:zAd i f ρ S (some (some (true,.lst l)))=zsU i ρ l (f ρ S):=(rfl)
@[simp] def zzW:zsU i ρ l (.ok d S)=if zax l.length then .nx (ρ.set i (some (true,.lst (l++[d])))) S else .bad:=(rfl)
@[simp] def zyO:ztp i j U f J g ρ S=zz3 i j U J g ρ (f ρ S):=(rfl)
@[simp] def zBC:zz3 i j U J g ρ (.ok d S)=zsR i j U J d ρ (g ρ S):=(rfl)
@[simp] def zzG:zsR i j U J d ρ (.ok e S)=.nx ((ρ.set i (some (U,d))).set j (some (J,e))) S:=(rfl)
@[simp] def zwX:zlp t f ρ S=zsT t ρ (f ρ S):=by
 unfold zlp zsT
 cases f ρ S with
 |ok d S'=>dsimp only;cases t.put ρ d<;>rfl|exc c S'=>rfl|bad=>rfl
@[simp] def zzU:zsT t ρ (.ok d S)=zx7 S (t.put ρ d):=(rfl)
@[simp] def zBB:zx7 S (some J)=.nx J S:=(rfl)
@[simp] def zyP:zjq t it a ρ S=zz6 t a ρ (it ρ S):=(rfl)
@[simp] def zBO:zz6 t a ρ (.ok ds S)=zfr t a ds ρ S:=(rfl)
@[simp] def zAv:sRz x fs ρ S=kRz x ρ (zah fs ρ S):=(rfl)
@[simp] def zCw:kRz x ρ (.ok ds S)=if zax ds.length then .ex x ρ S else .bad:=(rfl)
@[simp] def zyV:(Tg.tup is).put ρ (.tup ds)=zfe is ds ρ:=(rfl)
@[simp] def zyX:zfe (i::is) (d::ds) ρ=zfe is ds (ρ.set i (some (false,d))):=(rfl)
@[simp] def zyW:zfe [] [] ρ=some ρ:=(rfl)
@[simp] def ztx:zaa i ρ S=zz0 S ρ[i]?:=(rfl)
@[simp] def zBs:zz0 S (some (some (false,d)))=.ok d S:=(rfl)
@[simp] def zzb:zaf i ρ S=zAa S ρ[i]?:=(rfl)
@[simp] def zBX:zAa S (some (some (o,d)))=.ok d S:=(rfl)
@[simp] def zza:zab d ρ S=.ok d S:=(rfl)
@[simp] def zAK:eUn u f ρ S=kUn u (f ρ S):=by
 unfold eUn;cases f ρ S<;>rfl
@[simp] def zBt:kUn u (.ok d S)=Out.of (u d) S:=(rfl)
@[simp] def zzc:zae u f g ρ S=zAb u g ρ (f ρ S):=by
 unfold zae
 cases f ρ S with
 |ok a S1=>show((g ρ S1).bind fun b S2=>Out.of (u a b) S2)=zpO u a (g ρ S1);cases g ρ S1<;>rfl|exc c S=>rfl|bad=>rfl
@[simp] def zzT:zAb u g ρ (.ok d S)=zpO u d (g ρ S):=(rfl)
@[simp] def zzS:zpO u d (.ok e S)=Out.of (u d e) S:=(rfl)
@[simp] def zAQ:eIf c f g ρ S=kIf f g ρ (c ρ S):=by
 unfold eIf;cases c ρ S<;>rfl
@[simp] def zBN:kIf f g ρ (.ok (.bl true) S)=f ρ S:=(rfl)
@[simp] def zBM:kIf f g ρ (.ok (.bl false) S)=g ρ S:=(rfl)
@[simp] def zzd:zgV f g ρ S=zya g ρ (f ρ S):=by
 unfold zgV;cases f ρ S<;>rfl
@[simp] def zzY:zya g ρ (.ok (.bl true) S)=g ρ S:=(rfl)
@[simp] def zzX:zya g ρ (.ok (.bl false) S)=.ok (.bl false) S:=(rfl)
@[simp] def zAN:eOr f g ρ S=kOr g ρ (f ρ S):=by
 unfold eOr;cases f ρ S<;>rfl
@[simp] def zBE:kOr g ρ (.ok (.bl true) S)=.ok (.bl true) S:=(rfl)
@[simp] def zBD:kOr g ρ (.ok (.bl false) S)=g ρ S:=(rfl)
@[simp] def zw1:zah [] ρ S=.ok [] S:=(rfl)
@[simp] def zw2:zah (f::fs) ρ S=zvE fs ρ (f ρ S):=by
 show((f ρ S).bind fun d S1=>(zah fs ρ S1).bind fun ds S2=>.ok (d::ds) S2)=_
 cases f ρ S with
 |ok a S1=>show((zah fs ρ S1).bind fun ds S2=>.ok (a::ds) S2)=zkT a (zah fs ρ S1);cases zah fs ρ S1<;>rfl|exc c S=>rfl|bad=>rfl
@[simp] def zx4:zvE fs ρ (.ok d S)=zkT d (zah fs ρ S):=(rfl)
@[simp] def zx3:zkT d (.ok ds S)=.ok (d::ds) S:=(rfl)
@[simp] def zy7:zgw fs ρ S=zz1 (zah fs ρ S):=by
 unfold zgw;cases zah fs ρ S<;>rfl
@[simp] def zBu:zz1 (.ok ds S)=if zax ds.length then .ok (.tup ds) S else .bad:=(rfl)
@[simp] def zy8:zk0 fs ρ S=zz4 (zah fs ρ S):=by
 unfold zk0;cases zah fs ρ S<;>rfl
@[simp] def zBH:zz4 (.ok ds S)=if zax ds.length then .ok (.lst ds) S else .bad:=(rfl)
@[simp] def zw8:zal u fs ρ S=zvF u (zah fs ρ S):=by
 unfold zal;cases zah fs ρ S<;>rfl
@[simp] def zx6:zvF u (.ok ds S)=Out.of (u ds) S:=(rfl)
@[simp] def zAR:eFn r fs ρ S=kFn r (zah fs ρ S):=by
 unfold eFn;cases zah fs ρ S<;>rfl
@[simp] def zBP:kFn r (.ok ds S)=r ds S:=(rfl)
@[simp] def zwB:zcm u v f g h ρ S=zqZ u v g h ρ (f ρ S):=by
 show((f ρ S).bind fun a S1=>(g ρ S1).bind fun b S2=>match(u a b).bind isB with
  |some true=>(h ρ S2).bind fun c e=>Out.of (v b c) e|some false=>.ok (.bl false) S2|none=>.bad)=_
 cases f ρ S with
 |ok a S1=>
  show((g ρ S1).bind fun b S2=>match(u a b).bind isB with
   |some true=>(h ρ S2).bind fun c e=>Out.of (v b c) e|some false=>.ok (.bl false) S2|none=>.bad)=zhz u v h ρ a (g ρ S1)
  cases g ρ S1 with
  |ok b S2=>
   show(match(u a b).bind isB with
    |some true=>(h ρ S2).bind fun c e=>Out.of (v b c) e|some false=>.ok (.bl false) S2|none=>.bad)=zfY v h ρ b S2 (u a b)
   cases i:u a b with
   |none=>rfl|some d=>
    show(match isB d with
     |some true=>(h ρ S2).bind fun c e=>Out.of (v b c) e|some false=>.ok (.bl false) S2|none=>.bad)=(match isB d with|some true=>zfZ v b (h ρ S2)|some false=>.ok (.bl false) S2|none=>.bad)
    cases hb:isB d with
    |none=>rfl|some x=>cases x with
     |true=>show((h ρ S2).bind fun c e=>Out.of (v b c) e)=zfZ v b (h ρ S2);cases h ρ S2<;>rfl|false=>rfl
  |exc c S=>rfl|bad=>rfl
 |exc c S=>rfl|bad=>rfl
@[simp] def zBV:zqZ u v g h ρ (.ok d S)=zhz u v h ρ d (g ρ S):=(rfl)
@[simp] def zBU:zhz u v h ρ d (.ok e S)=zfY v h ρ e S (u d e):=(rfl)
@[simp] def zBT:zfY v h ρ e S (some (.bl true))=zfZ v e (h ρ S):=(rfl)
@[simp] def zBS:zfY v h ρ e S (some (.bl false))=.ok (.bl false) S:=(rfl)
@[simp] def zBR:zfZ v e (.ok d S)=Out.of (v e d) S:=(rfl)
@[simp] def zwA:zdq none ρ S=.ok none S:=(rfl)
@[simp] def zwz:zdq (some f) ρ S=zz5 (f ρ S):=by
 show((f ρ S).bind fun d S1=>match d with|.int i=>.ok (some i) S1|_=>.bad)=_
 cases f ρ S with
 |ok d S'=>cases d<;>rfl|exc c S'=>rfl|bad=>rfl
@[simp] def zBL:zz5 (.ok (.int i) S)=.ok (some i) S:=(rfl)
@[simp] def zAM:eSl f l u ρ S=kSl l u ρ (f ρ S):=by
 unfold eSl
 cases f ρ S with
 |ok d S1=>
  show((zdq l ρ S1).bind fun l S2=>(zdq u ρ S2).bind fun u a=>Out.of (slD d l u) a)=zwK d u ρ (zdq l ρ S1)
  cases zdq l ρ S1 with
  |ok l S2=>show((zdq u ρ S2).bind fun u a=>Out.of (slD d l u) a)=zwJ d l (zdq u ρ S2);cases zdq u ρ S2<;>rfl|exc c S=>rfl|bad=>rfl
 |exc c S=>rfl|bad=>rfl
@[simp] def zCv:kSl l u ρ (.ok d S)=zwK d u ρ (zdq l ρ S):=(rfl)
@[simp] def zBy:zwK d u ρ (.ok l S)=zwJ d l (zdq u ρ S):=(rfl)
@[simp] def zBx:zwJ d l (.ok u S)=Out.of (slD d l u) S:=(rfl)
@[simp] def zw0:zap f ρ S=zkS (f ρ S):=by
 show((f ρ S).bind fun d S1=>match d with|.str x=>.ok (zl3 x) S1|.lst l=>.ok l S1|.tup l=>.ok l S1|_=>.bad)=_
 cases f ρ S with
 |ok d S'=>cases d<;>rfl|exc c S'=>rfl|bad=>rfl
@[simp] def zBI:zkS (.ok (.str x) S)=.ok (zl3 x) S:=(rfl)
@[simp] def zBK:zkS (.ok (.lst l) S)=.ok l S:=(rfl)
@[simp] def zBJ:zkS (.ok (.tup l) S)=.ok l S:=(rfl)
@[simp] def zAp:zp5 f g ρ S=zzZ (zah [f,g] ρ S):=by
 unfold zp5;cases zah [f,g] ρ S<;>rfl
@[simp] def zzv{l k:List D}:zzZ (.ok [.tup l,.tup k] S)=.ok (zgp l k) S:=(rfl)
@[simp] def zyU:zeG f ρ S=zvz (zah [f] ρ S):=by
 unfold zeG;cases zah [f] ρ S<;>rfl
@[simp] def zzD:zvz (.ok [.int j] S)=if -1000000<=j/\j<=1000000 then .ok (zao 0 j) S else .bad:=(rfl)
@[simp] def zyT:zlO f g ρ S=zvy (zah [f,g] ρ S):=by
 unfold zlO;cases zah [f,g] ρ S<;>rfl
@[simp] def zzC:zvy (.ok [.int i,.int j] S)=if(-1000000<=i/\i<=1000000)/\-1000000<=j/\j<=1000000 then .ok (zao i j) S else .bad:=(rfl)
@[simp] def zze:za2 n t it c f caps ρ S=zsS t c f (zbY n caps ρ) (it ρ S):=by
 unfold za2
 cases it ρ S with
 |ok ds S'=>
  simp only[Out.bind,zsS]
  cases zaD t c f (zbY n caps ρ) ds S'<;>rfl
 |exc c S'=>rfl|bad=>rfl
@[simp] def zzR:zsS t c f aj (.ok ds S)=znK (zaD t c f aj ds S):=(rfl)
@[simp] def zx5:znK (.ok ys S)=if zax ys.length then .ok (.lst ys) S else .bad:=(rfl)
@[simp] def zAq:zbv ρ S=.ok (.bl true) S:=(rfl)
@[simp] def zty:zbY n caps ρ=List.replicate n none++caps.map (zqf ρ):=(rfl)
@[simp] def zzf:zqf ρ i=zz9 ρ[i]?:=(rfl)
@[simp] def zBW:zz9 (some (some (false,d)))=some (false,d):=(rfl)
def zag:zaT n own fs ds S=zwL own (fs (ds.map (fun d=>some (false,d))++List.replicate (n-ds.length) none) S):=(rfl)
@[simp] def zzB:zwL own (.rt d S)=.ok d S:=(rfl)
@[simp] def zzA:zwL false (.nx ρ S)=.ok .non S:=(rfl)
@[simp] def zzz:zwL own (.ex x ρ S)=.exc x S:=(rfl)
@[simp] def zAI{b:Bool}:isB (.bl b)=some b:=(rfl)
@[simp] def zAz{b:Bool}:zcn (.bl b)=some (.bl (!b)):=(rfl)
@[simp] def zzh:zb6 (.int i) (.int j)=some (.int (i+j)):=(rfl)
@[simp] def zzg:zb6 (.tup x) (.tup y)=if zax (x.length+y.length)then some (.tup (x++y))else none:=(rfl)
@[simp] def zAr:ztU (.int i) (.int j)=some (.int (i-j)):=(rfl)
@[simp] def zAB:zjF (.int i) (.int j)=if zcA i||zcA j then some (.int (i*j))else none:=(rfl)
@[simp] def zAC:zqW (.int i) (.int j)=if 0<j then some (.int (i % j))else none:=(rfl)
@[simp] def zAS:zv0 (.int i) (.int j)=if 0<j/\j<1073741824 then some (.int (i / j))else none:=(rfl)
@[simp] def zAE:ltD (.int i) (.int j)=some (.bl (decide (i<j))):=(rfl)
@[simp] def zCt:leD (.int i) (.int j)=some (.bl (decide (i<=j))):=(rfl)
@[simp] def zCu:gtD (.int i) (.int j)=some (.bl (decide (j<i))):=(rfl)
@[simp] def zAF:ixD (.tup l) (.int i)=atI l i:=(rfl)
@[simp] def zAG:ixD (.scr l) (.int i)=(atI l i).map D.int:=(rfl)
@[simp] def zy3:zd1 [.lst l]=some (.int l.length):=(rfl)
@[simp] def zy1:zd1 [.tup l]=some (.int l.length):=(rfl)
@[simp] def zy2:zd1 [.scr l]=some (.int l.length):=(rfl)
@[simp] def zyK:zbu [.lst l]=some (.tup l):=(rfl)
@[simp] def zAH:zji d .non=some (.bl (zdp d)):=(rfl)
@[simp] def zyY:zlF d .non=some (.bl (!zdp d)):=(rfl)
@[simp] def zy0:zdp .non=true:=(rfl)
@[simp] def zyZ:zdp (.int i)=false:=(rfl)
@[simp] def zAs:slD (.tup l) x y=some (.tup (zol l x y)):=(rfl)
@[simp] def zAu:slD (.lst l) x y=some (.lst (zol l x y)):=(rfl)
@[simp] def zAD:ztr [.int i,.int j]=some (.int (if j > i then j else i)):=(rfl)
@[simp] def zwV:zax n=decide (n<=100000):=(rfl)
def za1{α:Type}(xs:List α)(j:Nat):atI xs (j:Int)=xs[j]?:=by
 unfold atI ixN
 by_cases h:j<xs.length
 ·simp[h]
 ·simp[h]
@[simp] def zwS{α:Type}(xs:List α):atI xs 0=xs[0]?:=za1 xs 0
@[simp] def zyD{α:Type}(xs:List α):atI xs 1=xs[1]?:=za1 xs 1
def zfC{α:Type}{xs:List α}(h:0<=i):atI xs i=xs[i.toNat]?:=by
 obtain⟨n,rfl⟩:=ya7 h;exact za1 xs n
end
theorem zdW(Iv:Nat->Env->Prop)(step:∀k d ρ,ds[k]?=some d->Iv k ρ->∃a3 U,tg.put ρ d=some a3/\body a3 S=.nx U S/\Iv (k+1) U)(h0:Iv 0 ρ):∃J,zfr tg body ds ρ S=.nx J S/\Iv ds.length J:=by
 have go:∀(n:Nat) (es:List D) (k:Nat) (ρ:Env),es.length=n->ds.drop k=es->k+n=ds.length->Iv k ρ->∃J,zfr tg body es ρ S=.nx J S/\Iv ds.length J:=by
  intro n
  induction n with
  |zero=>
   intro es k ρ a he hk hi;obtain rfl:es=[]:=ya1 a;exact⟨ρ,rfl,by rw[show ds.length=k by omega];exact hi⟩
  |succ n c=>
   intro es k ρ a he hk hi
   cases es with
   |nil=>cases a|cons d es=>
    have hd:ds[k]?=some d:=by
     have:=congrArg (fun l=>l[0]?) he;rw[ybF]at this;simpa using this
    obtain⟨a3,U,g,e2,b⟩:=step k d ρ hd hi;obtain⟨J,f,e⟩:=c es (k+1) U (by simpa using a) (by rw[<-List.drop_drop,he];rfl) (by omega) b;refine⟨J,?_,e⟩;unfold zfr;rw[g];dsimp only;rw[e2];exact f
 exact go ds.length ds 0 ρ rfl (by simp) (by omega) h0
theorem zcW:∀{ds:List D},(∀d∈ds,∃J,tg.put aj d=some J/\c J S=.ok (.bl (p d)) S/\(p d=true->elt J S=.ok (g d) S))->zaD tg c elt aj ds S=.ok ((ds.filter p).map g) S
 |[],_=>rfl|d::ds,h=>by
  obtain⟨J,i,e2,f⟩:=h d yan;have b:=zcW (ds:=ds) fun x e=>h x (yal _ e)
  unfold zaD;rw[i];dsimp only;rw[e2]
  cases a:p d with
  |true=>simp[f a,b,a]|false=>simp[b,a]
def zan(h:∀d∈ds,∃J,tg.put aj d=some J/\elt J S=.ok (g d) S):zaD tg zbv elt aj ds S=.ok (ds.map g) S:=by
 have:=zcW (c:=zbv) (p:=fun _=>true) (tg:=tg) (elt:=elt) (aj:=aj) (S:=S) (g:=g) (ds:=ds) fun d hd=>by
  obtain⟨J,a,e2⟩:=h d hd;exact⟨J,a,rfl,fun _=>e2⟩
 rw[this,List.filter_eq_self.mpr (fun _ _=>rfl)]
mutual
noncomputable def D.pl:D->Bool
 |.non=>true|.int _=>true|.str _=>true|.tup l=>D.pls l|.lst l=>D.pls l|_=>false
noncomputable def D.pls:List D->Bool
 |[]=>true|d::l=>d.pl&&D.pls l
end
theorem D.pls_iff:∀{l:List D},D.pls l=true↔∀d∈l,d.pl=true
 |[]=>by simp[D.pls]
 |d::l=>by simp[D.pls,D.pls_iff (l:=l)]
mutual
theorem zgT:∀(d e:D),d.pl=true->e.pl=true->(d.py.eqv e.py=true↔d=e)
 |.non,e,_,h=>by cases e<;>simp[D.py,PyData.eqv,D.pl]at h ⊢
 |.int i,e,_,h=>by cases e<;>simp[D.py,PyData.eqv,D.pl]at h ⊢
 |.str x,e,_,h=>by cases e<;>simp[D.py,PyData.eqv,D.pl]at h ⊢
 |.tup l,e,hd,h=>by
  cases e with
  |tup k=>
   simp only[D.py,PyData.eqv,D.pl]at hd h ⊢;rw[zjP l k hd h];simp
  |_=>simp[D.py,PyData.eqv,D.pl]at h ⊢
 |.lst l,e,hd,h=>by
  cases e with
  |lst k=>
   simp only[D.py,PyData.eqv,D.pl]at hd h ⊢;rw[zjP l k hd h];simp
  |_=>simp[D.py,PyData.eqv,D.pl]at h ⊢
 |.bl _,_,hd,_=>by simp[D.pl]at hd
 |.dic _,_,hd,_=>by simp[D.pl]at hd
 |.ref _,_,hd,_=>by simp[D.pl]at hd
 |.exc _,_,hd,_=>by simp[D.pl]at hd
 |.scr _,_,hd,_=>by simp[D.pl]at hd
theorem zjP:∀(l k:List D),D.pls l=true->D.pls k=true->(PyData.eqvAll (D.pys l) (D.pys k)=true↔l=k)
 |[],[],_,_=>by simp[D.pys,PyData.eqvAll]
 |[],_::_,_,_=>by simp[D.pys,PyData.eqvAll]
 |_::_,[],_,_=>by simp[D.pys,PyData.eqvAll]
 |d::l,e::k,h1,h2=>by
  simp only[D.pls,yab]at h1 h2;simp only[D.pys,PyData.eqvAll,yab,List.cons.injEq];rw[zgT d e h1.1 h2.1,zjP l k h1.2 h2.2]
end
@[simp] def zs3:D.fit n (.int i)=true:=by cases n<;>rfl
@[simp] def zyo:D.fit n .non=true:=by cases n<;>rfl
@[simp] def zyn:D.fit (n+1) (.tup l)=D.fits n l:=(rfl)
@[simp] def zwQ:D.fits n []=true:=by cases n<;>rfl
@[simp] def zvT:D.fits n (d::l)=(d.fit n&&D.fits n l):=by cases n<;>rfl
@[simp] def zw3:eqD (.int i) (.int j)=some (.bl (decide (i=j))):=by
 unfold eqD zgJ;simp[D.py,PyData.eqv]
 cases h:(i==j)<;>simp_all
@[simp] def zAA:neD (.int i) (.int j)=some (.bl (!decide (i=j))):=by
 unfold neD zgJ;simp[D.py,PyData.eqv]
 cases h:(i==j)<;>simp_all
def zgU:eqD (.scr l) (.lst [])=some (.bl (decide (l=[]))):=by
 cases l with
 |nil=>rfl|cons a l=>simp[eqD,D.fit,D.fits,zgJ,D.py,D.pys,PyData.eqv,PyData.eqvAll]
noncomputable def zlX(l:List Int)(k:Int):Int:=if k<l.length then l.getD k.toNat 0 else if l=[]then 0 else l.getD (k % l.length).toNat 0*31+k
def zci(l:List Int)(k:Int)(many:Int):Int:=
 let d:=(zlX l k+6151*(k+1))*40692 % 2147483399
 (d*d+d / 31) % 2147483629 % many
def zch(l:List Int)(k:Int)(h:0<many):0<=zci l k many/\zci l k many<many:=⟨ydk _ (by omega),ycO _ h⟩
@[simp] def zAf:zcA 31=true:=by decide
@[simp] def zwR:zcA 6151=true:=by decide
@[simp] def zvV:zcA 40692=true:=by decide
theorem zvU(h0:-(2 ^ 64)<i)(h:i<2 ^ 64):zcA i=true:=by unfold zcA;simp;omega
theorem zo7(hk:0<=k):zbD [.scr l,.int k] S=.ok (.int (zlX l k)) S:=by
 unfold zlX
 by_cases h:k<l.length
 ·have a:l[k.toNat]?=some l[k.toNat]:=yac (by omega);rw[if_pos h,yar,a];simp[zbD,zag,zcl,h,zfC hk,a]
 ·by_cases h0:l=[]
  ·subst h0;simp[zbD,zag,zcl,zgU,show ¬ k<0 by omega]
  ·have d:0<l.length:=by cases l with|nil=>exact absurd rfl h0|cons _ _=>simp
   have b:0<=k % (l.length:Int):=ydk _ (by omega);have c:k % (l.length:Int)<l.length:=ycO _ (by omega);have a:l[(k % (l.length:Int)).toNat]?=some (l[(k % (l.length:Int)).toNat]'(by omega)):=yac (by omega);rw[if_neg h,if_neg h0,yar,a];simp[zbD,zag,zcl,h,h0,zgU,zfC b,a,d]
theorem zbZ(hk:0<=k)(hm:0<many):zay [.scr l,.int k,.int many] S=.ok (.int (zci l k many)) S:=by
 unfold zci;have h0:0<=(zlX l k+6151*(k+1))*40692 % 2147483399:=ydk _ (by omega);have h1:(zlX l k+6151*(k+1))*40692 % 2147483399<2147483399:=ycO _ (by omega);have hf:zcA ((zlX l k+6151*(k+1))*40692 % 2147483399)=true:=zvU (by omega) (by omega);simp[zay,zag,zef,zo7 hk,hf,hm]
noncomputable def zaj(t:List Int):D:=.tup (t.map D.int)
def zpR{t u:List Int}:t.map D.int=u.map D.int↔t=u:=by
 constructor
 ·intro h
  induction t generalizing u with
  |nil=>cases u with|nil=>rfl|cons _ _=>cases h
  |cons a t c=>cases u with
   |nil=>cases h|cons b u=>
    simp only[yaw,List.cons.injEq,D.int.injEq]at h;rw[h.1,c h.2]
 ·rintro rfl;rfl
def zoQ:zaj t=zaj u↔t=u:=by unfold zaj;rw[D.tup.injEq];exact zpR
def zpg{t:List Int}:D.pls (t.map D.int)=true:=by rw[D.pls_iff];intro d hd;obtain⟨i,_,rfl⟩:=yah.mp hd;rfl
def zm8:(zaj t).pl=true:=zpg
def zn7{t:List Int}:D.fits n (t.map D.int)=true:=by rw[D.fits_iff];intro d hd;obtain⟨i,_,rfl⟩:=yah.mp hd;exact zs3
def zkZ:(zaj t).fit (n+1)=true:=zn7
theorem znp:∀{l:List D},d.pl=true->D.pls l=true->(zoI d l=true↔d∈l)
 |[],_,_=>by simp[zoI]
 |e::l,h,a=>by
  simp only[D.pls,yab]at a;have b:=znp (d:=d) (l:=l) h a.2;have c:=zgT e d a.1 h;unfold zoI;simp only[ydE,ycS,yau];unfold zoI at b;rw[b];unfold zgJ;rw[c]
  constructor<;>(intro z;rcases z with z|z<;>simp[z])
def ziK{ts:Z2}:zhZ (zaj t) (.lst (ts.map zaj))=some (.bl (!decide (t∈ts))):=by
 have f1:(zaj t).fit 8=true:=zkZ
 have f2:D.fits 8 (ts.map zaj)=true:=by rw[D.fits_iff];intro d hd;obtain⟨i,_,rfl⟩:=yah.mp hd;exact zkZ
 have p2:D.pls (ts.map zaj)=true:=by rw[D.pls_iff];intro d hd;obtain⟨i,_,rfl⟩:=yah.mp hd;exact zm8
 have m:=znp (d:=zaj t) zm8 p2
 have:(zaj t∈ts.map zaj)↔t∈ts:=by
  rw[yah];constructor
  ·rintro⟨u,a,e⟩;rw[<-zoQ.mp e];exact a
  ·intro h;exact⟨t,h,rfl⟩
 rw[this]at m;unfold zhZ;simp only[f1,f2,Bool.and_self,yb2,Option.some.injEq,D.bl.injEq];congr 1
 by_cases h:t∈ts
 ·rw[m.mpr h];simp[h]
 ·cases hm:zoI (zaj t) (ts.map zaj)
  ·simp[h]
  ·exact absurd (m.mp hm) h
structure Tiles(most:Int)(ts:Z2):Prop where
 ne:1<=ts.length
 le:(ts.length:Int)<=most
 four:∀t∈ts,t.length=4
 col:∀t∈ts,∀c∈t,0<=c/\c<3
 nd:ts.Nodup
def zcd{k:Nat}(h:(zao 0 hi)[k]?=some d):d=.int k/\(k:Int)<hi:=by
 unfold zao at h;rw[yax]at h
 cases a:(List.range (hi-0).toNat)[k]? with
 |none=>rw[a]at h;cases h|some j=>
  rw[a]at h;obtain⟨h1,h2⟩:=yaq.mp a;simp at h1 h2;subst h2;simp at h;exact⟨h.symm,by omega⟩
@[simp] def ziy:(zao 0 hi).length=hi.toNat:=by unfold zao;simp
def zm0(h:d∈zao 0 hi):∃k:Nat,d=.int k/\(k:Int)<hi:=by
 obtain⟨k,hk⟩:=ycu h;exact⟨k,zcd hk⟩
def zhy(h:d.pl=true)(f:d.fit 9=true):neD d d=some (.bl false):=by
 unfold neD zgJ;rw[f,(zgT d d h h).mpr rfl];rfl
def zs6(h:d.pl=true)(f:d.fit 9=true):eqD d d=some (.bl true):=by
 unfold eqD zgJ;rw[f,(zgT d d h h).mpr rfl];rfl
def zux:zao 0 4=[.int 0,.int 1,.int 2,.int 3]:=by rfl
@[simp] def zCd:zcA 4=true:=by decide
@[simp] def zCc:zcA 7=true:=by decide
theorem zro(ha:0<=at')(hk:0<=k)(J:0<col)(a3:col<=3)(hn:ts.length<=1000):
  ∃t U,t.length=4/\(∀c∈t,0<=c/\c<3)/\zbc [some (false,.scr l),some (false,.int at'),some (false,.int most),some (false,.int col),some (true,.lst (ts.map zaj)),some (false,.int k),y] S
   = .nx [some (false,.scr l),some (false,.int at'),some (false,.int most),some (false,.int col),some (true,.lst ((if t∈ts then ts else ts++[t]).map zaj)),some (false,.int k),U] S:=by
 have a:∀aj:Env,aj=[none,some (false,.int at'),some (false,.int col),some (false,.int k),some (false,.scr l)]->zaD (.one 0) zbv (eFn zay [(zaa 4),(zae zb6 (zae zb6 (zae zb6 (zaf 1) (zae zjF (zab (.int 4)) (zaf 3))) (zab (.int 2))) (zaf 0)),(zaa 2)]) aj (zao 0 4) S
   = .ok ([zci l (at'+4*k+2+0) col,zci l (at'+4*k+2+1) col,zci l (at'+4*k+2+2) col,zci l (at'+4*k+2+3) col].map D.int) S:=by
  rintro _ rfl;rw[zux,zan (g:=fun d=>match d with|.int i=>.int (zci l (at'+4*k+2+i) col)|_=>.non)]
  ·rfl
  ·intro d hd;simp only[yau,ya8,ycR]at hd
   rcases hd with rfl|rfl|rfl|rfl<;>exact⟨_,rfl,by simp;rw[zbZ (by omega) J]⟩
 have o:=zch l (at'+4*k+2+0) J;have n:=zch l (at'+4*k+2+1) J;have m:=zch l (at'+4*k+2+2) J;have j:=zch l (at'+4*k+2+3) J;generalize zci l (at'+4*k+2+0) col=e at*;generalize zci l (at'+4*k+2+1) col=b at*;generalize zci l (at'+4*k+2+2) col=p2 at*;generalize zci l (at'+4*k+2+3) col=p3 at*
 have fin:∀t:List Int,(zac (sFz [] (sIf (zae zhZ (zaf 6) (zaf 4)) (zac (sFz [6] (zl4 4 (zaa 6))) sNx) sNx)) sNx) [some (false,.scr l),some (false,.int at'),some (false,.int most),some (false,.int col),some (true,.lst (ts.map zaj)),some (false,.int k),some (false,zaj t)] S
   = .nx [some (false,.scr l),some (false,.int at'),some (false,.int most),some (false,.int col),some (true,.lst ((if t∈ts then ts else ts++[t]).map zaj)),some (false,.int k),some (false,zaj t)] S:=by
  intro t
  by_cases h:t∈ts
  ·simp[ziK,h]
  ·simp[ziK,h,show ts.length<=100000 by omega]
 by_cases f:zci l (at'+60+k) 3=0
 ·refine⟨[e,b,e,b],some (false,zaj [e,b,e,b]),rfl,by simp;omega,?_⟩;rw[<-fin];simp[zbc,a,zbZ (show 0<=at'+60+k by omega) (show(0:Int)<3 by omega),f];rfl
 ·refine⟨[e,b,p2,p3],some (false,zaj [e,b,p2,p3]),rfl,by simp;omega,?_⟩;rw[<-fin];simp[zbc,a,zbZ (show 0<=at'+60+k by omega) (show(0:Int)<3 by omega),f];rfl
theorem zmO(J:0<=at')(hm:0<most)(U:most<=100):∃ts,Tiles most ts/\zcs [.scr l,.int at',.int most] S=.ok (.tup (ts.map zaj)) S:=by
 have b:=zch l at' (many:=2) (by omega);have n:=zch l (at'+1) hm;have p:=zbZ (l:=l) (S:=S) J (show(0:Int)<2 by omega);have p2:=zbZ (l:=l) (S:=S) (show 0<=at'+1 by omega) hm;generalize zci l at' 2=c at*;generalize zci l (at'+1) most=m at*
 obtain⟨o,e,ts,x,y,rfl,h1,h2,j,i,g⟩:=zdW (tg:=.one 5) (body:=zbc) (ds:=zao 0 (1+m)) (S:=S) (fun k ρ=>∃ts x y,ρ=[some (false,.scr l),some (false,.int at'),some (false,.int most),some (false,.int (2+c)),some (true,.lst (ts.map zaj)),x,y]/\ts.length<=k/\(0<k->1<=ts.length)/\(∀t∈ts,t.length=4)/\(∀t∈ts,∀c∈t,0<=c/\c<3)/\ts.Nodup) (by
   rintro k d ρ hd ⟨ts,x,y,rfl,h1,h2,j,i,g⟩;obtain⟨rfl,hk⟩:=zcd hd;obtain⟨t,q,a1,a2,a3⟩:=zro (l:=l) (at':=at') (most:=most) (col:=2+c) (k:=k) (S:=S) (ts:=ts) (y:=y) J (by omega) (by omega) (by omega) (by omega);refine⟨_,_,rfl,a3,_,_,_,rfl,?_,?_,?_,?_,?_⟩
   ·split<;>(try simp)<;>omega
   ·intro _;split
    ·rename_i h;exact List.length_pos_of_mem h
    ·simp
   ·intro u f;split at f
    ·exact j u f
    ·rw[ybb,yaD]at f
     rcases f with f|rfl
     ·exact j u f
     ·exact a1
   ·intro u f;split at f
    ·exact i u f
    ·rw[ybb,yaD]at f
     rcases f with f|rfl
     ·exact i u f
     ·exact a2
   ·split
    ·exact g
    ·rename_i h;rw[yc3];refine⟨g,by simp,?_⟩
     intro a J b hb;rw[yaD]at hb;subst hb;rintro rfl;exact h J)
  (ρ:=[some (false,.scr l),some (false,.int at'),some (false,.int most),some (false,.int (2+c)),some (true,.lst []),none,none]) ⟨[],none,none,rfl,by simp,by simp,by simp,by simp,by simp⟩
 rw[ziy]at h1 h2;refine⟨ts,⟨h2 (by omega),by omega,j,i,g⟩,?_⟩;simp[zcs,zag,zdE,p,p2,show -1000000<=1+m/\1+m<=1000000 by omega,e]
noncomputable def oD:Option Int->D|none=>.non|some i=>.int i
noncomputable def zdo(c:Nat)(g:Nat->Option Int):List D:=(List.range c).map fun j=>oD (g j)
def zcX(c:Nat)(g:Nat->Option Int):D:=.tup (zdo c g)
noncomputable def zaX(r c:Nat)(g:Z1):List D:=(List.range r).map fun i=>zcX c (g i)
def flr(r c:Nat)(g:Z1):D:=.tup (zaX r c g)
@[simp] def zfz:(zdo c g).length=c:=by simp[zdo]
@[simp] def zp1:(zaX r c g).length=r:=by simp[zaX]
def zeq(h:j<c):(zdo c g)[j]?=some (oD (g j)):=by simp[zdo,h]
def zc9(h:i<r):(zaX r c g)[i]?=some (zcX c (g i)):=by simp[zaX,h]
@[simp] def zyl(h:i<(zaX r c g).length):(zaX r c g)[i]=zcX c (g i):=by simp[zaX]
def zmY:zdo (k+1) g=zdo k g++[oD (g k)]:=by simp[zdo,ybE]
def zn4:zaX (k+1) c g=zaX k c g++[zcX c (g k)]:=by simp[zaX,ybE]
def zkI(l:List Int)(at' n m:Int)(i j:Nat):Option Int:=if zci l (at'+7*i+j) (n*m)<n then some (zci l (at'+7*i+j) (n*m))else none
theorem zqS(h:0<n*m):∀x,zkI l at' n m i j=some x->0<=x/\x<n:=by
 intro x e;unfold zkI at e;have:=zch l (at'+7*i+j) h;split at e
 ·cases e;omega
 ·cases e
theorem zp2{l:List Int}{at' m:Int}{ts:List D}{r c:Nat}{i:Nat}{S:Sto}{A B Mm:Option (Bool×D)}{y:Option (Bool×D)}{z:Option (Bool×D)}(ha:0<=at')(hp:0<(ts.length:Int)*m)(hm:zcA m=true)(hc:c<=1000):
  ∃U J,zfr (.one 9) zbd (zao 0 c) [some (false,.scr l),some (false,.int at'),some (false,.tup ts),A,B,some (false,.int m),Mm,some (false,.int i),some (true,.lst []),y,z] S
   = .nx [some (false,.scr l),some (false,.int at'),some (false,.tup ts),A,B,some (false,.int m),Mm,some (false,.int i),some (true,.lst (zdo c (zkI l at' ts.length m i))),U,J] S:=by
 obtain⟨a,e,U,J,rfl⟩:=zdW (tg:=.one 9) (body:=zbd) (ds:=zao 0 c) (S:=S) (fun k ρ=>∃y z,ρ=[some (false,.scr l),some (false,.int at'),some (false,.tup ts),A,B,some (false,.int m),Mm,some (false,.int i),some (true,.lst (zdo k (zkI l at' ts.length m i))),y,z]) (by
  rintro k d ρ hd ⟨y,z,rfl⟩;obtain⟨rfl,hk⟩:=zcd hd;have p:=zbZ (l:=l) (S:=S) (show 0<=at'+7*(i:Int)+(k:Int)by omega) hp;have pn:=zch l (at'+7*(i:Int)+(k:Int)) hp;refine⟨_,_,rfl,?_,some (false,.int k),some (false,.int (zci l (at'+7*i+k) (ts.length*m))),rfl⟩
  ·rw[zmY]
   by_cases h:zci l (at'+7*(i:Int)+(k:Int)) (ts.length*m)<ts.length
   ·simp[zbd,p,hm,h,zkI,oD,show k<=100000 by omega]
   ·simp[zbd,p,hm,h,zkI,oD,show k<=100000 by omega])
  (ρ:=[some (false,.scr l),some (false,.int at'),some (false,.tup ts),A,B,some (false,.int m),Mm,some (false,.int i),some (true,.lst []),y,z]) ⟨y,z,rfl⟩
 exact⟨U,J,by simpa using e⟩
theorem ziu(ha:0<=at')(hp:0<(ts.length:Int)*m)(hm:zcA m=true)(U:0<=r)(J:r<=1000)(hc:0<=c)(a3:c<=1000):
  zbO [.scr l,.int at',.tup ts,.int r,.int c,.int m] S=.ok (flr r.toNat c.toNat (zkI l at' ts.length m)) S:=by
 obtain⟨r,rfl⟩:=ya7 U;obtain⟨c,rfl⟩:=ya7 hc
 obtain⟨h,e,g,f,b,a,rfl⟩:=zdW (tg:=.one 7) (body:=zcM) (ds:=zao 0 r) (S:=S) (fun k ρ=>∃g f b a,ρ=[some (false,.scr l),some (false,.int at'),some (false,.tup ts),some (false,.int r),some (false,.int c),some (false,.int m),some (true,.lst (zaX k c (zkI l at' ts.length m))),g,f,b,a]) (by
  rintro k d ρ hd ⟨g,f,b,a,rfl⟩;obtain⟨rfl,hk⟩:=zcd hd;obtain⟨n,j,e⟩:=zp2 (l:=l) (at':=at') (m:=m) (ts:=ts) (r:=r) (c:=c) (i:=k) (S:=S) (A:=some (false,.int r)) (B:=some (false,.int c)) (Mm:=some (true,.lst (zaX k c (zkI l at' ts.length m)))) (y:=b) (z:=a) ha hp hm (by omega);refine⟨_,_,rfl,?_,some (false,.int k),some (true,.lst (zdo c (zkI l at' ts.length m k))),n,j,rfl⟩
  ·rw[zn4]
   simp[zcM,e,zcX,show -1000000<=(c:Int)/\(c:Int)<=1000000 by omega,show k<=100000 by omega])
  (ρ:=[some (false,.scr l),some (false,.int at'),some (false,.tup ts),some (false,.int r),some (false,.int c),some (false,.int m),some (true,.lst []),none,none,none,none]) ⟨none,none,none,none,rfl⟩
 simp at e;simp[zbO,zag,zdF,e,flr,show -1000000<=(r:Int)/\(r:Int)<=1000000 by omega]
noncomputable abbrev plD(i j:Nat):D:=.tup [.int i,.int j]
noncomputable def zbt(r c:Nat):List D:=(List.range r).flatMap fun i=>(List.range c).map fun j=>plD i j
def ziC:zbt (k+1) c=zbt k c++(List.range c).map fun j=>plD k j:=by simp[zbt,ybE]
def zc6(h:d∈zbt r c):∃i j,i<r/\j<c/\d=plD i j:=by
 simp only[zbt,ybW,yaV,yah]at h;obtain⟨i,hi,j,a,e⟩:=h;exact⟨i,j,hi,a,e.symm⟩
def zqL(hi:i<r)(J:j<c):plD i j∈zbt r c:=by
 simp only[zbt,ybW,yaV,yah];exact⟨i,hi,j,J,rfl⟩
def zd5:(zbt r c).length=r*c:=by
 induction r with
 |zero=>simp[zbt]|succ k a=>rw[ziC,yak,a];simp[ycD]
def zbn(h:1<=r):zaN [flr r c g] S=.ok (.tup [.int r,.int c]) S:=by
 have e:=zc9 (c:=c) (g:=g) (i:=0) (r:=r) (by omega);simp[zaN,zag,zgd,flr,e,zcX,show 0<r by omega]
theorem zeT(h:1<=r)(J:r<=100)(U:c<=100):zbA [flr r c g] S=.ok (.lst (zbt r c)) S:=by
 have inner:∀(k:Nat) (y:Option (Bool×D)),k<r->∃a,zfr (.one 4) zb5 (zao 0 c) [some (false,flr r c g),some (false,.tup [.int r,.int c]),some (true,.lst (zbt k c)),some (false,.int k),y] S
   = .nx [some (false,flr r c g),some (false,.tup [.int r,.int c]),some (true,.lst (zbt (k+1) c)),some (false,.int k),a] S:=by
  intro k y hk
  obtain⟨b,e,a,rfl⟩:=zdW (tg:=.one 4) (body:=zb5) (ds:=zao 0 c) (S:=S) (fun j ρ=>∃y,ρ=[some (false,flr r c g),some (false,.tup [.int r,.int c]),some (true,.lst (zbt k c++(List.range j).map fun j=>plD k j)),some (false,.int k),y]) (by
   rintro j d ρ hd ⟨y,rfl⟩;obtain⟨rfl,i⟩:=zcd hd
   have f:k*c+j<=100000:=by
    have:k*c<=100*100:=ybn (by omega) (by omega);omega
   refine⟨_,_,rfl,?_,some (false,.int j),rfl⟩
   simp[zb5,ybE,zd5,f])
   (ρ:=[some (false,flr r c g),some (false,.tup [.int r,.int c]),some (true,.lst (zbt k c)),some (false,.int k),y]) ⟨y,by simp⟩
  refine⟨a,?_⟩;rw[e,ziC];simp
 obtain⟨b,e,x,y,rfl⟩:=zdW (tg:=.one 3) (body:=zdh) (ds:=zao 0 r) (S:=S) (fun k ρ=>∃x y,ρ=[some (false,flr r c g),some (false,.tup [.int r,.int c]),some (true,.lst (zbt k c)),x,y]) (by
  rintro k d ρ hd ⟨x,y,rfl⟩;obtain⟨rfl,hk⟩:=zcd hd;obtain⟨a,e⟩:=inner k y (by omega);refine⟨_,_,rfl,?_,some (false,.int k),a,rfl⟩
  simp[zdh,e,show -1000000<=(c:Int)/\(c:Int)<=1000000 by omega])
  (ρ:=[some (false,flr r c g),some (false,.tup [.int r,.int c]),some (true,.lst []),none,none]) ⟨none,none,rfl⟩
 simp at e;simp[zbA,zag,zea,zbn h,e,show -1000000<=(r:Int)/\(r:Int)<=1000000 by omega]
def zc3(hi:i<r)(J:j<c):zas [flr r c g,plD i j] S=.ok (oD (g i j)) S:=by
 simp[zas,zag,zeb,flr,plD,za1,zc9 hi,zeq J,zcX]
def za3:zak [.tup l,.int a,.int b] S=.ok (.bl (decide (a<=l.length/\(l.length:Int)<=b))) S:=by
 by_cases h1:a<=(l.length:Int)
 ·by_cases h2:(l.length:Int)<=b<;>simp[zak,zag,zb3,zeA,h1,h2]
 ·simp[zak,zag,zb3,zeA,h1]
theorem zio:zbp [.tup l,.tup k] S=.ok (.bl (decide (l.length=k.length))) S:=by
 simp[zbp,zag,zdc,za3];rw[<-Bool.decide_and,yde];omega
def zth{α:Type}{xs:List α}{p:α->Bool}:zhU (xs.map fun x=>D.bl (p x))=some (xs.map p):=by
 induction xs with
 |nil=>rfl|cons x xs a=>simp[zhU,a]
def zhX{α:Type}{xs:List α}{p:α->Bool}:zk9 [.lst (xs.map fun x=>D.bl (p x))]=some (.bl (xs.all p)):=by
 show Option.map _ (zhU _)=_;rw[zth];simp[List.all_map]
@[simp] def zCe:eqD (oD a) (oD b)=some (.bl (decide (a=b))):=by
 cases a<;>cases b<;>simp[oD]
 ·rfl
 ·rfl
 ·rfl
@[simp] def zzu:zdp (oD a)=decide (a=none):=by cases a<;>simp[oD]
theorem zfI{l:List D}{a k:Nat}{S:Sto}:zcQ [.tup l,.int a,.int k] S=.ok (.tup ((l.drop a).take k)) S:=by
 have h1:¬ ((0:Int) > a):=by omega
 have h2:¬ ((0:Int) > (a:Int)+(k:Int)):=by omega
 have e:zol l (some (a:Int)) (some ((a:Int)+(k:Int)))=(l.drop a).take k:=by
  unfold zol;rw[show(a:Int)+(k:Int)=((a+k:Nat):Int)by omega,HT.zmK,HT.zmK]
  by_cases h:a<=l.length
  ·rw[Nat.min_eq_left h]
   by_cases h':a+k<=l.length
   ·rw[Nat.min_eq_left h',show a+k-a=k by omega]
   ·rw[Nat.min_eq_right (by omega),yby (by simp),yby (by simp;omega)]
  ·rw[List.drop_eq_nil_of_le (by omega),List.drop_eq_nil_of_le (by omega)];simp
 simp[zcQ,zag,zgc,h1,h2,e]
theorem zr3:((zdo c g).drop a).take k=zdo (min k (c-a)) fun j=>g (a+j):=by
 apply ybC;intro i;rw[List.getElem?_take]
 by_cases h:i<k
 ·rw[if_pos h,ybF]
  by_cases h':a+i<c
  ·rw[zeq h',zeq (by omega)]
  ·rw[yaE (by simp;omega),yaE (by simp;omega)]
 ·rw[if_neg h,yaE (by simp;omega)]
def zs1:((zaX r c g).drop a).take k=zaX (min k (r-a)) c fun i=>g (a+i):=by
 apply ybC;intro i;rw[List.getElem?_take]
 by_cases h:i<k
 ·rw[if_pos h,ybF]
  by_cases h':a+i<r
  ·rw[zc9 h',zc9 (by omega)]
  ·rw[yaE (by simp;omega),yaE (by simp;omega)]
 ·rw[if_neg h,yaE (by simp;omega)]
theorem zko{r c a b k m:Nat}{g:Z1}{S:Sto}(J:r<=1000):zkv [flr r c g,.int a,.int b,.int k,.int m] S=.ok (flr (min k (r-a)) (min m (c-b)) fun i j=>g (a+i) (b+j)) S:=by
 have e:zaD (.one 0) zbv (eFn zcQ [(zaa 0),(zaa 2),(zaa 1)]) [none,some (false,.int m),some (false,.int b)] (zaX (min k (r-a)) c fun i=>g (a+i)) S=.ok (zaX (min k (r-a)) (min m (c-b)) fun i j=>g (a+i) (b+j)) S:=by
  rw[zan (g:=fun d=>match d with|.tup l=>.tup ((l.drop b).take m)|_=>.non)]
  ·simp[zaX,zcX,zr3]
  ·intro d hd;simp only[zaX,yah,yaV]at hd;obtain⟨i,hi,rfl⟩:=hd;exact⟨_,rfl,by simp[zcX,zfI]⟩
 have f:min k (r-a)<=100000:=by omega
 simp[zkv,zag,zoa,flr,zfI,zs1,e,f]
theorem zfH{l:List D}{n:Nat}{S:Sto}:zak [.tup l,.int n,.int n] S=.ok (.bl (decide (l.length=n))) S:=by
 rw[za3];congr 3;apply propext;omega
theorem zfw(h1:1<=r)(J:r<=1000):zcT [flr r c g,flr r' c' h] S=.ok (.bl (decide (r'=r/\c'=c))) S:=by
 by_cases e:r'=r
 ·subst e
  have k:zgp (zaX r' c g) (zaX r' c' h)=(List.range r').map fun i=>.tup [zcX c (g i),zcX c' (h i)]:=by
   apply ybC;intro i
   by_cases hi:i<r'
   ·have:i<(zgp (zaX r' c g) (zaX r' c' h)).length:=by rw[zft];simp;omega
    obtain⟨x,y,j,e2,l⟩:=zg5 (yac this);rw[zc9 hi]at j e2;cases j;cases e2;rw[yac this,l];simp[hi]
   ·rw[yaE (by rw[zft];simp;omega),yaE (by simp;omega)]
  have b:zaD (.tup [0,1]) zbv (eFn zbp [(zaa 0),(zaa 1)]) [none,none] (zgp (zaX r' c g) (zaX r' c' h)) S=.ok ((List.range r').map fun _=>.bl (decide (c=c'))) S:=by
   rw[k,zan (g:=fun _=>.bl (decide (c=c')))]
   ·simp
   ·intro d hd;simp only[yah,yaV]at hd;obtain⟨i,hi,rfl⟩:=hd;exact⟨_,rfl,by simp[zcX,zio]⟩
  have f:zk9 [.lst ((List.range r').map fun _=>.bl (decide (c=c')))]=some (.bl (decide (c'=c))):=by
   rw[zhX (p:=fun _=>decide (c=c'))]
   by_cases a:c=c'
   ·subst a;simp
   ·have:((List.range r').all fun _=>false)=false:=by
     cases r' with
     |zero=>omega|succ n=>simp[ybE]
    simp only[a,show ¬ c'=c from fun z=>a z.symm,decide_false,this]
  simp only[List.map_const',ycr]at b f;simp[zcT,zag,zeC,flr,zfH,b,f,show r'<=100000 by omega]
 ·simp[zcT,zag,zeC,flr,zfH,e]
noncomputable def zdY(g:Z1):D->Bool|.tup [.int i,.int j]=>(g i.toNat j.toNat).isSome|_=>false
def zkq(h:1<=r)(J:r<=100)(U:c<=100):zbo [flr r c g] S=.ok (.lst ((zbt r c).filter (zdY g))) S:=by
 have a:((zbt r c).filter (zdY g)).length<=100000:=by
  refine yas (yaW _ _) ?_;rw[zd5];have:r*c<=100*100:=ybn J U;omega
 have e:zaD (.one 0) (zae zlF (eFn zas [(zaa 1),(zaa 0)]) (zab .non)) (zaa 0) [none,some (false,flr r c g)] (zbt r c) S=.ok ((zbt r c).filter (zdY g)) S:=by
  rw[zcW (g:=id) (p:=zdY g)]
  ·simp
  ·intro d hd;obtain⟨i,j,hi,b,rfl⟩:=zc6 hd;refine⟨_,rfl,?_,fun _=>by simp⟩;simp[zc3 hi b,zdY]
   cases g i j<;>rfl
 simp[zbo,zag,zda,zeT h J U,e,a]
noncomputable def zn8(r c:Nat)(g h:Z1):Bool:=decide (∀i,i<r->∀j,j<c->h i j=none\/g i j=h i j)
def zim(h1:1<=r)(J:r<=100)(U:c<=100):zbJ [flr r c g,flr r c h] S=.ok (.bl (zn8 r c g h)) S:=by
 have f:((zbt r c).filter (zdY h)).length<=100000:=by
  refine yas (yaW _ _) ?_;rw[zd5];have:r*c<=100*100:=ybn J U;omega
 have e:zaD (.one 0) zbv (zae eqD (eFn zas [(zaa 2),(zaa 0)]) (eFn zas [(zaa 1),(zaa 0)])) [none,some (false,flr r c h),some (false,flr r c g)] ((zbt r c).filter (zdY h)) S=.ok (((zbt r c).filter (zdY h)).map fun d=>.bl ((fun d=>match d with|.tup [.int i,.int j]=>decide (g i.toNat j.toNat=h i.toNat j.toNat)|_=>true) d)) S:=by
  rw[zan];intro d hd;obtain⟨i,j,hi,a,rfl⟩:=zc6 ((yaY.mp hd).1);exact⟨_,rfl,by simp[zc3 hi a]⟩
 have k:(((zbt r c).filter (zdY h)).all fun d=>match d with|.tup [.int i,.int j]=>decide (g i.toNat j.toNat=h i.toNat j.toNat)|_=>true)=zn8 r c g h:=by
  rw[ydl];unfold zn8;rw[ybj,decide_eq_true_iff];constructor
  ·intro H i hi j a
   cases hh:h i j with
   |none=>exact .inl rfl|some x=>
    have:=H (plD i j) (yaY.mpr ⟨zqL hi a,by simp[zdY,hh]⟩);simp[hh]at this;exact .inr this
  ·intro H d hd;obtain⟨i,j,hi,a,rfl⟩:=zc6 ((yaY.mp hd).1);have b:=(yaY.mp hd).2;simp[zdY]at b
   rcases H i hi j a with z|z
   ·rw[z]at b;cases b
   ·simp[z]
 simp[zbJ,zag,zcI,zkq h1 J U,e,f,zhX,k]
noncomputable def ztm(r c pr pc:Nat)(g h:Z1)(i j:Nat):Bool:=decide (i+pr<=r/\j+pc<=c)&&zn8 pr pc (fun a b=>g (i+a) (j+b)) h
theorem zls(hr:r<=100)(hc:c<=100)(J:1<=pr)(p2:pr<=100)(q1:1<=pc)(U:pc<=100)(hi:i<r)(hj:j<c):zbB [flr r c g,flr pr pc h,plD i j] S=.ok (.bl (ztm r c pr pc g h i j)) S:=by
 by_cases hw:i+pr<=r/\j+pc<=c
 ·have a:min pr (r-i)=pr:=by omega
  have e2:min pc (c-j)=pc:=by omega
  simp[zbB,zag,zdb,zbn J,zko (show r<=1000 by omega),a,e2,zfw J (show pr<=1000 by omega),zim J p2 U,ztm,hw]
 ·have e:¬ (min pr (r-i)=pr/\min pc (c-j)=pc):=by omega
  simp[zbB,zag,zdb,zbn J,zko (show r<=1000 by omega),zfw J (show pr<=1000 by omega),e,ztm,hw]
noncomputable def zld(r c pr pc:Nat)(g h:Z1):D->Bool|.tup [.int i,.int j]=>ztm r c pr pc g h i.toNat j.toNat|_=>false
def zc2(h1:1<=r)(J:r<=100)(U:c<=100)(p1:1<=pr)(p2:pr<=100)(q1:1<=pc)(q2:pc<=100):zce [flr r c g,flr pr pc h] S=.ok (.lst ((zbt r c).filter (zld r c pr pc g h))) S:=by
 have a:((zbt r c).filter (zld r c pr pc g h)).length<=100000:=by
  refine yas (yaW _ _) ?_;rw[zd5];have:r*c<=100*100:=ybn J U;omega
 have e:zaD (.one 0) (eFn zbB [(zaa 1),(zaa 2),(zaa 0)]) (zaa 0) [none,some (false,flr r c g),some (false,flr pr pc h)] (zbt r c) S=.ok ((zbt r c).filter (zld r c pr pc g h)) S:=by
  rw[zcW (g:=id) (p:=zld r c pr pc g h)]
  ·simp
  ·intro d hd;obtain⟨i,j,hi,b,rfl⟩:=zc6 hd;exact⟨_,rfl,by simp[zls J U p1 p2 q1 q2 hi b,zld],fun _=>by simp⟩
 simp[zce,zag,zgb,zeT h1 J U,e,a]
theorem zfB{tg:Tg}{α:Type}(mk:List D->α->Env)(g:D->List D)(N:Nat):∀{ds:List D},(∀d∈ds,∀(L:List D) (x:α),L.length+(g d).length<=N->∃J x',tg.put (mk L x) d=some J/\body J S=.nx (mk (L++g d) x') S) →
  ∀(U:List D) (x0:α),U.length+(ds.flatMap g).length<=N->∃x',zfr tg body ds (mk U x0) S=.nx (mk (U++ds.flatMap g) x') S
 |[],_,U,x0,_=>⟨x0,by simp[zfr]⟩
 |d::ds,step,U,x0,hN=>by
  rw[yc5,yak]at hN;obtain⟨J,x',c,e2⟩:=step d yan U x0 (by omega);obtain⟨a,b⟩:=zfB mk g N (ds:=ds) (fun d hd=>step d (yal _ hd)) (U++g d) x' (by rw[yak];omega);refine⟨a,?_⟩;unfold zfr;rw[c];dsimp only;rw[e2];dsimp only;rw[b,yc5,ybB]
def zlA{lo hi:Int}{k:Nat}{d:D}(h:(zao lo hi)[k]?=some d):d=.int (lo+k)/\lo+(k:Int)<hi:=by
 unfold zao at h;rw[yax]at h
 cases a:(List.range (hi-lo).toNat)[k]? with
 |none=>rw[a]at h;cases h|some j=>
  rw[a]at h;obtain⟨h1,h2⟩:=yaq.mp a;simp at h1 h2;subst h2;simp at h;exact⟨h.symm,by omega⟩
def zcP{lo hi:Int}{d:D}(h:d∈zao lo hi):∃i:Int,d=.int i/\lo<=i/\i<hi:=by
 obtain⟨k,hk⟩:=ycu h;obtain⟨rfl,h2⟩:=zlA hk;exact⟨_,rfl,by omega,h2⟩
def zgH{lo hi:Int}:(zao lo hi).length=(hi-lo).toNat:=by unfold zao;simp
def zvW(h1:d.fit 9=true)(h2:e.fit 9=true):eqD d e=some (.bl (zgJ d e)):=by unfold eqD;rw[h1,h2];rfl
noncomputable def znx(rows:List D)(i:Nat):D->Bool|.int k=>zgJ (rows.getD i .non) (rows.getD k.toNat .non)|_=>false
def zlJ(rows:List D):D->List D|.int i=>((zao (i+1) rows.length).filter (znx rows i.toNat)).map fun d=>.tup [.int i,d]|_=>[]
def zew(rows:List D):List D:=(zao 0 rows.length).flatMap (zlJ rows)
def zny(h:d∈zao 0 rows.length):(zlJ rows d).length<=rows.length:=by
 obtain⟨i,rfl,h0,h1⟩:=zcP h;unfold zlJ;rw[yae];refine yas (yaW _ _) ?_;rw[zgH];omega
theorem zf9{α:Type}{g:α->List D}:∀{ds:List α},(∀d∈ds,(g d).length<=m)->(ds.flatMap g).length<=ds.length*m
 |[],_=>by simp
 |d::ds,h=>by
  have h1:=h d yan;have h2:=zf9 (ds:=ds) fun d hd=>h d (yal _ hd)
  rw[yc5,yak,yap,ycD];omega
def zlI(h:rows.length<=100):(zew rows).length<=10000:=by
 have:=zf9 (g:=zlJ rows) (ds:=zao 0 rows.length) fun d hd=>zny hd
 rw[zgH]at this;have h2:((rows.length:Int)-0).toNat*rows.length<=100*100:=ybn (by omega) h;unfold zew;omega
theorem zks{rows:List D}{i:Int}(h0:0<=i)(h1:i<rows.length):atI rows i=some (rows.getD i.toNat .non):=by
 rw[zfC h0,yac (by omega)];simp[List.getD,show i.toNat<rows.length by omega]
def zfy{rows:List D}(hf:∀d∈rows,d.fit 9=true){i:Nat}:(rows.getD i .non).fit 9=true:=by
 by_cases h:i<rows.length
 ·rw[yar,yac h];exact hf _ (ybK h)
 ·rw[yar,yaE (by omega)];rfl
theorem zd7{α β:Type}{p:α->Bool}{f:α->β}:∀{ds:List α},(ds.flatMap fun d=>if p d then[f d]else[])=(ds.filter p).map f
 |[]=>rfl|d::ds=>by
  rw[yc5,zd7 (ds:=ds)]
  cases h:p d<;>simp[h]
def zhi(hf:∀d∈rows,d.fit 9=true)(J:rows.length<=100):zcg [.tup rows] S=.ok (.lst (zew rows)) S:=by
 obtain⟨b,e⟩:=zfB (tg:=.one 2) (body:=zdi) (S:=S) (fun L (x:Option (Bool×D)×Option (Bool×D))=>[some (false,.tup rows),some (true,.lst L),x.1,x.2]) (zlJ rows) 50000 (ds:=zao 0 rows.length) (by
  intro d hd L x f;obtain⟨i,rfl,h0,h1⟩:=zcP hd
  obtain⟨b,e⟩:=zfB (tg:=.one 3) (body:=zdj) (S:=S) (fun L (x:Option (Bool×D))=>[some (false,.tup rows),some (true,.lst L),some (false,.int i),x]) (fun d=>if znx rows i.toNat d then[.tup [.int i,d]]else[]) 50000 (ds:=zao (i+1) rows.length) (by
   intro d hd L x f;obtain⟨k,rfl,k0,k1⟩:=zcP hd;refine⟨_,some (false,.int k),rfl,?_⟩;have q:eqD (rows.getD i.toNat .non) (rows.getD k.toNat .non)=some (.bl (znx rows i.toNat (.int k))):=zvW (zfy hf) (zfy hf)
   have a:L.length<=100000:=by omega
   have g1:=zks (rows:=rows) h0 h1;have g2:=zks (rows:=rows) (show 0<=k by omega) k1;generalize rows.getD i.toNat .non=d1 at*;generalize rows.getD k.toNat .non=d2 at*
   cases c:znx rows i.toNat (.int k)<;>rw[c]at q<;>simp[zdj,g1,g2,q,a,c]) L x.2 (by rw[zd7];exact f)
  rw[zd7]at e;refine⟨_,(some (false,.int i),b),rfl,?_⟩
  have hb:(-1000000<=i+1/\i+1<=1000000)/\-1000000<=(rows.length:Int)/\(rows.length:Int)<=1000000:=by omega
  simp[zdi,hb,e,zlJ]) [] (none,none) (by have:=zlI J;unfold zew at this;simp only[ybP];omega)
 have hb:-1000000<=(rows.length:Int)/\(rows.length:Int)<=1000000:=by omega
 simp at e;simp[zcg,zag,zec,hb,e,zew]
def zjC:D.pls ((zbt r c).filter p)=true:=by
 rw[D.pls_iff];intro d hd;obtain⟨i,j,_,_,rfl⟩:=zc6 (yaY.mp hd).1;rfl
def zhJ:D.fits (n+1) ((zbt r c).filter p)=true:=by
 rw[D.fits_iff];intro d hd;obtain⟨i,j,_,_,rfl⟩:=zc6 (yaY.mp hd).1;simp
noncomputable def zet(r c:Nat)(g:Z1):List Int:=(List.range r).flatMap fun i=>(List.range c).filterMap fun j=>g i j
noncomputable def atP(g:Z1):D->D|.tup [.int i,.int j]=>oD (g i.toNat j.toNat)|_=>.non
theorem zht:∀J:List Nat,(((J.map fun j=>plD i j).filter (zdY g)).map (atP g))=(J.filterMap fun j=>g i j).map D.int
 |[]=>rfl|j::J=>by
  rw[yaw,ybI,yca]
  have e:zdY g (plD i j)=(g i j).isSome:=by show(g (i:Int).toNat (j:Int).toNat).isSome=_;rfl
  rw[e]
  cases h:g i j with
  |none=>simp only[Option.isSome,yaG,ybL];exact zht J|some x=>
   simp only[Option.isSome,yb2];rw[yaw,yaw,zht J,show atP g (plD i j)=oD (g i j)from rfl,h];rfl
def zkH:((zbt r c).filter (zdY g)).map (atP g)=(zet r c g).map D.int:=by
 unfold zbt zet;rw[List.filter_flatMap,List.map_flatMap,List.map_flatMap];congr 1;funext i;exact zht _
def zpx(J:r<=100)(U:c<=100):(zet r c g).length<=10000:=by
 have e:=congrArg List.length (zkH (r:=r) (c:=c) (g:=g));rw[yae,yae]at e;rw[<-e];refine yas (yaW _ _) ?_;rw[zd5];exact ybn J U
def zkG:x∈zet r c g↔∃i j,i<r/\j<c/\g i j=some x:=by
 unfold zet;simp only[ybW,yaV,yci];exact⟨fun⟨i,hi,j,a,e⟩=>⟨i,j,hi,a,e⟩,fun⟨i,j,hi,a,e⟩=>⟨i,hi,j,a,e⟩⟩
def zir(h:1<=r)(J:r<=100)(U:c<=100):zcp [flr r c g] S=.ok (.lst ((zet r c g).map D.int)) S:=by
 have e:zaD (.one 0) zbv (eFn zas [(zaa 1),(zaa 0)]) [none,some (false,flr r c g)] ((zbt r c).filter (zdY g)) S=.ok ((zet r c g).map D.int) S:=by
  rw[zan (g:=atP g),zkH];intro d hd;obtain⟨i,j,hi,b,rfl⟩:=zc6 ((yaY.mp hd).1);exact⟨_,rfl,by simp[zc3 hi b,atP]⟩
 have f:=zpx (g:=g) J U
 have a:((zbt r c).filter (zdY g)).length<=100000:=by
  refine yas (yaW _ _) ?_;rw[zd5];have:r*c<=100*100:=ybn J U;omega
 simp[zcp,zag,zdz,zkq h J U,e,a,show(zet r c g).length<=100000 by omega]
theorem zhC:∀ns:List Int,zcV (ns.map D.int)=some ns
 |[]=>rfl|n::ns=>by
  show(zcV (ns.map D.int)).map _=_;rw[zhC ns];rfl
def zsb:zgJ (.int a) (.int b)=decide (a=b):=by
 by_cases h:a=b<;>simp[zgJ,D.py,PyData.eqv,h]
noncomputable def zgx(ns:List Int)(k:Int):Nat:=ns.countP fun x=>decide (x=k)
def zlT:zeH (ns.map D.int) (.int k)=some (.int (zgx ns k:Nat)):=by
 unfold zeH;rw[show(D.int k).fit 8=true from rfl,show D.fits 8 (ns.map D.int)=true by rw[D.fits_iff];intro d hd;obtain⟨y,_,rfl⟩:=yah.mp hd;rfl];show some (D.int _)=_;rw[List.countP_map];have e:(fun d=>zgJ d (.int k))∘D.int=fun x=>decide (x=k):=funext fun t=>zsb
 rw[e];rfl
def zmh(ns:List Int):List D:=(SI.zau ns).map fun k=>.tup [.int k,.int (zgx ns k:Nat)]
def zms(h:∀x∈ns,0<=x/\x<4):zjp (.lst (ns.map D.int))=some (.lst ((SI.zau ns).map D.int)):=by
 show(zcV (ns.map D.int)).bind _=_;rw[zhC];show(if _ then _ else _)=_;rw[if_pos (ybj.mpr fun x a=>yaz (h x a))]
def zjx(h:∀x∈ns,0<=x/\x<4):zes [.lst (ns.map D.int)] S=.ok (.lst (zmh ns)) S:=by
 have e:zaD (.one 0) zbv (zgw [(zaa 0),(eMt zeH 1 (zaf 0))]) [none,some (false,.lst (ns.map D.int))] ((SI.zau ns).map D.int) S=.ok (zmh ns) S:=by
  rw[zan (g:=fun d=>match d with|.int k=>.tup [.int k,.int (zgx ns k:Nat)]|_=>.non)]
  ·unfold zmh;rw[yay];rfl
  ·intro d hd;obtain⟨k,hk,rfl⟩:=yah.mp hd;exact⟨_,rfl,by simp[zlT]⟩
 have b:(SI.zau ns).length<=100000:=yas SI.zbS (by decide)
 have a:(zmh ns).length<=100000:=by unfold zmh;rw[yae];exact b
 simp[zes,zag,zgf,zms h,e,b,a]
def zmP(h:1<=r)(J:r<=100)(U:c<=100)(hg:∀i j x,g i j=some x->0<=x/\x<4):zcf [flr r c g] S=.ok (.lst (zmh (zet r c g))) S:=by
 have b:(zmh (zet r c g)).length<=100000:=by unfold zmh;rw[yae];exact yas SI.zbS (by decide)
 simp[zcf,zag,zjK,zir h J U,zjx (ns:=zet r c g) (fun x a=>by obtain⟨i,j,_,_,e⟩:=zkG.mp a;exact hg i j x e),b]
structure TOk(ts:Z2):Prop where
 four:∀t∈ts,t.length=4
 le:ts.length<=100
noncomputable def zop(ts:Z2)(n:Int)(s:Nat):Int:=(ts.getD n.toNat []).getD s 0
theorem zmg{ts:Z2}(ht:TOk ts){n:Int}(h0:0<=n)(h1:n<ts.length):atI (ts.map zaj) n=some (.tup ([zop ts n 0,zop ts n 1,zop ts n 2,zop ts n 3].map D.int)):=by
 rw[zfC h0,yax,yac (by omega)];have f:=ht.four _ (ybK (show n.toNat<ts.length by omega))
 have e:ts.getD n.toNat []=ts[n.toNat]:=by rw[yar,yac (by omega)];rfl
 unfold zop;rw[e];generalize ts[n.toNat]=t at*
 match t,f with
 |[a,b,c,d],_=>rfl
def zd4:zaO [.int i] S=.ok (.bl true) S:=by simp[zaO,zag,zdX,zeA]
def zjr:zaO [.non] S=.ok (.bl false) S:=by simp[zaO,zag,zdX,zeA]
def zdZ(h:∀x,o=some x->0<=x/\x<ts.length):zbk [.tup ts,oD o] S=.ok (.bl o.isSome) S:=by
 cases o with
 |none=>simp[zbk,zag,zcB,oD,zjr]|some x=>obtain⟨h0,h1⟩:=h x rfl;simp[zbk,zag,zcB,oD,zd4,h0,h1]
noncomputable def hp1:Fe:=zcm leD ltD (zab (.int 0)) (zae ixD (zaf 1) (zab (.int 0))) (zae ixD (zaf 2) (zab (.int 0)))
noncomputable def hp2:Fe:=zcm leD ltD (zab (.int 0)) (zae ixD (zaf 1) (zab (.int 1))) (zae ixD (zaf 2) (zab (.int 1)))
noncomputable def hpF:Fs:=(zac (sFz [1] (sIf (eOr (eUn zcn (eFn zak [(zaa 1),(zab (.int 2)),(zab (.int 2))])) (eOr (eUn zcn (eFn zaO [(zae ixD (zaf 1) (zab (.int 0)))])) (eUn zcn (eFn zaO [(zae ixD (zaf 1) (zab (.int 1)))])))) (zac (sFz [] (zaK (zab (.bl false)))) sNx) sNx))
  (zac (sFz [0] (zbM 2 false (eFn zaN [(zaa 0)]))) (zac (sFz [] (zaK (zgV hp1 hp2))) sNx)))
def zvP:zee=hpF:=rfl
def zep(h1:1<=r):zbC [flr r c g,.tup [.int i,.int j]] S=.ok (.bl (decide ((0<=i/\i<r)/\0<=j/\j<c))) S:=by
 have ht:zak [.tup [.int i,.int j],.int 2,.int 2] S=.ok (.bl true) S:=by rw[za3];simp
 have sz:=zbn (c:=c) (g:=g) (S:=S) h1
 have t1:∀x,hp1 [x,some (false,.tup [.int i,.int j]),some (false,.tup [.int r,.int c])] S=.ok (.bl (decide (0<=i/\i<r))) S:=fun x=>by
  by_cases a:0<=i<;>simp[hp1,a]
 have t2:∀x,hp2 [x,some (false,.tup [.int i,.int j]),some (false,.tup [.int r,.int c])] S=.ok (.bl (decide (0<=j/\j<c))) S:=fun x=>by
  by_cases a:0<=j<;>simp[hp2,a]
 rw[Bool.decide_and];generalize decide (0<=i/\i<r)=b at*;generalize decide (0<=j/\j<c)=d at*;generalize flr r c g=fl at*;simp only[zbC,zag,zvP]
 cases b<;>simp[hpF,ht,zd4,sz,t1,t2]
noncomputable def InT(ts:Z2)(g:Z1):Prop:=∀i j x,g i j=some x->0<=x/\x<ts.length
noncomputable def zaS(ts:Z2)(r c:Nat)(g:Z1)(i j s:Nat):Option Int:=if i<r/\j<c then(g i j).map fun x=>zop ts x s else none
theorem zfx{ts:Z2}{r c:Nat}{g:Z1}{i j s:Nat}{S:Sto}(ht:TOk ts)(hg:InT ts g)(h1:1<=r)(hs:s<4):zaP [.tup (ts.map zaj),flr r c g,plD i j,.int s] S=.ok (oD (zaS ts r c g i j s)) S:=by
 unfold zaS
 by_cases h:i<r/\j<c
 ·have d:zbC [flr r c g,plD i j] S=.ok (.bl true) S:=by rw[zep h1];congr 3;simp;omega
  have a:=zc3 (g:=g) (S:=S) h.1 h.2;have hh:=zdZ (ts:=ts.map zaj) (o:=g i j) (S:=S) (fun x b=>by simpa using hg i j x b);rw[if_pos h]
  cases b:g i j with
  |none=>
   rw[b]at a hh;simp only[oD]at a hh;simp[zaP,zag,zdC,d,a,hh,oD]
  |some x=>
   obtain⟨x0,f⟩:=hg i j x b;rw[b]at a hh;have e:=zmg ht x0 f
   have es:atI ([zop ts x 0,zop ts x 1,zop ts x 2,zop ts x 3].map D.int) (s:Int)=some (.int (zop ts x s)):=by
    rw[za1]
    match s,hs with
    |0,_=>rfl|1,_=>rfl|2,_=>rfl|3,_=>rfl
   simp only[oD]at a hh;simp only[yaw,ycE]at e es;simp[zaP,zag,zdC,d,a,hh,oD,e,es]
 ·have d:zbC [flr r c g,plD i j] S=.ok (.bl false) S:=by rw[zep h1];congr 3;simp;omega
  rw[if_neg h];simp[zaP,zag,zdC,d,oD]
theorem zo6(ht:TOk ts)(hg:InT ts g)(h1:1<=r):zbK [.tup (ts.map zaj),flr r c g,plD i j] S=.ok (.tup [oD (zaS ts r c g i j 1),oD (zaS ts r c g i (j+1) 3)]) S:=by
 have a:zaP [.tup (ts.map zaj),flr r c g,.tup [.int i,.int j],.int 1] S=_:=zfx (i:=i) (j:=j) (s:=1) (S:=S) (c:=c) ht hg h1 (by omega);have e2:zaP [.tup (ts.map zaj),flr r c g,.tup [.int i,.int ((j:Int)+1)],.int 3] S=_:=zfx (i:=i) (j:=j+1) (s:=3) (S:=S) (c:=c) ht hg h1 (by omega);simp[zbK,zag,zcJ,plD,a,e2]
theorem zmQ(ht:TOk ts)(hg:InT ts g)(h1:1<=r):zbq [.tup (ts.map zaj),flr r c g,plD i j] S=.ok (.tup [oD (zaS ts r c g i j 2),oD (zaS ts r c g (i+1) j 0)]) S:=by
 have a:zaP [.tup (ts.map zaj),flr r c g,.tup [.int i,.int j],.int 2] S=_:=zfx (i:=i) (j:=j) (s:=2) (S:=S) (c:=c) ht hg h1 (by omega);have e2:zaP [.tup (ts.map zaj),flr r c g,.tup [.int ((i:Int)+1),.int j],.int 0] S=_:=zfx (i:=i+1) (j:=j) (s:=0) (S:=S) (c:=c) ht hg h1 (by omega);simp[zbq,zag,zck,plD,a,e2]
noncomputable def sm(n:Nat)(f:Nat->Nat):Nat:=((List.range n).map f).sum
def zhd:sm 0 f=0:=rfl
def zaW:sm (n+1) f=sm n f+f n:=by simp[sm,ybE]
theorem zaY(h:∀i,i<n->f i=g i):sm n f=sm n g:=by
 induction n with
 |zero=>rfl|succ k a=>rw[zaW,zaW,a fun i hi=>h i (by omega),h k (by omega)]
theorem zfF:sm n (fun i=>f i+g i)=sm n f+sm n g:=by
 induction n with
 |zero=>rfl|succ k a=>rw[zaW,zaW,zaW,a];omega
def zoX:sm n (fun _=>m)=n*m:=by
 induction n with
 |zero=>simp[zhd]|succ k a=>rw[zaW,a,ycD]
def zrM:sm (n+1) f=f 0+sm n fun i=>f (i+1):=by
 induction n with
 |zero=>simp[sm]|succ k a=>rw[zaW,a,zaW];omega
def zt6:sm n (fun i=>f (n-1-i))=sm n f:=by
 induction n with
 |zero=>rfl|succ k a=>
  rw[zrM,zaW,Nat.add_comm];congr 1;rw[<-a];refine zaY fun i hi=>?_
  congr 1;omega
def zrL{n m:Nat}{f:Nat->Nat->Nat}:sm n (fun i=>sm m fun j=>f i j)=sm m fun j=>sm n fun i=>f i j:=by
 induction n with
 |zero=>rw[zhd];exact(Eq.trans (zaY fun i _=>zhd) (by rw[zoX];rfl)).symm
 |succ k a=>rw[zaW,a,<-zfF];exact zaY fun i _=>zaW.symm
noncomputable def mt2:Option Int->Option Int->Option Bool|some a,some b=>some (decide (a=b))|_,_=>none
def eaM(ts:Z2)(r c:Nat)(g:Z1)(i j:Nat):Option Bool:=mt2 (zaS ts r c g i j 1) (zaS ts r c g i (j+1) 3)
def soM(ts:Z2)(r c:Nat)(g:Z1)(i j:Nat):Option Bool:=mt2 (zaS ts r c g i j 2) (zaS ts r c g (i+1) j 0)
noncomputable def alN:Option Bool->Nat|some true=>1|_=>0
noncomputable def unN:Option Bool->Nat|some false=>1|_=>0
def zcN(φ:Option Bool->Nat)(ts:Z2)(r c:Nat)(g:Z1):Nat:=sm r fun i=>sm c fun j=>φ (eaM ts r c g i j)+φ (soM ts r c g i j)
def zph{β:Type}{F:D->List β}:(zbt r c).flatMap F=(List.range r).flatMap fun i=>(List.range c).flatMap fun j=>F (plD i j):=by
 unfold zbt;rw[List.flatMap_assoc];congr 1;funext i;rw[List.flatMap_map]
def zgW{β:Type}{F:D->List β}{p:β->Bool}:((zbt r c).flatMap F).countP p=sm r fun i=>sm c fun j=>(F (plD i j)).countP p:=by
 rw[zph,ydr];unfold sm;congr 1;apply yaC;intro i _;show List.countP p (List.flatMap _ _)=_;rw[ydr];rfl
def prD(a b:Option Int):D:=.tup [oD a,oD b]
def meG(ts:Z2)(r c:Nat)(g:Z1):D->List D
 |.tup [.int i,.int j]=>[prD (zaS ts r c g i.toNat j.toNat 1) (zaS ts r c g i.toNat (j.toNat+1) 3),prD (zaS ts r c g i.toNat j.toNat 2) (zaS ts r c g (i.toNat+1) j.toNat 0)]|_=>[]
noncomputable def isM:D->Bool|.tup [.int _,.int _]=>true|_=>false
noncomputable def isE:D->Bool|.tup [.int a,.int b]=>decide (a=b)|_=>false
def zsK:(meG ts r c g d).length<=2:=by
 unfold meG
 split<;>simp
def znr(J:r<=100)(U:c<=100):((zbt r c).flatMap (meG ts r c g)).length<=20000:=by
 refine yas (zf9 fun d _=>zsK) ?_;rw[zd5];have:r*c<=100*100:=ybn J U;omega
def zvf:zhZ .non (prD a b)=some (.bl (isM (prD a b))):=by
 cases a<;>cases b<;>rfl
def zqX(h:d∈(zbt r c).flatMap (meG ts r c g)):∃a b,d=prD a b:=by
 rw[ybW]at h;obtain⟨p,e,hd⟩:=h;obtain⟨i,j,_,_,rfl⟩:=zc6 e;simp only[plD,meG,yau,ya8,ycR]at hd
 rcases hd with rfl|rfl<;>exact⟨_,_,rfl⟩
theorem zit(ht:TOk ts)(hg:InT ts g)(h1:1<=r)(J:r<=100)(U:c<=100):zdQ [.tup (ts.map zaj),flr r c g] S=.ok (.lst (((zbt r c).flatMap (meG ts r c g)).filter isM)) S:=by
 have hlen:=znr (ts:=ts) (g:=g) J U
 obtain⟨m,e⟩:=zfB (tg:=.one 3) (body:=zdI) (S:=S) (fun L (x:Option (Bool×D))=>[some (false,.tup (ts.map zaj)),some (false,flr r c g),some (true,.lst L),x]) (meG ts r c g) 50000 (ds:=zbt r c) (by
  intro d hd L x l;obtain⟨i,j,hi,n,rfl⟩:=zc6 hd;refine⟨_,some (false,plD i j),rfl,?_⟩;have h:=zo6 (i:=i) (j:=j) (S:=S) (c:=c) ht hg h1;have e2:=zmQ (i:=i) (j:=j) (S:=S) (c:=c) ht hg h1
  have k:L.length<=100000:=by omega
  have f:L.length+1<=100000:=by simp[meG]at l;omega
  simp only[plD]at h e2
  simp[zdI,plD,h,e2,meG,prD,k,f]) [] none (by simp only[ybP];omega)
 simp at e
 have e2:zaD (.one 0) (zae zhZ (zab .non) (zaf 0)) (zaa 0) [none] ((zbt r c).flatMap (meG ts r c g)) S=.ok (((zbt r c).flatMap (meG ts r c g)).filter isM) S:=by
  rw[zcW (g:=id) (p:=isM)]
  ·simp
  ·intro d hd;obtain⟨a,b,rfl⟩:=zqX hd;exact⟨_,rfl,by simp[zvf],fun _=>by simp⟩
 have hf:(((zbt r c).flatMap (meG ts r c g)).filter isM).length<=100000:=yas (yaW _ _) (by omega);simp[zdQ,zag,ze5,zeT h1 J U,e,e2,hf]
theorem zfJ(ht:TOk ts)(hg:InT ts g)(h1:1<=r)(J:r<=100)(U:c<=100):zeV [.tup (ts.map zaj),flr r c g] S=.ok (.tup [.int (zcN alN ts r c g),.int (zcN unN ts r c g)]) S:=by
 have hlen:=znr (ts:=ts) (g:=g) J U;have m:=zit (S:=S) ht hg h1 J U;have hf:(((zbt r c).flatMap (meG ts r c g)).filter isM).length<=100000:=yas (yaW _ _) (by omega)
 have l:(((zbt r c).flatMap (meG ts r c g)).filter isM).length=zcN alN ts r c g+zcN unN ts r c g:=by
  rw[<-List.countP_eq_length_filter,zgW];unfold zcN;rw[<-zfF];refine zaY fun i _=>?_
  rw[<-zfF];refine zaY fun j _=>?_
  simp only[plD,meG,yaQ,eaM,soM]
  cases zaS ts r c g i j 1<;>cases zaS ts r c g i (j+1) 3<;>cases zaS ts r c g i j 2<;>cases zaS ts r c g (i+1) j 0<;>simp[prD,oD,isM,mt2,alN,unN,ycz]<;>(repeat' split)<;>simp_all
 have e2:zaD (.one 0) (zae eqD (zae ixD (zaf 0) (zab (.int 0))) (zae ixD (zaf 0) (zab (.int 1)))) (zaa 0) [none] (((zbt r c).flatMap (meG ts r c g)).filter isM) S=.ok ((((zbt r c).flatMap (meG ts r c g)).filter isM).filter isE) S:=by
  rw[zcW (g:=id) (p:=isE)]
  ·simp
  ·intro d hd;obtain⟨h,f⟩:=yaY.mp hd;obtain⟨a,b,rfl⟩:=zqX h
   cases a<;>cases b<;>simp[prD,oD,isM]at f
   exact⟨_,rfl,by simp[prD,oD,isE],fun _=>by simp[prD,oD]⟩
 have k:((((zbt r c).flatMap (meG ts r c g)).filter isM).filter isE).length=zcN alN ts r c g:=by
  rw[List.filter_filter,<-List.countP_eq_length_filter,zgW];unfold zcN;refine zaY fun i _=>zaY fun j _=>?_
  simp only[plD,meG,yaQ,eaM,soM]
  cases zaS ts r c g i j 1<;>cases zaS ts r c g i (j+1) 3<;>cases zaS ts r c g i j 2<;>cases zaS ts r c g (i+1) j 0<;>simp[prD,oD,isM,isE,mt2,alN,ycz]<;>(repeat' split)<;>simp_all
 have e:((((zbt r c).flatMap (meG ts r c g)).filter isM).filter isE).length<=100000:=yas (yaW _ _) hf;generalize (((zbt r c).flatMap (meG ts r c g)).filter isM)=M at*;generalize M.filter isE=A at*;rw[k]at e;simp[zeV,zag,zjL,m,e2,e,l,k];omega
@[simp] def zwY(h:f ρ S=.ok (.tup l) S):zta f ρ S=.ok l.reverse S:=by
 unfold zta;simp[h]
def zp0:(zaX r c g).reverse=zaX r c fun i=>g (r-1-i):=by
 apply ybC;intro i
 by_cases h:i<r
 ·rw[List.getElem?_reverse (by simpa using h),zp1,zc9 (by omega),zc9 h]
 ·rw[yaE (by simp;omega),yaE (by simp;omega)]
def zly(hk:k<c)(J:r<=1000):zaC [flr r c g,.int k] S=.ok (zcX r fun j=>g (r-1-j) k) S:=by
 have e:zaD (.one 0) zbv (zae ixD (zaf 0) (zaf 1)) [none,some (false,.int k)] (zaX r c fun i=>g (r-1-i)) S=.ok (zdo r fun j=>g (r-1-j) k) S:=by
  rw[zan (g:=fun d=>match d with|.tup l=>(l[k]?).getD .non|_=>.non)]
  ·simp only[zaX,zdo,yay];congr 1;apply yaC;intro i _;simp[zcX,zeq hk]
  ·intro d hd;simp only[zaX,yah,yaV]at hd;obtain⟨i,hi,rfl⟩:=hd;exact⟨_,rfl,by simp[zcX,za1,zeq hk]⟩
 have a:r<=100000:=by omega
 have b:zta (zaa 0) [some (false,flr r c g),some (false,.int k)] S=.ok (zaX r c fun i=>g (r-1-i)) S:=by rw[<-zp0];exact zwY rfl
 simp[zaC,zag,zbh,b,e,a,zcX]
def zlu(h1:1<=r)(J:r<=1000)(U:c<=1000):zbI [flr r c g] S=.ok (flr c r fun i j=>g (r-1-j) i) S:=by
 have e:zaD (.one 0) zbv (eFn zaC [(zaa 1),(zaa 0)]) [none,some (false,flr r c g)] (zao 0 c) S=.ok (zaX c r fun i j=>g (r-1-j) i) S:=by
  rw[zan (g:=fun d=>match d with|.int k=>zcX r fun j=>g (r-1-j) k.toNat|_=>.non)]
  ·simp[zaX,zao]
  ·intro d hd;obtain⟨k,rfl,hk⟩:=zm0 hd;exact⟨_,rfl,by simp[zly (show k<c by omega) J]⟩
 have a:c<=100000:=by omega
 simp[zbI,zag,zcG,zbn h1,e,a,show -1000000<=(c:Int)/\(c:Int)<=1000000 by omega];rfl
def zvX(h:¬ (j+1<c)):eaM ts r c g i j=none:=by
 unfold eaM
 have:zaS ts r c g i (j+1) 3=none:=by unfold zaS;rw[if_neg (by omega)]
 rw[this];cases zaS ts r c g i j 1<;>rfl
noncomputable abbrev Gf:=Nat->Nat->Option Int
noncomputable def ov(g h:Gf):Gf:=fun i j=>(h i j).or (g i j)
def zf8(h1:tg.put ρ d=some U)(h2:body U S=.nx J S):zfr tg body (d::ds) ρ S=zfr tg body ds J S:=by
 rw[zfr,h1];dsimp only;rw[h2]
def ze8(h1:tg.put aj d=some J)(h2:elt J S=.ok y S)(U:zaD tg zbv elt aj ds S=.ok ys S):zaD tg zbv elt aj (d::ds) S=.ok (y::ys) S:=by
 rw[zaD,h1];simp[h2,U]
theorem zl9{α:Type}{f k:α->D}:∀{xs:List α},zgp (xs.map f) (xs.map k)=xs.map fun x=>.tup [f x,k x]
 |[]=>rfl|x::xs=>by simp[zgp,zl9 (xs:=xs)]
def zlt(h1:1<=r)(J:r<=1000):za4 [flr r c g,flr r' c' h] S=if r'=r/\c'=c then .ok .non S else .exc "Unlike" S:=by
 by_cases e:r'=r/\c'=c
 ·simp[za4,zag,zbs,zfw h1 J,e]
 ·rw[if_neg e];simp[za4,zag,zbs,zfw h1 J,e]
def zg4(he:∀j,j<c->elt [some (false,f j),some (false,g j)] S=.ok (h j) S):zaD (.tup [0,1]) zbv elt [none,none] (zgp ((List.range c).map f) ((List.range c).map g)) S=.ok ((List.range c).map h) S:=by
 rw[zl9]
 have:∀{xs:List Nat},(∀x∈xs,x<c)->zaD (.tup [0,1]) zbv elt [none,none] (xs.map fun x=>.tup [f x,g x]) S=.ok (xs.map h) S:=by
  intro xs
  induction xs with
  |nil=>intro _;rfl|cons x xs b=>
   intro a;have e:=he x (a x yan);have e2:=b fun y d=>a y (yal _ d)
   rw[yaw];unfold zaD;simp[e,e2]
 exact this fun x a=>yaV.mp a
def zin(J:c<=1000):zcR [zcX c g,zcX c h] S=.ok (zcX c fun j=>(h j).or (g j)) S:=by
 have e:=zg4 (c:=c) (f:=fun j=>oD (g j)) (g:=fun j=>oD (h j)) (h:=fun j=>oD ((h j).or (g j))) (elt:=eIf (zae zji (zaf 1) (zab .non)) (zaa 0) (zaa 1)) (S:=S) (by
  intro j a
  cases hh:h j<;>simp[oD])
 simp[zcR,zag,ze2,zcX,zdo,e,show c<=100000 by omega]
def zo4(h1:1<=r)(J:r<=1000)(U:c<=1000):zkw [flr r c g,flr r c h] S=.ok (flr r c (ov g h)) S:=by
 have e:=zg4 (c:=r) (f:=fun i=>zcX c (g i)) (g:=fun i=>zcX c (h i)) (h:=fun i=>zcX c (ov g h i)) (elt:=eFn zcR [(zaa 0),(zaa 1)]) (S:=S) (by
  intro i hi
  simp[zin U];rfl)
 have u:=zlt (c:=c) (c':=c) (r':=r) (g:=g) (h:=h) (S:=S) h1 J;simp[flr,zaX]at u;simp[zkw,zag,zob,flr,zaX,u,e,show r<=100000 by omega]
def zoz{ps:List (Int×Int)}{k:Int}:(ps.any fun p=>decide (p.1=k))=decide (k∈ps.map (·.1)):=by
 rw[ydl,List.any_eq_true,yaT,yah];exact⟨fun⟨p,h,e⟩=>⟨p,h,yag e⟩,fun⟨p,h,e⟩=>⟨p,h,yaz e⟩⟩
def zcU:∀{ps:List (Int×Int)},zb1 ps k=none↔k ∉ ps.map (·.1):=by
 intro ps;unfold zb1;rw[Option.map_eq_none_iff,List.find?_eq_none,yah];exact⟨fun h ⟨p,a,b⟩=>h p a (yaz b),fun h p a b=>h ⟨p,a,yag b⟩⟩
def znF:(zl5 ps k v).map (·.1)=if k∈ps.map (·.1)then ps.map (·.1)else ps.map (·.1)++[k]:=by
 unfold zl5;rw[zoz]
 by_cases h:k∈ps.map (·.1)
 ·rw[if_pos h,yaz h,if_pos rfl,yay];apply yaC;intro p _;show(if p.1=k then(p.1,v)else p).1=p.1
  split<;>rfl
 ·rw[if_neg h,yaB h,if_neg (by decide),ycp];rfl
theorem zkM:∀{ps:List (Int×Int)},zb1 (ps.map fun p=>if p.1=k then(p.1,v)else p) x=if x=k then(zb1 ps k).map fun _=>v else zb1 ps x
 |[]=>by simp[zb1]
 |p::ps=>by
  have a:=zkM (k:=k) (v:=v) (x:=x) (ps:=ps);unfold zb1 at a ⊢;rw[yaw,ya3]
  by_cases h:p.1=k
  ·simp only[h,yb2]
   by_cases e:x=k
   ·subst e;simp[ya3,h]
   ·rw[if_neg e]at a ⊢;rw[yaB (fun z=>e z.symm),ya3,h,yaB (fun z=>e z.symm)];exact a
  ·rw[if_neg h]
   by_cases e:p.1=x
   ·have:¬ x=k:=fun z=>h (e.trans z)
    rw[yaz e,if_neg this,ya3,yaz e]
   ·rw[yaB e,ya3,ya3,yaB e,yaB h];exact a
def znt:zb1 (zl5 ps k v) x=if x=k then some v else zb1 ps x:=by
 unfold zl5;rw[zoz]
 by_cases h:k∈ps.map (·.1)
 ·rw[yaz h,if_pos rfl,zkM]
  cases e:zb1 ps k with
  |none=>exact absurd h (zcU.mp e)|some y=>rfl
 ·rw[yaB h,if_neg (by decide)];unfold zb1;rw[List.find?_append]
  by_cases e:x=k
  ·subst e;have:=zcU.mpr h;unfold zb1 at this;rw[Option.map_eq_none_iff]at this;rw[this,if_pos rfl];simp
  ·rw[if_neg e]
   cases hf:ps.find? fun p=>decide (p.1=x)with
   |none=>simp[Ne.symm e]|some y=>rfl
structure Tel(f:Int->Nat)(ps:List (Int×Int)):Prop where
 nd:(ps.map (·.1)).Nodup
 look:∀k,zb1 ps k=if f k=0 then none else some (f k:Int)
theorem Tel.nil:Tel (fun _=>0) []:=⟨.nil,fun _=>rfl⟩
def Tel.put(h:Tel f ps)(J:c≠0):Tel (fun x=>if x=k then c else f x) (zl5 ps k c):=by
 refine⟨?_,fun x=>?_⟩
 ·rw[znF];split
  ·exact h.nd
  ·rename_i hk;rw[yc3];exact⟨h.nd,ycU _ _,fun a d b hb z=>hk (by rw[yaD.mp hb]at z;rw[<-z];exact d)⟩
 ·rw[znt]
  by_cases e:x=k
  ·rw[if_pos e];simp only[if_pos e,J];rfl
  ·rw[if_neg e,h.look];simp only[if_neg e]
def Tel.get(h:Tel f ps):(zb1 ps k).getD 0=(f k:Int):=by
 rw[h.look];split
 ·rename_i e;rw[e];rfl
 ·rfl
def Tel.len(h:Tel f ps)(hf:∀k,f k≠0->0<=k/\k<4):(∀p∈ps,0<=p.1/\p.1<4)/\ps.length<=4:=by
 have a:∀p∈ps,0<=p.1/\p.1<4:=fun p b=>hf p.1 fun z=>by
  have:=h.look p.1;rw[if_pos z]at this;exact zcU.mp this (yah.mpr ⟨p,b,rfl⟩)
 refine⟨a,?_⟩
 have g:((ps.map (·.1)).map Int.toNat).Nodup:=by
  unfold List.Nodup;rw[List.pairwise_map];refine List.Pairwise.imp_of_mem (fun {x y} d c ne z=>ne ?_) h.nd;obtain⟨p,b,rfl⟩:=yah.mp d;obtain⟨q,e,rfl⟩:=yah.mp c;have:=a p b;have:=a q e;omega
 have hs:(ps.map (·.1)).map Int.toNat ⊆ List.range 4:=fun x d=>by
  obtain⟨y,c,rfl⟩:=yah.mp d;obtain⟨p,b,rfl⟩:=yah.mp c;have:=a p b;rw[yaV];omega
 have:=yb9 g hs;simpa using this
noncomputable def tlD(f:Int->Nat):List D:=([0,1,2,3].filter fun n:Nat=>!decide (f n=0)).map fun n:Nat=>.tup [.int n,.int (f n)]
def Tel.srt(h:Tel f ps)(hf:∀k,f k≠0->0<=k/\k<4):zt4 ps=some (tlD f):=by
 obtain⟨h1,h2⟩:=h.len hf;unfold zt4
 rw[if_pos (by
  rw[yab,yab,yaT,yaT,ybj]
  exact⟨⟨fun p a=>yaz (by have:=h1 p a;omega),h.nd⟩,by omega⟩)]
 have hk:∀n:Nat,decide ((n:Int)∈ps.map (·.1))=!decide (f n=0):=fun n=>by
  have:=h.look n
  by_cases e:f n=0
  ·rw[if_pos e]at this;rw[yaB (zcU.mp this),yaz e];rfl
  ·rw[if_neg e]at this;rw[yaB e];refine yaz (Classical.byContradiction fun z=>?_);rw[zcU.mpr z]at this;cases this
 have b:f (4:Nat)=0:=Classical.byContradiction fun z=>by have:=hf _ z;omega
 unfold tlD;rw[show ST.zfs=[0,1,2,3]++[4]from rfl,List.filter_append]
 have c:[4].filter (fun n:Nat=>decide ((n:Int)∈ps.map (·.1)))=[]:=by
  rw[ybI,hk 4,b];rfl
 rw[c,yaO];congr 1;rw[List.filter_congr (fun n _=>hk n)];apply yaC;intro n _;unfold prI;rw[h.get]
def ztC:zmh ns=tlD (zgx ns):=by
 unfold zmh tlD SI.zau
 have hh:∀k:Int,SI.ziS ns k=!decide (zgx ns k=0):=fun k=>by
  unfold SI.ziS zgx;rw[ydl];simp[List.countP_eq_zero]
 have g:=hh 0;have f:=hh 1;have e2:=hh 2;have e:=hh 3;rw[g,f,e2,e];have d:zgx ns ((0:Nat):Int)=zgx ns 0:=rfl;have c:zgx ns ((1:Nat):Int)=zgx ns 1:=rfl;have b:zgx ns ((2:Nat):Int)=zgx ns 2:=rfl;have a:zgx ns ((3:Nat):Int)=zgx ns 3:=rfl;simp only[ybI,List.filter_nil,d,c,b,a]
 by_cases a0:zgx ns 0=0<;>by_cases a1:zgx ns 1=0<;>by_cases a2:zgx ns 2=0<;>by_cases a3:zgx ns 3=0<;>simp[a0,a1,a2,a3,SI.sel]
end S2
namespace S2.L98
open PySem
open L2 hiding D
noncomputable def zhV:Fs:=
  (zac (sFz [7] (zmI 6 (zaa 7) (zae zb6 (zoe 6 (zaa 7) (zab (.int 0))) (zaf 8)))) sNx)
noncomputable def zj7:Fs:=zac (sFz [] (zaK (zgV (zae eqD (zbH "Album" "back" zcu (zaa 13) []) (zab (.str "join"))) (zgV (zae eqD (zbH "Album" "names" zbr (zaa 13) []) (zk0 [(zab (.str "one")),(zab (.str "other"))])) (zae eqD (zbH "Album" "take" zct (zaa 13) [(zab (.str "one"))]) (zaf 3)))))) sNx
noncomputable def zj8:Fs:=zac (sFz [13] (sIf (eOr (zae neD (zbH "Album" "join" zbP (zaa 13) [(zab (.str "both")),(zab (.str "one")),(zab (.str "other")),(zab (.bl true))]) (zaf 5)) (zae neD (zbH "Album" "floor_of" zar (eFn zco [(eFn zcr [(zaa 13)])]) [(zab (.str "both"))]) (zaf 5))) (zac (sFz [] (zaK (zab (.bl false)))) sNx) sNx)) zj7
noncomputable def zj9:Fs:=zac (sFz [4] (zkn (zbH "Album" "put" zbE (zaa 13) [(zab (.str "other")),(zaa 4)]))) zj8
noncomputable def zka:Fs:=zac (sFz [3] (zkn (zbH "Album" "put" zbE (zaa 13) [(zab (.str "one")),(zaa 3)]))) zj9
noncomputable def zg6:Fs:=zac (sFz [1] (zbM 13 false (eMk "Album" [] zaF [(zaa 1)]))) zka
noncomputable def zg7:Fs:=zac (sFz [2,3,3,3,3,3] (sIf (eOr (zae zhZ (zgw [(zab (.int 0)),(zaa 2)]) (eFn zcg [(eFn zdu [(zaa 3),(zaa 3)])])) (zae ltD (zal zd1 [(eFn zce [(eFn zdu [(zaa 3),(zaa 3)]),(zaa 3)])]) (zab (.int 2)))) (zac (sFz [] (zaK (zab (.bl false)))) sNx) sNx)) zg6
noncomputable def zg8:Fs:=zac (sFz [3,3,3,5,5] (sIf (eOr (zae neD (eFn zcf [(eFn zkw [(zaa 3),(zaa 3)])]) (eFn zcf [(zaa 3)])) (zae neD (eFn zcf [(eFn zbI [(zaa 5)])]) (eFn zcf [(zaa 5)]))) (zac (sFz [] (zaK (zab (.bl false)))) sNx) sNx)) zg7
noncomputable def zg9:Fs:=zac (sFz [] (sIf (eOr (zae ltD (zaf 9) (zae zb6 (zae ixD (zaf 11) (zab (.int 0))) (zae ixD (zaf 12) (zab (.int 0))))) (eOr (zae ltD (zaf 10) (zae zb6 (zae ixD (zaf 11) (zab (.int 1))) (zae ixD (zaf 12) (zab (.int 1))))) (zae gtD (zae zb6 (zaf 9) (zaf 10)) (zae zb6 (zae zb6 (zal zto [(zaf 11)]) (zal zto [(zaf 12)])) (zaf 2))))) (zac (sFz [] (zaK (zab (.bl false)))) sNx) sNx)) zg8
noncomputable def zkb:Fs:=zac (sFz [1,3,1,4] (ztp 11 12 false (eFn zeV [(zaa 1),(zaa 3)]) false (eFn zeV [(zaa 1),(zaa 4)]))) zg9
noncomputable def zjl:Fs:=zac (sFz [1,5] (zlp (.tup [9,10]) (eFn zeV [(zaa 1),(zaa 5)]))) zkb
noncomputable def zjm:Fs:=zac (sFz [3,5,4,5,2] (sIf (eOr (zae zhZ (zgw [(zab (.int 0)),(zae ixD (eFn zaN [(zaa 3)]) (zab (.int 1)))]) (eFn zce [(zaa 5),(zaa 4)])) (zae eqD (eFn zce [(zaa 5),(eFn zho [(zaa 2),(zab (.int 1))])]) (zk0 []))) (zac (sFz [] (zaK (zab (.bl false)))) sNx) sNx)) zjl
noncomputable def zjn:Fs:=zac (sFz [5,5,3] (sIf (eOr (zae neD (eFn zcf [(zaa 5)]) (zvY 6)) (zae zhZ (zgw [(zab (.int 0)),(zab (.int 0))]) (eFn zce [(zaa 5),(zaa 3)]))) (zac (sFz [] (zaK (zab (.bl false)))) sNx) sNx)) zjm
noncomputable def zmi:Fs:=zac (sFz [4] (zjq (.tup [7,8]) (zap (eFn zcf [(zaa 4)])) zhV)) zjn
noncomputable def zjo:Fs:=zac (sFz [3,4,3] (ztp 5 6 false (eFn zc5 [(zaa 3),(zaa 4)]) true (eUn zvZ (eFn zcf [(zaa 3)])))) zmi
noncomputable def zmj:Fs:=zac (sFz [0,1,2,0] (zbM 4 false (eFn zbO [(zaa 0),(zab (.int 400)),(zaa 1),(zaa 2),(zae zb6 (zab (.int 1)) (eFn zay [(zaa 0),(zab (.int 3)),(zab (.int 2))])),(zab (.int 2))]))) zjo
noncomputable def zmk:Fs:=zac (sFz [0,1,2,0] (zbM 3 false (eFn zbO [(zaa 0),(zab (.int 300)),(zaa 1),(zaa 2),(zae zb6 (zab (.int 1)) (eFn zay [(zaa 0),(zab (.int 2)),(zab (.int 2))])),(zab (.int 2))]))) zmj
noncomputable def zml:Fs:=zac (sFz [0] (zbM 2 false (zae zb6 (zab (.int 1)) (eFn zay [(zaa 0),(zab (.int 1)),(zab (.int 3))])))) zmk
noncomputable def zmm:Fs:=zac (sFz [0] (zbM 1 false (eFn zcs [(zaa 0),(zab (.int 200)),(zab (.int 4))]))) zml
noncomputable def zs4:Fs:=
  zmm
noncomputable def zuy:List S2.D->Sto->Out S2.D:=zaT 14 false zs4
end S2.L98
namespace S2
open PySem
open L2 hiding D
def Tel.of(h:Tel f ps)(e:∀x,f x=g x):Tel g ps:=(funext e:f=g) ▸ h
noncomputable def prN(f:Int->Nat)(n:Nat):Int×Int:=((n:Int),(f n:Int))
theorem zm5:∀L:List Nat,zm6 (L.map fun n:Nat=>D.tup [.int n,.int (f n)])=some (L.map (prN f))
 |[]=>rfl|n::L=>by
  rw[yaw,yaw];show(zm6 _).map _=_;rw[zm5 L];rfl
theorem zj6:∀(L:List Nat) {g:Int->Nat}{acc:List (Int×Int)},Tel g acc->L.Nodup->(∀n∈L,f n≠0)->Tel (fun x=>if x∈L.map (Int.ofNat ·)then f x else g x) ((L.map (prN f)).foldl (fun acc p=>zl5 acc p.1 p.2) acc)
 |[],g,acc,h,_,_=>h.of fun x=>by simp
 |n::L,g,acc,h,nd,c=>by
  rw[ybp]at nd;rw[yaw (f:=prN f),ycN];refine(zj6 L (h.put (k:=(n:Int)) (c n (.head _))) nd.2 fun m hm=>c m (.tail _ hm)).of fun x=>?_
  rw[yaw]
  by_cases a:x∈L.map (Int.ofNat ·)
  ·rw[if_pos a,if_pos (yal _ a)]
  ·rw[if_neg a]
   by_cases b:x=(n:Int)
   ·rw[if_pos b,if_pos (by rw[b];exact yan),b]
   ·rw[if_neg b];exact(if_neg fun z=>(yau.mp z).elim b a).symm
noncomputable def lvN(f:Int->Nat):List Nat:=[0,1,2,3].filter fun n:Nat=>!decide (f n=0)
def zvl:(lvN f).Nodup:=List.Pairwise.filter _ (by decide)
def zsL:∀n∈lvN f,f n≠0:=fun n h=>by
 have:=(yaY.mp h).2;simpa using this
def zkL(hf:∀k,f k≠0->0<=k/\k<4):x∈(lvN f).map (Int.ofNat ·)↔f x≠0:=by
 constructor
 ·intro h;obtain⟨n,b,rfl⟩:=yah.mp h;exact zsL n b
 ·intro h;have a:=hf x h;refine yah.mpr ⟨x.toNat,yaY.mpr ⟨?_,?_⟩,ybS a.1⟩
  ·have:x.toNat<4:=by omega
   generalize x.toNat=m at*
   have:m=0\/m=1\/m=2\/m=3:=by omega
   rcases this with rfl|rfl|rfl|rfl<;>decide
  ·rw[ybS a.1,yaB h];rfl
def zp9(hf:∀k,f k≠0->0<=k/\k<4):∃ps,zvZ (.lst (tlD f))=some (.dic (dsI ps))/\Tel f ps:=by
 refine⟨psL ((lvN f).map (prN f)),?_,(zj6 (lvN f) Tel.nil zvl zsL).of fun x=>?_⟩
 ·show(zm6 (tlD f)).map _=_;unfold tlD;rw[show([0,1,2,3].filter fun n:Nat=>!decide (f n=0))=lvN f from rfl,zm5];rfl
 ·by_cases e:f x=0
  ·rw[if_neg (fun z=>(zkL hf).mp z e),e]
  ·rw[if_pos ((zkL hf).mpr e)]
theorem zhq:∀ps:List (Int×Int),zoH (dsI ps)=some ps
 |[]=>rfl|p::ps=>by
  show(zoH (dsI ps)).map _=_;rw[zhq ps];rfl
theorem ziT{α:Type}(a4:α->D){I:List α->Env->Prop}(L:List α)(step:∀q a r ρ,q++a::r=L->I q ρ->∃a3 J,tg.put ρ (a4 a)=some a3/\body a3 S=.nx J S/\I (q++[a]) J):∀(xs pre:List α) (ρ:Env),pre++xs=L->I pre ρ->∃U,zfr tg body (xs.map a4) ρ S=.nx U S/\I L U
 |[],pre,ρ,b,h=>⟨ρ,by simp[zfr],by rw[<-b,yaO];exact h⟩
 |a::xs,pre,ρ,b,h=>by
  obtain⟨a3,J,e,e2,h2⟩:=step pre a xs ρ b h;obtain⟨U,d,c⟩:=ziT a4 L step xs (pre++[a]) J (by rw[ybB];exact b) h2;refine⟨U,?_,c⟩;rw[yaw];unfold zfr;rw[e];dsimp only;rw[e2];exact d
def zpY{α:Type}(J:α->D){I:List α->Env->Prop}(L:List α)(h0:I [] ρ)(step:∀q a r ρ,q++a::r=L->I q ρ->∃a3 U,tg.put ρ (J a)=some a3/\body a3 S=.nx U S/\I (q++[a]) U):∃a4,zfr tg body (L.map J) ρ S=.nx a4 S/\I L a4:=ziT J L step L [] ρ rfl h0
def zpJ(hf:∀k,f k≠0->0<=k/\k<4)(hg:∀k,g k≠0->0<=k/\k<4)(h:Tel g ps):
  ∃qs U J,Tel (fun x=>g x+f x) qs/\zfr (.tup [7,8]) L98.zhV (tlD f) [a0,a1,a2,a3,a4,a5,some (true,.dic (dsI ps)),none,none,none,none,none,none,none] S=.nx [a0,a1,a2,a3,a4,a5,some (true,.dic (dsI qs)),U,J,none,none,none,none,none] S:=by
 obtain⟨d,e,qs,U,J,rfl,t⟩:=zpY (tg:=.tup [7,8]) (body:=L98.zhV) (S:=S) (fun n:Nat=>D.tup [.int n,.int (f n)])
  (I:=fun q ρ=>∃qs U J,ρ=[a0,a1,a2,a3,a4,a5,some (true,.dic (dsI qs)),U,J,none,none,none,none,none]/\Tel (fun x=>g x+if x∈q.map (Int.ofNat ·)then f x else 0) qs)
  (lvN f) (ρ:=[a0,a1,a2,a3,a4,a5,some (true,.dic (dsI ps)),none,none,none,none,none,none,none]) ⟨ps,none,none,rfl,h.of fun x=>by simp⟩ (by
  rintro q n r ρ b ⟨qs,U,J,rfl,t⟩
  have i:n∈lvN f:=by rw[<-b];simp
  have a:(n:Int) ∉ q.map (Int.ofNat ·):=fun z=>by
   obtain⟨m,hm,e⟩:=yah.mp z;have e:m=n:=Int.ofNat.inj e;have nd:=zvl (f:=f);rw[<-b,yc3]at nd;exact nd.2.2 m hm n (by simp) e
  have hb:∀k,(g k+if k∈q.map (Int.ofNat ·)then f k else 0)≠0->0<=k/\k<4:=fun k hk=>by
   by_cases z:g k=0
   ·refine hf k fun y=>hk ?_
    rw[z,y];split<;>rfl
   ·exact hg k z
  have j:qs.length<=100000:=by have:=(t.len hb).2;omega
  have k2:=t.get (k:=(n:Int));rw[if_neg a,Nat.add_zero]at k2;have tt:=t.put (k:=(n:Int)) (c:=g n+f n) (by have:=zsL n i;omega);refine⟨_,_,rfl,?_,zl5 qs n ((g n+f n:Nat):Int),some (false,.int n),some (false,.int (f n)),rfl,tt.of fun x=>?_⟩
  ·simp[L98.zhV,zmI,zoe,zgr,zhq,k2,j]
  ·rw[ycp]
   by_cases e:x=(n:Int)
   ·rw[if_pos e,if_pos (by rw[e];exact yaK _ (.head _)),e]
   ·rw[if_neg e];congr 1
    by_cases z:x∈q.map (Int.ofNat ·)
    ·rw[if_pos z,if_pos (ydf _ z)]
    ·rw[if_neg z,if_neg (fun y=>(ybb.mp y).elim z fun y=>e (by simpa using y))])
 refine⟨qs,U,J,t.of fun x=>?_,e⟩;congr 1
 by_cases z:f x=0
 ·rw[if_neg (fun y=>(zkL hf).mp y z),z]
 ·rw[if_pos ((zkL hf).mpr z)]
theorem zmw:∀{m:Nat},sm (n+m) f=sm n f+sm m fun i=>f (n+i)
 |0=>by rw[zhd];rfl
 |m+1=>by rw[<-Nat.add_assoc,zaW,zaW,zmw (m:=m),Nat.add_assoc]
theorem zkg:∀{n:Nat},(List.range n).countP p=sm n fun j=>if p j then 1 else 0
 |0=>rfl|n+1=>by rw[ybE,List.countP_append,zaW,zkg (n:=n)];simp[ycz]
noncomputable def zyd(k:Int)(o:Option Int):Nat:=if o=some k then 1 else 0
def zd3(r c:Nat)(g:Gf)(k:Int):Nat:=sm r fun i=>sm c fun j=>zyd k (g i j)
def zk4:zgx (zet r c g) k=zd3 r c g k:=by
 unfold zgx zet zd3 sm;rw[ydr];congr 1;apply yaC;intro i _;show List.countP _ ((List.range c).filterMap fun j=>g i j)=_;rw[List.countP_filterMap,zkg];show sm c _=sm c _;apply zaY;intro j _;unfold zyd
 cases g i j with
 |none=>simp|some x=>simp
noncomputable def jnG(c:Nat)(g h:Gf):Gf:=fun i j=>if j<c then g i j else h i (j-c)
def zv8:zd3 r (c+c') (jnG c g h) k=zd3 r c g k+zd3 r c' h k:=by
 unfold zd3;rw[<-zfF];apply zaY;intro i _;rw[zmw];congr 1
 ·apply zaY;intro j a;unfold jnG;rw[if_pos a]
 ·apply zaY;intro j _;unfold jnG;rw[if_neg (by omega),ybf]
def zlV:zd3 c r (fun i j=>g (r-1-j) i) k=zd3 r c g k:=by
 unfold zd3;rw[zrL];exact zt6 (f:=fun i=>sm c fun j=>zyd k (g i j))
def zst:ov g g=g:=by
 funext i j;unfold ov
 cases g i j<;>rfl
def zus:zdo c (g i)++zdo c' (h i)=zdo (c+c') (jnG c g h i):=by
 unfold zdo;rw[List.range_add,ycp,yay];congr 1
 ·apply yaC;intro j a;unfold jnG;rw[if_pos (yaV.mp a)]
 ·apply yaC;intro j a;show _=oD (jnG c g h i (c+j));unfold jnG;rw[if_neg (by omega),ybf]
noncomputable def bl(r:Nat)(g h:Gf):Gf:=fun i j=>if i<r then g i j else h (i-r) j
def zvS:(zaX r c g)++(zaX r' c h)=zaX (r+r') c (bl r g h):=by
 unfold zaX;rw[List.range_add,ycp,yay];congr 1
 ·apply yaC;intro i hi
  have:bl r g h i=g i:=by funext j;unfold bl;rw[if_pos (yaV.mp hi)]
  rw[this]
 ·apply yaC;intro i hi
  have:bl r g h (r+i)=h i:=by funext j;unfold bl;rw[if_neg (by omega),ybf]
  show _=zcX c (bl r g h (r+i));rw[this]
def zh1(hi:i<r)(J:j<c)(h1:i+pr<=r)(h2:j+pc<=c)(e:∀a b,a<pr->b<pc->g (i+a) (j+b)=h a b\/h a b=none):plD i j∈(zbt r c).filter (zld r c pr pc g h):=by
 rw[yaY];refine⟨zqL hi J,?_⟩;show ztm r c pr pc g h i j=true;unfold ztm zn8;rw[yaz ⟨h1,h2⟩,Bool.true_and];exact yaz fun a d b hb=>(e a b d hb).symm
section
variable{ts:Z2}{r c c' i j s:Nat}{g h:Gf}
def zdf(J:j<c):zaS ts r (c+c') (jnG c g h) i j s=zaS ts r c g i j s:=by
 unfold zaS jnG;rw[if_pos J]
 by_cases a:i<r
 ·rw[if_pos ⟨a,by omega⟩,if_pos ⟨a,J⟩]
 ·rw[if_neg (fun z=>a z.1),if_neg (fun z=>a z.1)]
def zeF:zaS ts r (c+c') (jnG c g h) i (c+j) s=zaS ts r c' h i j s:=by
 have e:jnG c g h i (c+j)=h i j:=by unfold jnG;rw[if_neg (by omega),ybf]
 unfold zaS;rw[e]
 by_cases a:i<r/\j<c'
 ·rw[if_pos ⟨a.1,by omega⟩,if_pos a]
 ·rw[if_neg (fun z=>a ⟨z.1,by omega⟩),if_neg a]
def zrd(h0:φ none=0):zcN φ ts r (c+1+c') (jnG (c+1) g h)=zcN φ ts r (c+1) g+zcN φ ts r c' h+sm r fun i=>φ (mt2 (zaS ts r (c+1) g i c 1) (zaS ts r c' h i 0 3)):=by
 unfold zcN;rw[<-zfF,<-zfF];apply zaY;intro i _;rw[zmw,zaW,zaW (n:=c)]
 have f:(sm c fun j=>φ (eaM ts r (c+1+c') (jnG (c+1) g h) i j)+φ (soM ts r (c+1+c') (jnG (c+1) g h) i j))=sm c fun j=>φ (eaM ts r (c+1) g i j)+φ (soM ts r (c+1) g i j):=zaY fun j a=>by
  unfold eaM soM;rw[zdf (by omega),zdf (by omega),zdf (by omega),zdf (by omega)]
 have e2:(sm c' fun j=>φ (eaM ts r (c+1+c') (jnG (c+1) g h) i (c+1+j))+φ (soM ts r (c+1+c') (jnG (c+1) g h) i (c+1+j)))=sm c' fun j=>φ (eaM ts r c' h i j)+φ (soM ts r c' h i j):=zaY fun j a=>by
  unfold eaM soM;rw[Nat.add_assoc (c+1) j 1,zeF,zeF,zeF,zeF]
 have e:soM ts r (c+1+c') (jnG (c+1) g h) i c=soM ts r (c+1) g i c:=by
  unfold soM;rw[zdf (by omega),zdf (by omega)]
 have d:eaM ts r (c+1+c') (jnG (c+1) g h) i c=mt2 (zaS ts r (c+1) g i c 1) (zaS ts r c' h i 0 3):=by
  unfold eaM;rw[zdf (by omega)];congr 1;exact zeF (j:=0)
 have b:φ (eaM ts r (c+1) g i c)=0:=by rw[zvX (by omega),h0]
 rw[f,e2,e,d,b];omega
def zxr(hf:∀i,f i<=1):sm n f<=n:=by
 induction n with
 |zero=>exact yaj _|succ n a=>rw[zaW];have:=hf n;omega
def zo0:zcN alN ts r (c+1) g+zcN alN ts r c' h<=zcN alN ts r (c+1+c') (jnG (c+1) g h)/\zcN unN ts r (c+1) g+zcN unN ts r c' h<=zcN unN ts r (c+1+c') (jnG (c+1) g h) ∧
  zcN alN ts r (c+1+c') (jnG (c+1) g h)+zcN unN ts r (c+1+c') (jnG (c+1) g h)<=(zcN alN ts r (c+1) g+zcN unN ts r (c+1) g)+(zcN alN ts r c' h+zcN unN ts r c' h)+r:=by
 rw[zrd (φ:=alN) rfl,zrd (φ:=unN) rfl];refine⟨by omega,by omega,?_⟩
 have:(sm r fun i=>alN (mt2 (zaS ts r (c+1) g i c 1) (zaS ts r c' h i 0 3))+unN (mt2 (zaS ts r (c+1) g i c 1) (zaS ts r c' h i 0 3)))<=r:=zxr fun i=>by
  generalize mt2 _ _=o
  cases o with
  |none=>decide|some b=>cases b<;>decide
 rw[zfF]at this;omega
end
def zhw(h:d.pl=true)(J:D.pls l=true)(f:d.fit 8=true)(fl:D.fits 8 l=true)(m:d∈l):zhZ d (.lst l)=some (.bl false):=by
 unfold zhZ;simp only[f,fl,Bool.and_self,yb2];rw[(znp h J).mpr m];rfl
def zs7(J:D.pls l=true)(fl:D.fits 8 l=true)(n:l≠[]):eqD (.lst l) (.lst [])=some (.bl false):=by
 have f1:(D.lst l).fit 9=true:=fl;unfold eqD;rw[f1,show(D.lst []).fit 9=true from rfl]
 have:zgJ (.lst l) (.lst [])=false:=by
  rw[Bool.eq_false_iff];intro z;have:=(zgT (.lst l) (.lst []) J rfl).mp z;cases this;exact n rfl
 rw[this];rfl
def ztB{l:List D}{a b:D}(J:a∈l)(hb:b∈l)(n:a≠b):2<=l.length:=by
 have:[a,b].Nodup:=by simp[n]
 exact yb9 this (fun x c=>by
  rcases yau.mp c with rfl|c
  ·exact J
  ·rw[yaD.mp c];exact hb)
def zsM{rows:List D}{i j:Nat}(hi:i<j)(J:j<rows.length)(e:zgJ (rows.getD i .non) (rows.getD j .non)=true):D.tup [.int i,.int j]∈zew rows:=by
 unfold zew;refine ybW.mpr ⟨.int i,?_,?_⟩
 ·unfold zao;refine yah.mpr ⟨i,yaV.mpr (by omega),by simp⟩
 ·show _∈((zao ((i:Int)+1) rows.length).filter (znx rows (i:Int).toNat)).map _;refine yah.mpr ⟨.int j,yaY.mpr ⟨?_,?_⟩,rfl⟩
  ·unfold zao;refine yah.mpr ⟨j-(i+1),yaV.mpr (by omega),?_⟩;congr 1;omega
  ·show zgJ (rows.getD (i:Int).toNat .non) (rows.getD (j:Int).toNat .non)=true;rw[yaQ,yaQ];exact e
def zkO:D.pls (zew rows)=true/\∀n,D.fits (n+1) (zew rows)=true:=by
 have:∀d∈zew rows,∃i j:Int,d=.tup [.int i,.int j]:=fun d hd=>by
  obtain⟨x,b,hd⟩:=ybW.mp hd;obtain⟨i,rfl,_,_⟩:=zcP b;obtain⟨y,a,rfl⟩:=yah.mp hd;obtain⟨j,rfl,_,_⟩:=zcP (yaY.mp a).1;exact⟨i,j,rfl⟩
 refine⟨?_,fun n=>?_⟩
 ·rw[D.pls_iff];intro d hd;obtain⟨i,j,rfl⟩:=this d hd;rfl
 ·rw[D.fits_iff];intro d hd;obtain⟨i,j,rfl⟩:=this d hd;simp
def zsN(h1:1<=r):D.tup [.int 0,.int r]∈zew (zaX (r+r) c (bl r g g)):=by
 have b:(zaX (r+r) c (bl r g g)).length=r+r:=by unfold zaX;simp
 have:=zsM (rows:=zaX (r+r) c (bl r g g)) (i:=0) (j:=r) h1 (by rw[b];omega) (by
  have f:(zaX (r+r) c (bl r g g)).getD 0 .non=zcX c (g 0):=by
   have:bl r g g 0=g 0:=by funext j;unfold bl;rw[if_pos (by omega)]
   unfold zaX;rw[yar,yax,ycA (by omega)];show zcX c (bl r g g 0)=_;rw[this]
  have e:(zaX (r+r) c (bl r g g)).getD r .non=zcX c (g 0):=by
   have:bl r g g r=g 0:=by funext j;unfold bl;rw[if_neg (by omega),ycI]
   unfold zaX;rw[yar,yax,ycA (by omega)];show zcX c (bl r g g r)=_;rw[this]
  rw[f,e]
  have a:(zcX c (g 0)).pl=true:=by
   show D.pls (zdo c (g 0))=true;rw[D.pls_iff];intro d hd;obtain⟨j,_,rfl⟩:=yah.mp hd
   cases g 0 j<;>rfl
  exact(zgT _ _ a a).mpr rfl)
 exact this
def zz7(cn f:Str):Out D->Out D|.ok d S=>(match zq5 cn f d S with|some r=>.ok r S|none=>.bad)|.exc c S=>.exc c S|.bad=>.bad
noncomputable def zkQ(G:List D->Sto->Out D)(d:D):Out (List D)->Out D|.ok ds S=>G (d::ds) S|.exc c S=>.exc c S|.bad=>.bad
def zvB(c m:Str)(G:List D->Sto->Out D)(fs:List Fe)(ρ:Env):Out D->Out D|.ok d S=>if zaJ c m d S then zkQ G d (zah fs ρ S)else .bad|.exc c S=>.exc c S|.bad=>.bad
noncomputable def zwP(n:Nat):Out D->Out D|.ok .non S=>.ok (.ref n) S|.ok _ _=>.bad|.exc c S=>.exc c S|.bad=>.bad
noncomputable def kMk(c:Str)(ah:List D)(G:List D->Sto->Out D):Out (List D)->Out D|.ok ds S=>zwP S.length (G (.ref S.length::(ds++ah)) (S++[⟨c,[]⟩]))|.exc c S=>.exc c S|.bad=>.bad
section
variable{ρ:Env}{S:Sto}{f:Fe}{n i:Nat}
@[simp] def zy9:zof c x f ρ S=zz7 c x (f ρ S):=by unfold zof;cases f ρ S<;>rfl
@[simp] def zBQ:zz7 c x (.ok d S)=(match zq5 c x d S with|some r=>.ok r S|none=>.bad):=(rfl)
@[simp] def zw4:zbH c m G f fs ρ S=zvB c m G fs ρ (f ρ S):=by
 unfold zbH
 cases f ρ S with
 |ok d S1=>
  show(if zaJ c m d S1 then(zah fs ρ S1).bind fun ds S2=>G (d::ds) S2 else .bad)=(if zaJ c m d S1 then zkQ G d (zah fs ρ S1)else .bad)
  cases zah fs ρ S1<;>rfl
 |exc c S=>rfl|bad=>rfl
@[simp] def zzH:zvB c m G fs ρ (.ok d S)=if zaJ c m d S then zkQ G d (zah fs ρ S)else .bad:=(rfl)
@[simp] def zx2:zkQ G d (.ok ds S)=G (d::ds) S:=(rfl)
@[simp] def zAP:eMk c ah G fs ρ S=kMk c ah G (zah fs ρ S):=by
 unfold eMk
 cases zah fs ρ S with
 |ok ds S1=>
  show((G (.ref S1.length::(ds++ah)) (S1++[⟨c,[]⟩])).bind fun r S2=>match r with|.non=>.ok (.ref S1.length) S2|_=>.bad)=zwP S1.length (G (.ref S1.length::(ds++ah)) (S1++[⟨c,[]⟩]))
  cases G (.ref S1.length::(ds++ah)) (S1++[⟨c,[]⟩])with
  |ok r S2=>cases r<;>rfl|exc c S=>rfl|bad=>rfl
 |exc c S=>rfl|bad=>rfl
@[simp] def zCz:kMk c ah G (.ok ds S)=zwP S.length (G (.ref S.length::(ds++ah)) (S++[⟨c,[]⟩])):=(rfl)
@[simp] def zBG:zwP n (.ok .non S)=.ok (.ref n) S:=(rfl)
noncomputable def alb(ts:D)(ds:List (D×D))(dn un:List D):Ob:=⟨"Album",[("tiles",false,ts),("named",true,.tup [.dic ds]),("done",true,.tup [.lst dn]),("undone",true,.tup [.lst un])]⟩
variable{ts:D}{ds ds':List (D×D)}{dn un dn' un':List D}
def zqr:(alb ts ds dn un).put "done" true (.tup [.lst dn'])=alb ts ds dn' un:=rfl
def zlZ:(alb ts ds dn un).put "undone" true (.tup [.lst un'])=alb ts ds dn un':=rfl
def zdK:zff (alb ts ds dn un)=true:=by
 show decide (["tiles","named","done","undone"]:List Str).Nodup=true;decide
def zeJ(h:S[n]?=some (alb ts ds dn un)):zq5 "Album" "tiles" (.ref n) S=some ts:=by unfold zq5;dsimp only;rw[h];rfl
def zdk(hi:ρ[i]?=some (some (false,.ref n)))(h:S[n]?=some (alb ts ds dn un))(ho:zaB ds=true):zlS "Album" "named" ρ S i=some (n,alb ts ds dn un,ds):=by
 unfold zlS zkD;rw[hi];dsimp only[ztq];rw[h];show(if zaB ds then some (n,alb ts ds dn un,ds)else none)=_;rw[if_pos ho]
def zjW(hi:ρ[i]?=some (some (false,.ref n)))(h:S[n]?=some (alb ts ds dn un)):zkD "Album" "done" ρ S i=some (n,alb ts ds dn un,.lst dn):=by
 unfold zkD;rw[hi];dsimp only[ztq];rw[h];rfl
def zox(hi:ρ[i]?=some (some (false,.ref n)))(h:S[n]?=some (alb ts ds dn un)):zkD "Album" "undone" ρ S i=some (n,alb ts ds dn un,.lst un):=by
 unfold zkD;rw[hi];dsimp only[ztq];rw[h];rfl
def za5(h:S[n]?=some (alb ts ds dn un))(hm:(m==("tiles":Str))=false/\(m==("named":Str))=false/\(m==("done":Str))=false/\(m==("undone":Str))=false):zaJ "Album" m (.ref n) S=true:=by
 unfold zaJ;dsimp only;rw[h];show(true&&(List.lookup m _).isNone)=true;simp[alb,List.lookup,hm]
def zij(h:S[n]?=some ob):(S.set n J)[n]?=some J:=by
 rw[yaN (yaq.mp h).1]
def zB2(hi:ρ[i]?=some (some (false,.ref n)))(h:S[n]?=some (alb ts ds dn un))(ho:zaB ds=true)(J:ρ[j]?=some (some (false,.str k))):eQ (zpa "Album" "named" i (zbF j)) ρ S=.ok (.bl (zav k ds).isSome) S:=by
 unfold eQ zpa;rw[zdk hi h ho,show zbF j ρ S=some (.str k)by unfold zbF;rw[J]]
def zxW(hi:ρ[i]?=some (some (false,.ref n)))(h:S[n]?=some (alb ts ds dn un))(ho:zaB ds=true)(J:ρ[j]?=some (some (false,.str k))):eQ (zhp "Album" "named" i (zbF j)) ρ S=.ok (.bl (!(zav k ds).isSome)) S:=by
 unfold eQ zhp;rw[zdk hi h ho,show zbF j ρ S=some (.str k)by unfold zbF;rw[J]]
def zBZ(hi:ρ[i]?=some (some (false,.ref n)))(h:S[n]?=some (alb ts ds dn un))(ho:zaB ds=true)(J:ρ[j]?=some (some (false,.str k)))(hd:zav k ds=some d):eQ (zsa "Album" "named" i (zbF j)) ρ S=.ok d S:=by
 unfold eQ zsa;rw[zdk hi h ho,show zbF j ρ S=some (.str k)by unfold zbF;rw[J]];dsimp only;rw[hd]
noncomputable def nmd(k:Str)(d:D)(ds:List (D×D)):List (D×D):=match d with|.non=>dropS k ds|d=>putS k d ds
def zoZ(h:S[n]?=some ob):S.set n ob=S:=by
 apply ybC;intro m
 by_cases e:n=m
 ·subst e;rw[zij h,h]
 ·rw[ya4 e]
theorem zi0:∀{ds:List (D×D)},zaB ds=true->zav k ds=none->dropS k ds=ds
 |[],_,_=>rfl|(.str x,d)::r,a,h=>by
  unfold zaB at a;rw[yab]at a;unfold zav at h;split at h
  ·cases h
  ·rename_i b;unfold dropS;rw[if_neg b,zi0 a.2 h]
def zkp(h:S[n]?=some (alb ts ds dn un))(ho:zaB ds=true)(J:ds.length<=100000):zaw [.ref n,.str k,d] S=.ok .non (S.set n (alb ts (nmd k d ds) dn un)):=by
 by_cases b:zdp d=true
 ·have e:d=.non:=zf3 b;subst e
  have f:∀ρ:Env,ρ[0]?=some (some (false,.ref n))->ρ[1]?=some (some (false,.str k))->zln "Album" "named" 0 (zbF 1) ρ S=.nx ρ (S.set n (alb ts (dropS k ds) dn un)):=by
   intro ρ h0 h1;unfold zln;rw[show zbF 1 ρ S=some (.str k)by unfold zbF;rw[h1],zdk h0 h ho];dsimp only;rw[if_pos zdK]
   cases J:zav k ds with
   |some d=>rfl|none=>
    dsimp only[Option.isSome];have:dropS k ds=ds:=zi0 ho J;rw[this,if_neg (by decide)];congr 1;exact(zoZ h).symm
  have c:zji .non .non=some (.bl true):=rfl;simp[zaw,zag,za0,c,f,nmd]
 ·have f:∀ρ:Env,ρ[0]?=some (some (false,.ref n))->ρ[1]?=some (some (false,.str k))->ρ[2]?=some (some (false,d))->zlm "Album" "named" 0 (zbF 1) (zbF 2) ρ S=.nx ρ (S.set n (alb ts (putS k d ds) dn un)):=by
   intro ρ h0 h1 h2;unfold zlm;rw[show zbF 1 ρ S=some (.str k)by unfold zbF;rw[h1],show zbF 2 ρ S=some d by unfold zbF;rw[h2],zdk h0 h ho];dsimp only;rw[if_pos (by rw[zdK,show zax ds.length=true from yaz J];rfl)];rfl
  have e2:nmd k d ds=putS k d ds:=by
   unfold nmd
   cases d<;>first|rfl|exact absurd rfl b
  have a:zdp d=false:=by simpa using b
  rw[e2]
  have c:zji d .non=some (.bl false):=by unfold zji;rw[a];rfl
  simp[zaw,zag,za0,c,f]
end
section
variable{ρ:Env}{S:Sto}{n i:Nat}{ts:D}{ds:List (D×D)}{dn un:List D}
def qv(h:ρ[j]?=some (some (false,d))):zbF j ρ S=some d:=by unfold zbF;rw[h]
def zmX(h:S[n]?=some (alb ts ds dn un))(ho:zaB ds=true)(J:ds.length<=100000)(hd:dn.length<=100000):
  zb9 [.ref n,.str w,.str k,d] S=.ok .non (S.set n (alb ts (nmd k d ds) (dn++[.tup [.str w,.str k,(zav k ds).getD .non,d]]) [])):=by
 have a:∀ρ:Env,ρ[0]?=some (some (false,.ref n))->ρ[1]?=some (some (false,.str w))->ρ[2]?=some (some (false,.str k))->ρ[3]?=some (some (false,d)) →
   zlq "Album" "done" 0 [(zbF 1),(zbF 2),(ziz "Album" "named" 0 (zbF 2)),(zbF 3)] ρ S=.nx ρ (S.set n (alb ts ds (dn++[.tup [.str w,.str k,(zav k ds).getD .non,d]]) un)):=by
  intro ρ h0 h1 h2 b
  have q:zjO [(zbF 1),(zbF 2),(ziz "Album" "named" 0 (zbF 2)),(zbF 3)] ρ S=some [.str w,.str k,(zav k ds).getD .non,d]:=by
   have g:ziz "Album" "named" 0 (zbF 2) ρ S=some ((zav k ds).getD .non):=by unfold ziz;rw[qv h2,zdk h0 h ho]
   simp only[zjO,qv h1,qv h2,qv b,g,Option.bind,Option.map]
  unfold zlq;rw[zjW h0 h,q];dsimp only;rw[if_pos (by rw[zdK,show zax dn.length=true from yaz hd];rfl)];rfl
 generalize e:dn++[.tup [.str w,.str k,(zav k ds).getD .non,d]]=dn' at a ⊢;have h1:(S.set n (alb ts ds dn' un))[n]?=some (alb ts ds dn' un):=zij h
 have e2:∀ρ:Env,ρ[0]?=some (some (false,.ref n))->zgt "Album" "undone" 0 ρ (S.set n (alb ts ds dn' un))=.nx ρ (S.set n (alb ts ds dn' [])):=by
  intro ρ h0;unfold zgt;rw[h0];dsimp only;rw[h1];show(if _ then Fo.nx ρ ((S.set n (alb ts ds dn' un)).set n (alb ts ds dn' []))else _)=_;rw[if_pos (by rfl),List.set_set]
 have h2:(S.set n (alb ts ds dn' []))[n]?=some (alb ts ds dn' []):=zij h;have c:=zkp (k:=k) (d:=d) h2 ho J;have m:zaJ "Album" "name_floor" (.ref n) (S.set n (alb ts ds dn' []))=true:=za5 h2 (by decide);simp[zb9,zag,ze7,a,e2,c,m]
noncomputable def zh0(k:Str):Prop:=k="one" \/ k="other" \/ k="both"
def zeU(h:zh0 k):zdt [.str k] S=.ok (.bl true) S:=by
 rcases h with rfl|rfl|rfl<;>kernel_rfl
def zeS{k:Str}(h:zh0 k):zaU [.str k] S=.ok .non S:=by
 simp[zaU,zag,zbU,zeU h,zcn]
def zcc(hk:zh0 k)(h:S[n]?=some (alb ts ds dn un))(ho:zaB ds=true)(hd:zav k ds=some d):zar [.ref n,.str k] S=.ok d S:=by
 have a:∀ρ:Env,ρ[0]?=some (some (false,.ref n))->ρ[1]?=some (some (false,.str k))->eQ (zhp "Album" "named" 0 (zbF 1)) ρ S=.ok (.bl false) S:=fun ρ h0 h1=>by rw[zxW h0 h ho h1,hd];rfl
 have e2:∀ρ:Env,ρ[0]?=some (some (false,.ref n))->ρ[1]?=some (some (false,.str k))->eQ (zsa "Album" "named" 0 (zbF 1)) ρ S=.ok d S:=fun ρ h0 h1=>zBZ h0 h ho h1 hd
 simp[zar,zag,zbV,zeU hk,zcn,a,e2]
def zmS(hk:zh0 k)(J:zdp d=false)(h:S[n]?=some (alb ts ds dn un))(ho:zaB ds=true)(U:ds.length<=100000)(hd:dn.length<=100000)(hf:za7 [ts,d] S=.ok (.bl true) S):
  zbE [.ref n,.str k,d] S=.ok (.bl (zav k ds).isSome) (S.set n (alb ts (putS k d ds) (dn++[.tup [.str "put",.str k,(zav k ds).getD .non,d]]) [])):=by
 have c:∀ρ:Env,ρ[0]?=some (some (false,.ref n))->ρ[1]?=some (some (false,.str k))->eQ (zpa "Album" "named" 0 (zbF 1)) ρ S=.ok (.bl (zav k ds).isSome) S:=fun ρ h0 h1=>zB2 h0 h ho h1
 have a:=zmX (w:="put") (k:=k) (d:=d) h ho U hd
 have b:nmd k d ds=putS k d ds:=by
  unfold nmd
  cases d<;>first|rfl|cases J
 rw[b]at a;have m:zaJ "Album" "do" (.ref n) S=true:=za5 h (by decide);simp[zbE,zag,zeg,zeS hk,zeJ h,hf,zcn,c,a,m]
def zo3(hk:zh0 k)(h:S[n]?=some (alb ts ds dn un))(ho:zaB ds=true)(J:ds.length<=100000)(hd:dn.length<=100000)(he:zav k ds=some d):
  zct [.ref n,.str k] S=.ok d (S.set n (alb ts (dropS k ds) (dn++[.tup [.str "take",.str k,d,.non]]) [])):=by
 have e:=zcc hk h ho he;have a:=zmX (w:="take") (k:=k) (d:=.non) h ho J hd;rw[he]at a;have c:nmd k .non ds=dropS k ds:=rfl;rw[c]at a;have m:zaJ "Album" "do" (.ref n) S=true:=za5 h (by decide);have b:zaJ "Album" "floor_of" (.ref n) S=true:=za5 h (by decide);simp[zct,zag,zdG,e,a,m,b]
noncomputable def zvH(b:Bool)(x y:D)(S:Sto):Out D:=if b then zc5 [x,y] S else zdu [x,y] S
def zo5(hk:zh0 k)(U:zh0 k1)(J:zh0 k2)(hn:zdp z=false)(h:S[n]?=some (alb ts ds dn un))(ho:zaB ds=true)(hl:ds.length<=100000)(hd:dn.length<=100000)
  (h1:zav k1 ds=some x) (h2:zav k2 ds=some y) (hj:zvH b x y S=.ok z S) (hf:za7 [ts,z] S=.ok (.bl true) S):
  zbP [.ref n,.str k,.str k1,.str k2,.bl b] S=.ok z (S.set n (alb ts (putS k z ds) (dn++[.tup [.str "join",.str k,(zav k ds).getD .non,z]]) [])):=by
 have f:=zcc U h ho h1;have e2:=zcc J h ho h2;have c:=zmX (w:="join") (k:=k) (d:=z) h ho hl hd
 have g:nmd k z ds=putS k z ds:=by
  unfold nmd
  cases z<;>first|rfl|cases hn
 rw[g]at c;have m:zaJ "Album" "do" (.ref n) S=true:=za5 h (by decide);have e:zaJ "Album" "floor_of" (.ref n) S=true:=za5 h (by decide)
 cases b with
 |true=>
  have a:zc5 [x,y] S=.ok z S:=hj;simp[zbP,zag,zcC,zeS hk,f,e2,a,zeJ h,hf,zcn,c,m,e]
 |false=>
  have a:zdu [x,y] S=.ok z S:=hj;simp[zbP,zag,zcC,zeS hk,f,e2,a,zeJ h,hf,zcn,c,m,e]
end
noncomputable def FlD(rs:List (List D)):D:=.tup (rs.map D.tup)
def zkY:flr r c g=FlD ((List.range r).map fun i=>zdo c (g i)):=by
 unfold flr zaX FlD;rw[yay];rfl
noncomputable def InN(n:Nat)(g:Gf):Prop:=∀i j x,g i j=some x->0<=x/\x<n
section
variable{S:Sto}{tl:List D}{r c:Nat}{g:Gf}
def zlv{o:Option Int}(h:∀x,o=some x->0<=x/\x<tl.length):zcS [.tup tl,oD o] S=.ok (.bl true) S:=by
 have e:=zdZ (S:=S) h
 cases o with
 |none=>
  have e:zji .non .non=some (.bl true):=rfl;simp[zcS,zag,zeB,oD,e]
 |some x=>
  have a:zji (.int x) .non=some (.bl false):=rfl;simp only[oD]at e;simp[zcS,zag,zeB,oD,e,a]
def zhW{l:List D}:zk9 [.lst (l.map fun _=>.bl true)]=some (.bl true):=by rw[zhX,ybj.mpr fun _ _=>rfl]
theorem zmV{f:Nat->Option Int}(h1:1<=c)(J:c<=6)(h:∀j x,f j=some x->0<=x/\x<tl.length):zer [.tup tl,zcX c f] S=.ok (.bl true) S:=by
 have b:zaD (.one 0) zbv (eFn zcS [(zaa 1),(zaa 0)]) [none,some (false,.tup tl)] (zdo c f) S=.ok ((zdo c f).map fun _=>.bl true) S:=by
  refine zan fun d hd=>?_
  obtain⟨j,_,rfl⟩:=yah.mp hd;exact⟨_,rfl,by simp[zlv (h j)]⟩
 have e:=zhW (l:=zdo c f);have a:(zdo c f).length=c:=zfz;unfold zcX;generalize zdo c f=R at*;simp[zer,zag,zhL,za3,b,e,zqf,a,show(1:Int)<=c by omega,show(c:Int)<=6 by omega,show c<=100000 by omega]
theorem zjw(r1:1<=r)(U:r<=6)(c1:1<=c)(J:c<=6)(hg:InN tl.length g):za7 [.tup tl,flr r c g] S=.ok (.bl true) S:=by
 have e:zaD (.one 0) zbv (eFn zer [(zaa 1),(zaa 0)]) [none,some (false,.tup tl)] (zaX r c g) S=.ok ((zaX r c g).map fun _=>.bl true) S:=by
  refine zan fun d hd=>?_
  obtain⟨i,_,rfl⟩:=yah.mp hd;exact⟨_,rfl,by simp[zmV c1 J (hg i)]⟩
 have h:atI (zaX r c g) 0=some (zcX c (g 0)):=by
  refine(za1 (zaX r c g) 0).trans ?_;unfold zaX;rw[yax,ycA (by omega)];rfl
 have b:zaD (.one 0) zbv (zae eqD (zal zd1 [(zaf 0)]) (zal zd1 [(zae ixD (zaf 1) (zab (.int 0)))])) [none,some (false,.tup (zaX r c g))] (zaX r c g) S=.ok ((zaX r c g).map fun _=>.bl true) S:=by
  refine zan fun d hd=>?_
  obtain⟨i,_,rfl⟩:=yah.mp hd;refine⟨_,rfl,?_⟩;generalize zaX r c g=X at*;simp[h,zcX]
 have f:=zhW (l:=zaX r c g)
 have a:(zaX r c g).length=r:=by unfold zaX;simp
 unfold flr;generalize zaX r c g=R at*;simp[za7,zag,ze6,za3,e,f,b,zqf,zcn,a,show(1:Int)<=r by omega,show(r:Int)<=6 by omega,show r<=100000 by omega]
end
theorem InN.jnG(hg:InN n g)(hh:InN n h):InN n (jnG c g h):=fun i j x e=>by
 unfold S2.jnG at e;split at e
 ·exact hg _ _ _ e
 ·exact hh _ _ _ e
def zfL(h1:1<=r)(J:r<=100)(U:c<=100)(hd:c'<=100):zc5 [flr r c g,flr r c' h] S=.ok (flr r (c+c') (jnG c g h)) S:=by
 have e:=zg4 (c:=r) (f:=fun i=>zcX c (g i)) (g:=fun i=>zcX c' (h i)) (h:=fun i=>zcX (c+c') (jnG c g h i)) (elt:=zae zb6 (zaf 0) (zaf 1)) (S:=S) fun i _=>by
  have a:(zdo c (g i)).length+(zdo c' (h i)).length<=100000:=by rw[zfz,zfz];omega
  unfold zcX;rw[<-zus];generalize zdo c (g i)=A at*;generalize zdo c' (h i)=B at*;simp[a]
 have s1:=zbn (c:=c) (g:=g) (S:=S) h1;have s2:=zbn (c:=c') (g:=h) (S:=S) h1;simp[flr,zaX]at s1 s2;simp[zc5,zag,zhM,flr,zaX,s1,s2,e,show r<=100000 by omega]
def zlz(h1:1<=r)(J:r<=100):zdu [flr r c g,flr r c g] S=.ok (flr (r+r) c (bl r g g)) S:=by
 have s1:=zbn (c:=c) (g:=g) (S:=S) h1
 have a:(zaX r c g).length=r:=by unfold zaX;simp
 unfold flr at*;rw[<-zvS];generalize zaX r c g=A at*;simp[zdu,zag,zjN,s1,a,show r+r<=100000 by omega]
def ztw:zjF (.tup a) (.int j)=if decide (1<=j/\j<=1000/\a≠[]/\a.length<=1000)then some (.tup (List.replicate j.toNat a).flatten)else none:=rfl
def zlx{r:Nat}{S:Sto}(h1:1<=r)(J:r<=100):zho [.int r,.int 1] S=.ok (flr r 1 fun _ _=>none) S:=by
 have e:zaX r 1 (fun _ _=>none)=List.replicate r (D.tup [.non]):=by
  rw[List.eq_replicate_iff];refine⟨by unfold zaX;simp,fun d hd=>?_⟩;unfold zaX at hd;obtain⟨i,_,rfl⟩:=yah.mp hd;rfl
 unfold flr;rw[e]
 have e2:(List.replicate r [D.tup [.non]]).flatten=List.replicate r (D.tup [.non]):=by simp
 simp[zho,zag,zjM,ztw,show r<=1000 by omega,show 1<=(r:Int)by omega,show(r:Int)<=1000 by omega]
end S2
namespace TX
open PySem
noncomputable abbrev L(x:Str):List Nat:=x.cps.toList
noncomputable abbrev T(l:List Nat):Str:=⟨l.toArray⟩
def zhY(h:L a=L b):a=b:=Str.ext' (ydd.mp h)
def L_T(l:List Nat):L (T l)=l:=List.toList_toArray
def TL(x:Str):T (L x)=x:=zhY (L_T _)
def zl2(a b:Str):L (a++b)=L a++L b:=by show(a.cps++b.cps).toList=_;simp
def zeK(a:Str):(L a).length=a.length:=by show a.cps.toList.length=a.cps.size;simp
def zhv:("\n":Str)=⟨#[10]⟩:=by decide +kernel
def zt5:(" ":Str)=⟨#[32]⟩:=by decide +kernel
def zs9:("":Str)=⟨#[]⟩:=by decide +kernel
noncomputable def jn(c:Nat):List (List Nat)->List Nat
 |[]=>[]|[x]=>x|x::y::r=>x++c::jn c (y::r)
theorem zhA(c:Nat):∀ps:List Str,L (Str.join ⟨#[c]⟩ ps)=jn c (ps.map L)
 |[]=>rfl|[x]=>rfl|x::y::r=>by
  show L (x++⟨#[c]⟩++Str.join ⟨#[c]⟩ (y::r))=L x++c::jn c ((y::r).map L);rw[zl2,zl2,zhA c (y::r)];show(L x++[c])++_=_;rw[ybB];rfl
theorem zhB:∀ps:List Str,L (Str.join ⟨#[]⟩ ps)=(ps.map L).flatten
 |[]=>rfl|[x]=>by simp[Str.join]
 |x::y::r=>by
  show L (x++⟨#[]⟩++Str.join ⟨#[]⟩ (y::r))=L x++((y::r).map L).flatten;rw[zl2,zl2,zhB (y::r)];show(L x++[])++_=_;rw[yaO]
def zsV(h:r≠[]):jn c (x::r)=x++c::jn c r:=by
 cases r with
 |nil=>exact absurd rfl h|cons y r=>rfl
theorem zq8:∀{a b x y:List Nat},c ∉ a->c ∉ b->a++c::x=b++c::y->a=b/\x=y
 |[],[],x,y,_,_,h=>⟨rfl,(List.cons.inj h).2⟩|[],b::bs,x,y,_,hb,h=>absurd (yau.mpr (.inl (List.cons.inj h).1)) hb|a::as,[],x,y,d,_,h=>absurd (yau.mpr (.inl (List.cons.inj h).1.symm)) d|a::as,b::bs,x,y,d,hb,h=>by
  obtain⟨h1,h2⟩:=List.cons.inj h;obtain⟨e,e2⟩:=zq8 (fun z=>d (yal _ z)) (fun z=>hb (yal _ z)) h2;exact⟨by rw[h1,e],e2⟩
theorem zq0:∀{ps qs:List (List Nat)},ps≠[]->qs≠[]->(∀p∈ps,c ∉ p)->(∀p∈qs,c ∉ p)->jn c ps=jn c qs->ps=qs
 |[],_,h,_,_,_,_=>absurd rfl h|_,[],_,h,_,_,_=>absurd rfl h|[x],[y],_,_,_,_,h=>by rw[show x=y from h]
 |[x],y::z::r,_,_,h1,_,h=>by
  have h:x=y++c::jn c (z::r):=h;exact absurd (by rw[h];exact ybb.mpr (.inr yan)) (h1 x yan)
 |y::z::r,[x],_,_,_,h1,h=>by
  have h:y++c::jn c (z::r)=x:=h;exact absurd (by rw[<-h];exact ybb.mpr (.inr yan)) (h1 x yan)
 |x::y::r,d::b::r',_,_,h1,h2,h=>by
  obtain⟨e,e2⟩:=zq8 (h1 x yan) (h2 d yan) (show x++c::jn c (y::r)=d++c::jn c (b::r')from h);rw[e,zq0 (ps:=y::r) (qs:=b::r') (List.cons_ne_nil _ _) (List.cons_ne_nil _ _) (fun p a=>h1 p (yal _ a)) (fun p a=>h2 p (yal _ a)) e2]
def zoU(x y:Str):Txt.split x y≠[]:=by
 unfold Txt.split;split
 ·exact fun z=>nomatch z
 ·split
  ·exact fun z=>nomatch z
  ·rw[StrLaws.partsBetween_eq];obtain⟨p,r,e⟩:=StrLaws.partsFrom_ne x y.length 0 (Builtin.Str.occurrences x y 0 x.length (x.length+1))
   rw[e];exact fun z=>nomatch z
def zhc(x:Str)(c:Nat):jn c ((Txt.split x ⟨#[c]⟩).map L)=L x:=by rw[<-zhA,StrLaws.join_split]
def zns{ps qs:List Str}(h:ps.map L=qs.map L):ps=qs:=by
 have:=congrArg (List.map T) h;rw[yay,yay]at this;have e:(T∘L)=id:=funext TL
 rwa[e,List.map_id,List.map_id]at this
def zeO(h:ps≠[])(U:∀p∈ps,c ∉ L p)(J:L x=jn c (ps.map L)):Txt.split x ⟨#[c]⟩=ps:=by
 refine zns (zq0 (c:=c) (fun z=>zoU x _ (ybT.mp z)) (fun z=>h (ybT.mp z)) (fun p b=>?_) (fun p b=>?_) (by rw[zhc,J]))
 ·obtain⟨q,a,rfl⟩:=yah.mp b;exact StrLaws.split_free x c q a
 ·obtain⟨q,a,rfl⟩:=yah.mp b;exact U q a
def zfE(x:Str)(c:Nat):(Txt.split x ⟨#[c]⟩).length<=x.length+1/\∀p∈Txt.split x ⟨#[c]⟩,p.length<=x.length:=by
 have key:∀ps:List (List Nat),ps.length<=(jn c ps).length+1/\∀p∈ps,p.length<=(jn c ps).length:=by
  intro ps
  induction ps with
  |nil=>exact⟨yaR _,fun p b=>nomatch b⟩|cons a r d=>
   by_cases e:r=[]
   ·subst e;refine⟨?_,fun p b=>?_⟩
    ·show 1<=a.length+1;omega
    ·obtain rfl:=yaD.mp b;exact yaj _
   ·rw[zsV e,yak,yap,yap];refine⟨by have:=d.1;omega,fun p b=>?_⟩
    rcases yau.mp b with rfl|b
    ·omega
    ·have:=d.2 p b;omega
 obtain⟨k1,k2⟩:=key ((Txt.split x ⟨#[c]⟩).map L);rw[zhc,zeK,yae]at k1;refine⟨k1,fun p b=>?_⟩;have:=k2 _ (List.mem_map_of_mem b)
 rwa[zhc,zeK,zeK]at this
def zoc(x:Str):Txt.endswith x ⟨#[10]⟩=true↔∃b,L x=b++[10]:=by
 unfold Txt.endswith;rw[yab,StrLaws.subAt_eq,yaT];show(0+1<=x.length/\(((L x).drop (x.length-1)).take 1==[10])=true)↔_;rw[ycB,<-zeK];constructor
 ·rintro⟨h1,h2⟩;refine⟨(L x).take ((L x).length-1),?_⟩;have e:=List.take_append_drop ((L x).length-1) (L x);rw[yby (by rw[List.length_drop];omega)]at h2;rw[h2]at e;exact e.symm
 ·rintro⟨b,e⟩;rw[e,yak,yc7];refine⟨by omega,?_⟩;rw[Nat.add_sub_cancel,List.drop_left];rfl
def zgD(h:L x=b++[c]):Txt.slice x none (some (-1))=T b:=by
 have a:x.length=b.length+1:=by rw[<-zeK,h,yak];rfl
 have e:Txt.slice x none (some (-1))=_:=StrLaws.sliceText_to_neg (x:=x) (j:=-1) (by decide) (by omega);rw[e,show x.cps.toList=b++[c]from h,a,ydw,show(-1+((b.length+1:Nat):Int)-0).toNat=b.length by omega,List.take_left]
noncomputable def dI(i:Int):Str:=toString i
noncomputable abbrev dg(n:Nat):Str:=dI n
def zqa:∀n,n<9->dg n=⟨#[48+n]⟩:=by decide +kernel
def zoj:∀n,n<16->10 ∉ L (dg n)/\32 ∉ L (dg n)/\(L (dg n)).length<=2/\L (dg n)≠[]:=by decide +kernel
def zvO(c:Nat):(!(Builtin.Str.occurrences ("012345678":Str) ⟨#[c]⟩ 0 ("012345678":Str).length 1).isEmpty)=decide (48<=c/\c<=56):=by
 rw[StrLaws.found_one]
 have e:("012345678":Str).cps.toList=[48,49,50,51,52,53,54,55,56]:=by decide +kernel
 rw[e]
 by_cases h:48<=c/\c<=56
 ·rw[yaz h,yaz]
  have:∀c,c<=56->48<=c->c∈[48,49,50,51,52,53,54,55,56]:=by decide
  exact this c h.2 h.1
 ·rw[yaB h,yaB];intro z;apply h;simp only[yau,ya8,ycR]at z;omega
def zwn:∀c,c<=56->48<=c->(Builtin.Str.occurrences ("012345678":Str) ⟨#[c]⟩ 0 ("012345678":Str).length 1).head?=some (c-48):=by decide +kernel
end TX
namespace S2
open PySem TX
open L2 hiding D
def zwI(g:Str->D->Option D)(x:Str):Out D->Out D|.ok d S=>Out.of (g x d) S|.exc c S=>.exc c S|.bad=>.bad
noncomputable def kSm(g:Str->D->Option D)(f:Fe)(ρ:Env):Out D->Out D|.ok d S=>(match d with|.str x=>zwI g x (f ρ S)|_=>.bad)|.exc c S=>.exc c S|.bad=>.bad
def zpM(ds:List (D×D))(k:D):Out D->Out D|.ok z S=>(match k with|.str x=>.ok ((zav x ds).getD z) S|_=>.bad)|.exc c S=>.exc c S|.bad=>.bad
noncomputable def zpN(f2:Fe)(ρ:Env)(ds:List (D×D)):Out D->Out D|.ok k S=>zpM ds k (f2 ρ S)|.exc c S=>.exc c S|.bad=>.bad
def zvC(f f2:Fe)(ρ:Env):Out D->Out D|.ok d S=>(match d with|.dic ds=>if zaB ds then zpN f2 ρ ds (f ρ S)else .bad|_=>.bad)|.exc c S=>.exc c S|.bad=>.bad
noncomputable def zvD(k:Str):Out D->Out D|.ok d S=>.ok (.dic [(.str k,d)]) S|.exc c S=>.exc c S|.bad=>.bad
def zwM(i:Nat)(ρ:Env)(ds:List (D×D))(d:D):Out D->Fo|.ok k S=>(match k with|.str x=>.nx (ρ.set i (some (true,.dic (putS x d ds)))) S|_=>.bad)|.exc c S=>.ex c ρ S|.bad=>.bad
noncomputable def zwN(i:Nat)(fk:Fe)(ρ:Env)(ds:List (D×D)):Out D->Fo|.ok d S=>zwM i ρ ds d (fk ρ S)|.exc c S=>.ex c ρ S|.bad=>.bad
noncomputable def kPX(i:Nat)(fk fe:Fe)(ρ:Env)(S:Sto):Option (List (D×D))->Fo|some ds=>zwN i fk ρ ds (fe ρ S)|none=>.bad
section
variable{f f2 fo:Fe}{ρ:Env}{S:Sto}{g:Str->D->Option D}{x y:Str}{d z:D}{ds:List (D×D)}{i j:Nat}{a:Fs}
@[simp] def zAL:eSm g fo f ρ S=kSm g f ρ (fo ρ S):=by
 unfold eSm
 cases fo ρ S with
 |ok d S1=>
  cases d with
  |str x=>show(f ρ S1).bind _=zwI g x (f ρ S1);cases f ρ S1<;>rfl|_=>rfl
 |exc c S1=>rfl|bad=>rfl
@[simp] def zBw:kSm g f ρ (.ok (.str x) S)=zwI g x (f ρ S):=(rfl)
@[simp] def zBv:zwI g x (.ok d S)=Out.of (g x d) S:=(rfl)
@[simp] def zw5:zfj fo f f2 ρ S=zvC f f2 ρ (fo ρ S):=by
 unfold zfj
 cases fo ρ S with
 |ok d S1=>
  cases d with
  |dic ds=>
   show(if zaB ds then _ else _)=(if zaB ds then _ else _);split
   ·show(f ρ S1).bind _=zpN f2 ρ ds (f ρ S1)
    cases f ρ S1 with
    |ok k S2=>show(f2 ρ S2).bind _=zpM ds k (f2 ρ S2);cases f2 ρ S2<;>rfl|exc c S2=>rfl|bad=>rfl
   ·rfl
  |_=>rfl
 |exc c S1=>rfl|bad=>rfl
@[simp] def zzM:zvC f f2 ρ (.ok (.dic ds) S)=if zaB ds then zpN f2 ρ ds (f ρ S)else .bad:=(rfl)
@[simp] def zzL:zpN f2 ρ ds (.ok d S)=zpM ds d (f2 ρ S):=(rfl)
@[simp] def zzK:zpM ds (.str x) (.ok z S)=.ok ((zav x ds).getD z) S:=(rfl)
@[simp] def zw7:zlR x f ρ S=zvD x (f ρ S):=by unfold zlR;cases f ρ S<;>rfl
@[simp] def zzQ:zvD x (.ok d S)=.ok (.dic [(.str x,d)]) S:=(rfl)
def zrj:zgs i fk fe ρ S=kPX i fk fe ρ S (zif i ρ):=by
 unfold zgs
 cases zif i ρ with
 |none=>rfl|some ds=>
  show _=zwN i fk ρ ds (fe ρ S)
  cases fe ρ S with
  |ok d S1=>
   show _=zwM i ρ ds d (fk ρ S1);dsimp only
   cases fk ρ S1 with
   |ok k S2=>cases k<;>rfl|exc c S2=>rfl|bad=>rfl
  |exc c S1=>rfl|bad=>rfl
@[simp] def zCx:kPX i f f2 ρ S (some ds)=zwN i f ρ ds (f2 ρ S):=(rfl)
@[simp] def zBA:zwN i f ρ ds (.ok d S)=zwM i ρ ds d (f ρ S):=(rfl)
@[simp] def zBz:zwM i ρ ds d (.ok (.str x) S)=.nx (ρ.set i (some (true,.dic (putS x d ds)))) S:=(rfl)
@[simp] def zy6:zod x (.str y)=some (.bl (Txt.endswith x y)):=(rfl)
@[simp] def zAT:zb6 (.str x) (.str y)=if zax (x.length+y.length)then some (.str (x++y))else none:=(rfl)
@[simp] def zAt:slD (.str x) l u=if zax x.length then some (.str (Txt.slice x l u))else none:=(rfl)
@[simp] def zwZ:zgv x (.lst l)=(zfD l).bind fun ts=>if JoinOk x ts then some (.str (Txt.join x ts))else none:=(rfl)
@[simp] def zwy:zej x (.str y)=if !(y.length==0)&&zax x.length then some (.lst ((Txt.split x y).map D.str))else none:=(rfl)
@[simp] def zyL:zqA [.int n]=if decide (-1000<=n/\n<=1000)then some (.str (dI n))else none:=(rfl)
end
theorem zdM{α:Type}(t:α->Str):∀l:List α,zfD (l.map fun a=>D.str (t a))=some (l.map t)
 |[]=>rfl|a::l=>by
  show(zfD (l.map fun a=>D.str (t a))).map _=_;rw[zdM t l];rfl
def zf0(h1:ts.length<=1000)(h2:∀t∈ts,t.length<=1000)(J:sep.length<=1):JoinOk sep ts=true:=by
 unfold JoinOk;rw[yaJ];refine StrLaws.joinFits (B:=1000) h2 ?_;have:=ybn h1 (yaj 1000);have:=ybn h1 J;omega
def zf1(sep:Str)(ts:List Str):Txt.join sep ts=Str.join sep ts:=StrLaws.glued_eq_join sep ts
open PySem
section
variable{S:Sto}
theorem zgM:∀ts:List (List Int),keysOf (ts.map zaj)=some ts
 |[]=>rfl|t::ts=>by rw[yaw];unfold keysOf;rw[show zsP (zaj t)=some t from zhC t,zgM ts];rfl
theorem zlw(U:t.length=4)(J:∀c∈t,0<=c/\c<3):zds [zaj t] S=.ok (.bl true) S:=by
 have b:zaD (.one 0) zbv (eFn zc4 [(zaa 0)]) [none] (t.map D.int) S=.ok ((t.map D.int).map fun _=>.bl true) S:=by
  refine zan fun d hd=>?_
  obtain⟨x,a,rfl⟩:=yah.mp hd;refine⟨_,rfl,?_⟩;have:=J x a;simp[zc4,zag,zed,zd4,show 0<=x by omega,show x<=8 by omega]
 have e:=zhW (l:=t.map D.int)
 have g:(t.map D.int).length=4:=by rw[yae];exact U
 unfold zaj;generalize t.map D.int=T at*;have f:((4:Int)<=T.length/\(T.length:Int)<=4):=⟨by omega,by omega⟩;simp[zds,zag,zge,za3,f,b,e,show T.length<=100000 by omega]
theorem zmU(h:Tiles most ts)(hm:most<=4):zb0 [.tup (ts.map zaj)] S=.ok (.bl true) S:=by
 have c:zaD (.one 0) zbv (eFn zds [(zaa 0)]) [none] (ts.map zaj) S=.ok ((ts.map zaj).map fun _=>.bl true) S:=by
  refine zan fun d hd=>?_
  obtain⟨x,a,rfl⟩:=yah.mp hd;refine⟨_,rfl,?_⟩;simp[zlw (h.four x a) (h.col x a)]
 have e:=zhW (l:=ts.map zaj);have b:(ts.map zaj).length=ts.length:=yae _;have h1:=h.ne;have h2:=h.le
 have es:zd6 (.tup (ts.map zaj))=some (.int ts.length):=by
  show(keysOf (ts.map zaj)).bind _=_;rw[zgM];show(if decide (ts.length<=4)then some (D.int (ST.ddN ts))else none)=_;rw[if_pos (yaz (by omega)),ST.zyr (by omega) h.nd]
 generalize ts.map zaj=T at*;have f:((1:Int)<=T.length/\(T.length:Int)<=16):=⟨by omega,by omega⟩;simp[zb0,zag,zhK,za3,c,e,es,zcn,b,show ts.length<=100000 by omega,show(1:Int)<=ts.length by omega,show(ts.length:Int)<=16 by omega]
end
section
variable{S:Sto}{m:Nat}{ts:D}{ds:List (D×D)}{dn un:List D}
def zis(h:S[m]?=some (alb ts ds dn un))(ho:zaB ds=true)(J:ds.length<64):zbr [.ref m] S=.ok (.lst ((zek (zgu ds)).map D.str)) S:=by
 have a:∀ρ:Env,ρ[0]?=some (some (false,.ref m))->zlN "Album" "named" 0 ρ S=.ok (.lst ((zek (zgu ds)).map D.str)) S:=fun ρ h0=>by
  unfold zlN;rw[zdk h0 h ho];dsimp only;rw[if_pos J]
 simp[zbr,zag,zde,a]
end
section
variable{S:Sto}
noncomputable def nT:D->Str|.int i=>dI i|_=>"-"
noncomputable def OkN(d:D):Prop:=d=.non\/∃i:Nat,i<4/\d=.int i
def zpA(h:OkN d):10 ∉ L (nT d)/\32 ∉ L (nT d)/\(L (nT d)).length<=2/\L (nT d)≠[]:=by
 rcases h with rfl|⟨i,hi,rfl⟩
 ·exact(by decide +kernel:10 ∉ L ("-":Str)/\32 ∉ L ("-":Str)/\(L ("-":Str)).length<=2/\L ("-":Str)≠[])
 ·exact zoj i (by omega)
def zvh(h:OkN d):(nT d).length<=2:=by rw[<-zeK];exact(zpA h).2.2.1
def zgF(h:OkN d):zaR [d] S=.ok (.str (nT d)) S:=by
 rcases h with rfl|⟨i,hi,rfl⟩
 ·have e:zji .non .non=some (.bl true):=rfl;simp[zaR,zag,zb2,e,nT]
 ·have e:zji (.int i) .non=some (.bl false):=rfl;simp[zaR,zag,zb2,e,nT,show -1000<=(i:Int)/\(i:Int)<=1000 by omega]
def zfq(l:List Nat):(T l).length=l.length:=by rw[<-zeK,L_T]
theorem zhI{α:Type}{f:α->List Nat}:∀{l:List α},(∀a∈l,(f a).length<=B)->(l.map f).flatten.length<=l.length*B
 |[],_=>yaR _|a::l,h=>by
  rw[yaw,ya9,yak,yap,ycD];have:=h a yan;have:=zhI (l:=l) fun x b=>h x (yal _ b)
  omega
theorem znM:∀{l:List (List Nat)},(∀a∈l,a.length<=B)->(jn c l).length<=l.length*(B+1)
 |[],_=>yaR _|[a],h=>by have:=h a yan;show a.length<=1*(B+1);omega
 |a::b::r,h=>by
  have h1:=h a yan;have h2:=znM (c:=c) (l:=b::r) fun x d=>h x (yal _ d)
  show(a++c::jn c (b::r)).length<=_;rw[yak,yap,yap,ycD];omega
theorem znL:∀{ps:List (List Nat)},ps≠[]->(ps.map (·++[c])).flatten=jn c ps++[c]
 |[],h=>absurd rfl h|[a],_=>by simp[jn]
 |a::b::r,_=>by
  rw[yaw,ya9,znL (List.cons_ne_nil b r)];show _=(a++c::jn c (b::r))++[c];simp
noncomputable def fD(k:List Nat):List D:=k.map fun i=>D.int (i:Nat)
noncomputable def kL(k:List Nat):List Nat:=k.map (48+·)
noncomputable def zhg(ks:List (List Nat)):List Nat:=(ks.map fun k=>kL k++[10]).flatten
structure Ks(ks:List (List Nat)):Prop where
 ne:1<=ks.length
 le:ks.length<=16
 four:∀k∈ks,k.length=4
 lt:∀k∈ks,∀i∈k,i<9
def dgs(h:∀i∈k,i<9):((k.map fun i=>dg i).map L).flatten=kL k:=by
 induction k with
 |nil=>rfl|cons i k a=>
  rw[yaw,yaw,ya9,a fun x b=>h x (yal _ b)];have:=zqa i (h i yan);rw[this];rfl
def zil(J:k.length=4)(h:∀i∈k,i<9):zby [.tup (fD k)] S=.ok (.str (T (kL k))) S:=by
 have e:zaD (.one 0) zbv (zal zqA [(zaf 0)]) [none] (fD k) S=.ok (k.map fun i=>.str (dg i)) S:=by
  have:=zan (tg:=.one 0) (elt:=zal zqA [(zaf 0)]) (aj:=[none]) (S:=S) (ds:=fD k) (g:=fun d=>.str (nT d)) fun d hd=>by
   obtain⟨i,hi,rfl⟩:=yah.mp hd;have:=h i hi;refine⟨_,rfl,?_⟩;simp[nT,show -1000<=(i:Int)/\(i:Int)<=1000 by omega]
  rw[this];unfold fD;rw[yay];rfl
 have es:=zdM (fun i:Nat=>dg i) k
 have c:JoinOk ("":Str) (k.map fun i:Nat=>dg i)=true:=zf0 (by rw[yae];omega) (fun t ht=>by
  obtain⟨i,hi,rfl⟩:=yah.mp ht;have:=(zoj i (by have:=h i hi;omega)).2.2.1;rw[zeK]at this
  omega) (by decide +kernel)
 have b:Txt.join ("":Str) (k.map fun i:Nat=>dg i)=T (kL k):=zhY (by rw[zf1,zs9,zhB,dgs h,L_T])
 have a:(k.map fun i:Nat=>D.str (dg i)).length<=100000:=by rw[yae];omega
 simp[zby,zag,zd8,e,es,c,b,a,show k.length<=100000 by omega]
def zkR(k:List Nat):(kL k).length=k.length:=yae _
def zjs(h:Ks ks):zdO [FlD (ks.map fD)] S=.ok (.str (T (zhg ks))) S:=by
 have f:zaD (.one 0) zbv (zae zb6 (eFn zby [(zaa 0)]) (zab (.str "\n"))) [none] ((ks.map fD).map D.tup) S=.ok (ks.map fun k=>.str (T (kL k++[10]))) S:=by
  have:=zan (tg:=.one 0) (elt:=zae zb6 (eFn zby [(zaa 0)]) (zab (.str "\n"))) (aj:=[none]) (S:=S) (ds:=ks.map fun k=>D.tup (fD k)) (g:=fun d=>match d with|.tup r=>.str (T (r.flatMap (fun d=>L (nT d))++[10]))|_=>.non) fun d hd=>by
   obtain⟨k,hk,rfl⟩:=yah.mp hd;refine⟨_,rfl,?_⟩;have e:T (kL k)++("\n":Str)=T (kL k++[10]):=zhY (by rw[zl2,L_T,L_T,zhv])
   have e2:(fD k).flatMap (fun d=>L (nT d))=kL k:=by
    rw[<-dgs (h.lt k hk),yay,List.flatMap_def];unfold fD;rw[yay];rfl
   have a:((T (kL k)).length+("\n":Str).length)<=100000:=by rw[zfq,zkR,h.four k hk];decide +kernel
   simp[zil (h.four k hk) (h.lt k hk),e,e2,a]
  rw[yay];show zaD _ _ _ _ (ks.map fun k=>D.tup (fD k)) S=_;rw[this,yay];congr 1;refine yaC fun k hk=>?_
  show D.str (T ((fD k).flatMap (fun d=>L (nT d))++[10]))=_;rw[<-dgs (h.lt k hk),yay,List.flatMap_def];unfold fD;rw[yay];rfl
 have es:=zdM (fun k=>T (kL k++[10])) ks;have hle:=h.le
 have c:JoinOk ("":Str) (ks.map fun k=>T (kL k++[10]))=true:=zf0 (by rw[yae];omega) (fun t ht=>by
  obtain⟨k,hk,rfl⟩:=yah.mp ht
  rw[zfq,yak,zkR,h.four k hk];decide) (by decide +kernel)
 have b:Txt.join ("":Str) (ks.map fun k=>T (kL k++[10]))=T (zhg ks):=zhY (by
  rw[zf1,zs9,zhB,L_T,yay];unfold zhg
  congr 1)
 unfold FlD;generalize (ks.map fD).map D.tup=X at*;simp[zdO,zag,ze0,f,es,c,b,show ks.length<=100000 by omega]
end
section
variable{S:Sto}
structure Fls(rs:List (List D)):Prop where
 ne:1<=rs.length
 le:rs.length<=6
 row:∀r∈rs,1<=r.length/\r.length<=6
 ok:∀r∈rs,∀d∈r,OkN d
def rL(r:List D):List Nat:=jn 32 (r.map fun d=>L (nT d))
def flL(rs:List (List D)):List Nat:=jn 10 (rs.map rL)
def zqH(J:r.length<=6)(h:∀d∈r,OkN d):(rL r).length<=18:=by
 have:=znM (c:=32) (B:=2) (l:=r.map fun d=>L (nT d)) fun a b=>by
  obtain⟨d,hd,rfl⟩:=yah.mp b;exact(zpA (h d hd)).2.2.1
 rw[yae]at this;unfold rL;omega
def zjt(J:r.length<=6)(h:∀d∈r,OkN d):zb7 [.tup r] S=.ok (.str (T (rL r))) S:=by
 have c:zaD (.one 0) zbv (eFn zaR [(zaa 0)]) [none] r S=.ok (r.map fun d=>.str (nT d)) S:=by
  refine zan fun d hd=>⟨_,rfl,?_⟩
  simp[zgF (h d hd)]
 have es:=zdM nT r
 have b:JoinOk (" ":Str) (r.map nT)=true:=zf0 (by rw[yae];omega) (fun t ht=>by
  obtain⟨d,hd,rfl⟩:=yah.mp ht
  have:=zvh (h d hd);omega) (by decide +kernel)
 have a:Txt.join (" ":Str) (r.map nT)=T (rL r):=zhY (by rw[zf1,zt5,zhA,L_T,yay];rfl);simp[zb7,zag,ze1,c,es,b,a,show r.length<=100000 by omega]
def zhk(h:Fls rs):zcq [FlD rs] S=.ok (.str (T (flL rs))) S:=by
 have hle:=h.le
 have e:zaD (.one 0) zbv (eFn zb7 [(zaa 0)]) [none] (rs.map D.tup) S=.ok (rs.map fun r=>.str (T (rL r))) S:=by
  have:=zan (tg:=.one 0) (elt:=eFn zb7 [(zaa 0)]) (aj:=[none]) (S:=S) (ds:=rs.map D.tup) (g:=fun d=>match d with|.tup r=>.str (T (rL r))|_=>.non) fun d hd=>by
   obtain⟨r,a,rfl⟩:=yah.mp hd;refine⟨_,rfl,?_⟩;simp[zjt (h.row r a).2 (h.ok r a)]
  rw[this,yay];rfl
 have es:=zdM (fun r=>T (rL r)) rs
 have c:JoinOk ("\n":Str) (rs.map fun r=>T (rL r))=true:=zf0 (by rw[yae];omega) (fun t ht=>by
  obtain⟨r,a,rfl⟩:=yah.mp ht;have:=zqH (h.row r a).2 (h.ok r a)
  rw[zfq];omega) (by decide +kernel)
 have b:Txt.join ("\n":Str) (rs.map fun r=>T (rL r))=T (flL rs):=zhY (by
  rw[zf1,zhv,zhA,L_T,yay];unfold flL
  congr 1)
 unfold FlD;generalize rs.map D.tup=X at*;simp[zcq,zag,zdA,e,es,c,b,show rs.length<=100000 by omega]
end
section
variable{S:Sto}{tl:List D}{n:Nat}
noncomputable def zl8(c:Nat):D:=if 48<=c/\c<=56 then .int ((c-48:Nat):Int)else .str "?"
def znX:inD (.str ⟨#[c]⟩) (.str "012345678")=some (.bl (decide (48<=c/\c<=56))):=by
 show some (D.bl (!(Builtin.Str.occurrences ("012345678":Str) ⟨#[c]⟩ 0 ("012345678":Str).length 1).isEmpty))=_;rw[zvO]
def ziv:zbf [.str ⟨#[c]⟩] S=.ok (zl8 c) S:=by
 unfold zl8
 by_cases h:48<=c/\c<=56
 ·have e:zkW "012345678" (.str ⟨#[c]⟩)=some (.int ((c-48:Nat):Int)):=by
   show((Builtin.Str.occurrences ("012345678":Str) ⟨#[c]⟩ 0 ("012345678":Str).length 1).head?).map _=_;rw[zwn c h.2 h.1];rfl
  simp[zbf,zag,zdd,znX,h,e]
 ·simp[zbf,zag,zdd,znX,h]
def ziq(J:x.length<=2000):zbz [.str x] S=.ok (.tup ((L x).map zl8)) S:=by
 have b:zaD (.one 0) zbv (eFn zbf [(zaa 0)]) [none] (zl3 x) S=.ok ((L x).map zl8) S:=by
  have:=zan (tg:=.one 0) (elt:=eFn zbf [(zaa 0)]) (aj:=[none]) (S:=S) (ds:=zl3 x) (g:=fun d=>match d with|.str y=>zl8 (y.cps.getD 0 0)|_=>.non) fun d hd=>by
   obtain⟨c,_,rfl⟩:=yah.mp hd;refine⟨_,rfl,?_⟩;simp[ziv]
  rw[this];unfold zl3;rw[yay];congr 1
 have a:((L x).map zl8).length<=100000:=by rw[yae,zeK];omega
 generalize (L x).map zl8=X at*;simp[zbz,zag,zd9,b,a]
noncomputable def zfg(s:Str):List Str:=Txt.split (Txt.slice s none (some (-1))) ⟨#[10]⟩
def rdS(s:Str):List (List D):=(zfg s).map fun l=>(L l).map zl8
def znw:(zfg s).length<=s.length+1/\∀l∈zfg s,l.length<=s.length:=by
 have h1:=zfE (Txt.slice s none (some (-1))) 10;have h2:=Txt.slice_le s none (some (-1));exact⟨by unfold zfg;omega,fun l a=>yas (h1.2 l a) h2⟩
noncomputable def knD(n:Nat):List (D×D):=(.str "-",.non)::(List.range n).map fun i=>(.str (dg i),.int (i:Nat))
def zvq(hi:i<4):putS (dg i) (.int (i:Nat)) (knD i)=knD (i+1):=by
 have:i=0\/i=1\/i=2\/i=3:=by omega
 rcases this with rfl|rfl|rfl|rfl<;>kernel_rfl
def znE:∀n,n<5->zaB (knD n)=true:=by decide +kernel
noncomputable def isI:Option D->Nat->Bool|some (.int j),i=>j==(i:Int)|_,_=>false
def zvr:∀n,n<5->∀i,i<n->isI (zav (dg i) (knD n)) i=true:=by decide +kernel
noncomputable def isN:Option D->Bool|some .non=>true|_=>false
def zvs:∀n,n<5->isN (zav "-" (knD n))=true:=by decide +kernel
noncomputable def OkC(n:Nat)(d:D):Prop:=d=.non\/∃i:Nat,i<n/\d=.int i
def OkC.to(h:OkC n d)(J:n<=4):OkN d:=h.imp_right fun⟨i,hi,e⟩=>⟨i,by omega,e⟩
def znu(J:n<=4)(h:OkC n d):zav (nT d) (knD n)=some d:=by
 rcases h with rfl|⟨i,hi,rfl⟩
 ·have:=zvs n (by omega);show zav "-" (knD n)=_
  cases e:zav "-" (knD n)with
  |none=>rw[e]at this;cases this|some d=>rw[e]at this;cases d<;>first|rfl|cases this
 ·have:=zvr n (by omega) i hi;show zav (dg i) (knD n)=_
  cases e:zav (dg i) (knD n)with
  |none=>rw[e]at this;cases this|some d=>
   rw[e]at this
   cases d with
   |int j=>rw[eq_of_beq (show(j==(i:Int))=true from this)]|_=>cases this
def zjv(J:tl.length<=4):za6 [.tup tl] S=.ok (.dic (knD tl.length)) S:=by
 obtain⟨a,e,y,rfl⟩:=zdW (tg:=.one 2) (body:=zbi) (ds:=zao 0 tl.length) (S:=S) (fun k ρ=>∃y,ρ=[some (false,.tup tl),some (true,.dic (knD k)),y]) (by
  rintro k d ρ hd ⟨y,rfl⟩;obtain⟨rfl,hk⟩:=zcd hd;refine⟨_,_,rfl,?_,some (false,.int k),rfl⟩;have o:=znE k (by omega)
  have hs:zif 1 [some (false,.tup tl),some (true,.dic (knD k)),some (false,.int k)]=some (knD k):=by
   show(if zaB (knD k)&&zax (knD k).length then some (knD k)else none)=_;rw[o,if_pos];exact yaz (by unfold knD;rw[yap,yae,ycr];omega)
  rw[<-zvq (show k<4 by omega)]
  simp[zbi,zrj,hs,zgF (S:=S) (.inr ⟨k,by omega,rfl⟩),nT])
  (ρ:=[some (false,.tup tl),some (true,.dic (knD 0)),none]) ⟨none,rfl⟩
 rw[ziy]at e;simp only[yaQ]at e;have b:knD 0=[(.str "-",.non)]:=rfl;rw[b]at e;simp[za6,zag,zbG,e,show -1000000<=(tl.length:Int)/\(tl.length:Int)<=1000000 by omega]
def ce(n:Nat)(w:Str):D:=(zav w (knD n)).getD (.str "?")
def zju(U:n<=4)(J:x.length<=1500):zb8 [.dic (knD n),.str x] S=.ok (.tup ((Txt.split x ⟨#[32]⟩).map (ce n))) S:=by
 have h:=zfE x 32
 have c:zaD (.one 0) zbv (zfj (zaa 1) (zaa 0) (zab (.str "?"))) [none,some (false,.dic (knD n))] ((Txt.split x " ").map D.str) S=.ok ((Txt.split x ⟨#[32]⟩).map (ce n)) S:=by
  rw[zt5]
  have:=zan (tg:=.one 0) (elt:=zfj (zaa 1) (zaa 0) (zab (.str "?"))) (aj:=[none,some (false,.dic (knD n))]) (S:=S) (ds:=(Txt.split x ⟨#[32]⟩).map D.str) (g:=fun d=>match d with|.str y=>ce n y|_=>.non) fun d hd=>by
   obtain⟨l,a,rfl⟩:=yah.mp hd;refine⟨_,rfl,?_⟩;simp[znE n (by omega),ce]
  rw[this,yay];rfl
 have b:(" ":Str).length=1:=by decide +kernel
 have a:((Txt.split x ⟨#[32]⟩).map (ce n)).length<=100000:=by rw[yae];omega
 generalize (Txt.split x ⟨#[32]⟩).map (ce n)=X at*;simp[zb8,zag,ze4,c,a,zqf,b,show x.length<=100000 by omega]
def rdF(n:Nat)(s:Str):List (List D):=(Txt.split s ⟨#[10]⟩).map fun l=>(Txt.split l ⟨#[32]⟩).map (ce n)
def zv7(h:48<=c/\c<=56):zl8 c=.int ((c-48:Nat):Int):=if_pos h
def zkl(h:ks≠[]):zhg ks=jn 10 (ks.map kL)++[10]:=by
 have:=znL (c:=10) (ps:=ks.map kL) (fun z=>h (ybT.mp z));rwa[yay]at this
def zs0(h:Ks ks):Txt.endswith (T (zhg ks)) "\n"=true/\rdS (T (zhg ks))=ks.map fD:=by
 have a:ks≠[]:=fun z=>by have:=h.ne;rw[z]at this;cases this
 have hs:L (T (zhg ks))=jn 10 (ks.map kL)++[10]:=by rw[L_T,zkl a]
 refine⟨by rw[zhv];exact(zoc _).mpr ⟨_,hs⟩,?_⟩
 have c:zfg (T (zhg ks))=ks.map fun k=>T (kL k):=by
  unfold zfg;rw[zgD hs];refine zeO (fun z=>a (ybT.mp z)) (fun p b=>?_) ?_
  ·obtain⟨k,hk,rfl⟩:=yah.mp b;rw[L_T];intro z;obtain⟨i,_,e⟩:=yah.mp z;omega
  ·rw[L_T,yay];congr 1
 unfold rdS;rw[c,yay];refine yaC fun k hk=>?_
 show(L (T (kL k))).map zl8=fD k;rw[L_T];unfold kL fD;rw[yay];refine yaC fun i hi=>?_
 have:=h.lt k hk i hi;show zl8 (48+i)=_;rw[zv7 ⟨by omega,by omega⟩,show 48+i-48=i by omega]
theorem zn3(J:x≠c):∀{ps:List (List Nat)},(∀p∈ps,x ∉ p)->x ∉ jn c ps
 |[],_=>fun z=>nomatch z|[a],h=>h a yan|a::b::r,h=>fun z=>by
  rcases ybb.mp (show x∈a++c::jn c (b::r)from z)with z|z
  ·exact h a yan z
  ·rcases yau.mp z with z|z
   ·exact J z
   ·exact zn3 J (fun p d=>h p (yal _ d)) z
def zn2(J:n<=4)(h:Fls rs)(U:∀r∈rs,∀d∈r,OkC n d):rdF n (T (flL rs))=rs:=by
 have e:rs≠[]:=fun z=>by have:=h.ne;rw[z]at this;cases this
 have f:Txt.split (T (flL rs)) ⟨#[10]⟩=rs.map fun r=>T (rL r):=by
  refine zeO (fun z=>e (ybT.mp z)) (fun p c=>?_) ?_
  ·obtain⟨r,b,rfl⟩:=yah.mp c;rw[L_T];refine zn3 (by decide) fun p c=>?_
   obtain⟨d,hd,rfl⟩:=yah.mp c;exact(zpA (h.ok r b d hd)).1
  ·rw[L_T,yay];unfold flL;congr 1
 unfold rdF;rw[f,yay]
 have:∀r∈rs,((fun l=>(Txt.split l ⟨#[32]⟩).map (ce n))∘fun r=>T (rL r)) r=id r:=fun r b=>by
  have a:=(h.row r b).1
  have e2:Txt.split (T (rL r)) ⟨#[32]⟩=r.map nT:=by
   refine zeO (fun z=>by rw[ybT.mp z]at a;cases a) (fun p c=>?_) ?_
   ·obtain⟨d,hd,rfl⟩:=yah.mp c;exact(zpA (h.ok r b d hd)).2.1
   ·rw[L_T,yay];rfl
  show(Txt.split (T (rL r)) ⟨#[32]⟩).map (ce n)=r;rw[e2,yay]
  have:∀d∈r,(ce n∘nT) d=id d:=fun d hd=>by
   show ce n (nT d)=d;unfold ce;rw[znu J (U r b d hd)];rfl
  rw[yaC this,List.map_id]
 rw[yaC this,List.map_id]
end
end S2
namespace TX
open PySem StrLaws Builtin Builtin.Str
noncomputable def Y:Str:=⟨#[10,45,45,10]⟩
noncomputable def nn(q:List Nat):Prop:=∀i,¬ (q[i]?=some 45/\q[i+1]?=some 45)
noncomputable def jy:List (List Nat)->List Nat
 |[]=>[]|[x]=>x|x::y::r=>x++[10,45,45,10]++jy (y::r)
theorem zgX:∀{c1 c2:List Nat}{a f1 f2:Nat},ChainG s sub hi a c1 f1->(∀k,f1<=k->¬ At s sub hi k)->ChainG s sub hi a c2 f2->(∀k,f2<=k->¬ At s sub hi k)->c1=c2
 |[],[],_,_,_,_,_,_,_=>rfl|[],c::r,a,f1,f2,h1,f,h2,_=>by
  have e:f1=a:=h1;subst e;exact absurd h2.2.1 (f c h2.1)
 |c::r,[],a,f1,f2,h1,_,h2,b=>by
  have e:f2=a:=h2;subst e;exact absurd h1.2.1 (b c h1.1)
 |c::r,d::t,a,f1,f2,h1,f,h2,b=>by
  have e:c=d:=by
   rcases yc4 c d with h|h|h
   ·exact absurd h1.2.1 (h2.2.2.1 c h1.1 h)
   ·exact h
   ·exact absurd h2.2.1 (h1.2.2.1 d h2.1 h)
  subst e;rw[zgX h1.2.2.2 f h2.2.2.2 b]
def zqp(h:At x Y x.length k):(L x)[k]?=some 10/\(L x)[k+1]?=some 45/\(L x)[k+2]?=some 45:=by
 have e:=h.2;rw[subAt_eq]at e;have e:=eq_of_beq e
 have g:∀i,i<4->(L x)[k+i]?=(L Y)[i]?:=fun i hi=>by
  show _=Y.cps.toList[i]?;rw[<-e,List.getElem?_take_of_lt (show i<Y.length from hi),ybF]
 exact⟨g 0 (by decide),g 1 (by decide),g 2 (by decide)⟩
def zvc(J:L x=pre++(q++post))(U:nn q)(hp:post=[]\/∃t,post=10::t)(h1:pre.length<=k)(h2:k<pre.length+q.length\/post=[]):¬ At x Y x.length k:=by
 intro h;obtain⟨_,g1,g2⟩:=zqp h;obtain⟨i,rfl⟩:∃i,k=pre.length+i:=⟨k-pre.length,by omega⟩;rw[J,yaA (by omega)]at g1 g2;rw[show pre.length+i+1-pre.length=i+1 by omega]at g1;rw[show pre.length+i+2-pre.length=i+1+1 by omega]at g2
 by_cases hi:i+1+1<q.length
 ·rw[yaF (by omega)]at g1;rw[yaF hi]at g2;exact U (i+1) ⟨g1,g2⟩
 ·rcases hp with rfl|⟨t,rfl⟩
  ·rw[yaO,yaE (by omega)]at g2;cases g2
  ·rcases h2 with h2|h2
   ·by_cases a:i+1<q.length
    ·rw[yaA (by omega),show i+1+1-q.length=0 by omega]at g2;cases g2
    ·rw[yaA (by omega),show i+1-q.length=0 by omega]at g1;cases g1
   ·cases h2
def zhb(J:L x=pre++(q++post)):strSub x pre.length (pre.length+q.length)=T q:=by
 apply zhY;show(strSub x _ _).cps.toList=_;rw[strSub_toList,L_T,show x.cps.toList=pre++(q++post)from J,List.drop_left,ybf,List.take_left]
def zvG:x.length=(L x).length:=(zeK x).symm
theorem zrc:∀(Q:List (List Nat)) (pre:List Nat) (x:Str),Q≠[]->L x=pre++jy Q->(∀q∈Q,nn q)->∃J f,ChainG x Y x.length pre.length J f/\(∀k,f<=k->¬ At x Y x.length k)/\partsFrom x 4 pre.length J=Q.map T
 |[],_,_,h,_,_=>absurd rfl h|[q],pre,x,_,e,d=>by
  have a:L x=pre++(q++[]):=by rw[yaO];exact e
  refine⟨[],pre.length,rfl,fun k hk=>zvc a (d q (.head _)) (.inl rfl) hk (.inr rfl),?_⟩;show[strSub x pre.length x.length]=[T q];rw[<-zhb a,zvG,a,yak,yaO]
 |q::b::r,pre,x,_,e,d=>by
  have a:L x=pre++(q++([10,45,45,10]++jy (b::r))):=by
   rw[e];show pre++(q++[10,45,45,10]++jy (b::r))=_;rw[ybB q]
  have c:L x=(pre++q++[10,45,45,10])++jy (b::r):=by
   rw[a];simp
  obtain⟨J,f,c1,c2,i⟩:=zrc (b::r) (pre++q++[10,45,45,10]) x (by simp) c (fun z j=>d z (.tail _ j))
  have g:(pre++q++[10,45,45,10]).length=pre.length+q.length+Y.length:=by rw[yak,yak];rfl
  rw[g]at c1 i;refine⟨(pre.length+q.length)::J,f,⟨Nat.le_add_right _ _,⟨?_,?_⟩,fun k h1 h2=>zvc a (d q (.head _)) (.inr ⟨_,rfl⟩) h1 (.inl h2),c1⟩,c2,?_⟩
  ·have:=congrArg List.length c;rw[yak,g,zeK]at this;omega
  ·rw[subAt_eq]
   have:(x.cps.toList.drop (pre.length+q.length)).take Y.length=L Y:=by
    rw[show x.cps.toList=(pre++q)++([10,45,45,10]++jy (b::r))by rw[show x.cps.toList=L x from rfl,a];simp,<-yak,List.drop_left];rfl
   rw[this];exact ybJ _
  ·show strSub x pre.length (pre.length+q.length)::partsFrom x 4 (pre.length+q.length+4) J=_;rw[zhb a];exact congrArg (T q::·) i
def zrK(hQ:Q≠[])(J:L x=jy Q)(U:∀q∈Q,nn q)(hk:(Builtin.Str.strKind x<Builtin.Str.strKind Y)=False):Txt.split x Y=Q.map T:=by
 obtain⟨a,f,c1,c2,b⟩:=zrc Q [] x hQ J U;obtain⟨d,d1,d2⟩:=occ_tight x Y (by decide);have e:=zgX d1 d2 c1 c2
 have whole:a=[]->Q.map T=[x]:=fun h=>by
  subst h;rw[<-b];show[strSub x 0 x.length]=[x];rw[sub_whole]
 unfold Txt.split;split
 ·rename_i h;rw[ycS,yaT,yaT]at h
  rcases h with h|h
  ·refine(whole ?_).symm
   cases a with
   |nil=>rfl|cons c r=>have:=c1.2.1.1;omega
  ·rw[hk]at h;exact h.elim
 ·split
  ·rename_i h;rw[e]at h;exact(whole (List.isEmpty_iff.mp h)).symm
  ·rw[e,partsBetween_eq];exact b
def zss(J:10 ∉ a):Txt.partition (T (a++10::b)) ⟨#[10]⟩=(T a,⟨#[10]⟩,T b):=by
 have c:L (T (a++10::b))=a++10::b:=L_T _
 have d:At (T (a++10::b)) ⟨#[10]⟩ (T (a++10::b)).length a.length:=by
  refine(subAt_one _ _ _).mpr ?_;show(L (T (a++10::b)))[a.length]?=some 10;rw[c,yaA (yaj _),ycI];rfl
 have f:∀k,k<a.length->¬ At (T (a++10::b)) ⟨#[10]⟩ (T (a++10::b)).length k:=fun k hk h=>by
  have h:=(subAt_one _ _ _).mp h;have h:(L (T (a++10::b)))[k]?=some 10:=h;rw[c,yaF hk]at h;exact J (ybt h)
 unfold Txt.partition
 rcases occ_head (T (a++10::b)) ⟨#[10]⟩ 1 (yaj _)with⟨e,n⟩|⟨i,r,e,h1,h2⟩
 ·exact absurd d (n _)
 ·have j:i=a.length:=by
   rcases yc4 i a.length with h|h|h
   ·exact absurd h1 (f i h)
   ·exact h
   ·exact absurd d (h2 _ h)
  rw[e];subst j
  have g:(T (a++10::b)).length=a.length+1+b.length:=by rw[<-zeK,c,yak,yap];omega
  have s1:strSub (T (a++10::b)) 0 a.length=T a:=by
   have:=zhb (x:=T (a++10::b)) (pre:=[]) (q:=a) (post:=10::b) c;rwa[ybP,yb1]at this
  have s2:strSub (T (a++10::b)) (a.length+1) (a.length+1+b.length)=T b:=by
   have:=zhb (x:=T (a++10::b)) (pre:=a++[10]) (q:=b) (post:=[]) (by rw[c];simp);rwa[yak]at this
  show(strSub _ 0 a.length,_,strSub _ (a.length+1) _)=_;rw[g,s1,s2]
end TX
namespace S2
open PySem TX
open L2 hiding D
section
variable{S:Sto}{tl:List D}{n m:Nat}
def zjA(h:Ks ks)(hi:zb0 [FlD (ks.map fD)] S=.ok (.bl true) S):zdP [.str (T (zhg ks))] S=.ok (FlD (ks.map fD)) S:=by
 obtain⟨he,j⟩:=zs0 h
 have hs:(T (zhg ks)).length<=1500:=by
  have:=zhI (f:=fun k=>kL k++[10]) (B:=5) (l:=ks) fun k hk=>by rw[yak,zkR,h.four k hk];decide
  have hle:=h.le;rw[zfq];unfold zhg;omega
 generalize T (zhg ks)=s at*;have c:=znw (s:=s);have p:=Txt.slice_le s none (some (-1))
 have n:zaD (.one 0) zbv (eFn zbz [(zaa 0)]) [none] ((Txt.split (Txt.slice s none (some (-1))) "\n").map D.str) S=.ok ((rdS s).map D.tup) S:=by
  rw[zhv];show zaD _ _ _ _ ((zfg s).map D.str) S=_
  have:=zan (tg:=.one 0) (elt:=eFn zbz [(zaa 0)]) (aj:=[none]) (S:=S) (ds:=(zfg s).map D.str) (g:=fun d=>match d with|.str y=>.tup ((L y).map zl8)|_=>.non) fun d hd=>by
   obtain⟨l,e,rfl⟩:=yah.mp hd;refine⟨_,rfl,?_⟩;simp[ziq (show l.length<=2000 by have:=c.2 l e;omega)]
  rw[this,yay];unfold rdS;rw[yay];rfl
 have i:("\n":Str).length=1:=by decide +kernel
 have e:((rdS s).map D.tup).length<=100000:=by unfold rdS;rw[yae,yae];omega
 have b:s.length<=100000:=by omega
 have a:(Txt.slice s none (some (-1))).length<=100000:=by omega
 rw[<-j]at hi ⊢;have o:FlD (rdS s)=.tup ((rdS s).map D.tup):=rfl;rw[o]at hi ⊢;have m:zsD (.int 1)=some (.int (-1)):=rfl;generalize (rdS s).map D.tup=X at*;simp[zdP,zag,ze3,he,zcn,n,e,b,a,hi,m,i]
def zn5(h:Fls rs):(flL rs).length<=200:=by
 have:=znM (c:=10) (B:=18) (l:=rs.map rL) fun a d=>by
  obtain⟨r,b,rfl⟩:=yah.mp d;exact zqH (h.row r b).2 (h.ok r b)
 have hle:=h.le;rw[yae]at this;unfold flL;omega
structure F3(tl:List D)(rs:List (List D)):Prop where
 fl:Fls rs
 oc:∀r∈rs,∀d∈r,OkC tl.length d
 isf:∀S,za7 [.tup tl,FlD rs] S=.ok (.bl true) S
def zhm(J:tl.length<=4)(h:F3 tl rs):zbN [.tup tl,.str (T (flL rs))] S=.ok (FlD rs) S:=by
 have e:=zn2 J h.fl h.oc
 have hs:(T (flL rs)).length<=1500:=by rw[zfq];have:=zn5 h.fl;omega
 have hi:=h.isf S;generalize T (flL rs)=s at*;have h0:=zfE s 10
 have i:zaD (.one 0) zbv (eFn zb8 [(zaa 1),(zaa 0)]) [none,some (false,.dic (knD tl.length))] ((Txt.split s "\n").map D.str) S=.ok ((rdF tl.length s).map D.tup) S:=by
  rw[zhv]
  have:=zan (tg:=.one 0) (elt:=eFn zb8 [(zaa 1),(zaa 0)]) (aj:=[none,some (false,.dic (knD tl.length))]) (S:=S) (ds:=(Txt.split s ⟨#[10]⟩).map D.str) (g:=fun d=>match d with|.str y=>.tup ((Txt.split y ⟨#[32]⟩).map (ce tl.length))|_=>.non) fun d hd=>by
   obtain⟨l,b,rfl⟩:=yah.mp hd;refine⟨_,rfl,?_⟩;simp[zju J (show l.length<=1500 by have:=h0.2 l b;omega)]
  rw[this,yay];unfold rdF;rw[yay];rfl
 have c:("\n":Str).length=1:=by decide +kernel
 have b:((rdF tl.length s).map D.tup).length<=100000:=by unfold rdF;rw[yae,yae];omega
 have a:s.length<=100000:=by omega
 have f:=zjv (S:=S) J;rw[<-e]at hi ⊢;have j:FlD (rdF tl.length s)=.tup ((rdF tl.length s).map D.tup):=rfl;rw[j]at hi ⊢;generalize (rdF tl.length s).map D.tup=X at*;simp[zbN,zag,zdx,f,zcn,i,b,a,hi,c,zqf]
def pq(p:Str×List (List D)):List Nat:=L p.1++10::flL p.2
noncomputable def enL(p:Str×List (List D)):List Nat:=[45,45,10]++pq p++[10]
def zyt:("--\n":Str)=T [45,45,10]:=by decide +kernel
def zqU(h:zh0 k):k.length<=5:=by rcases h with rfl|rfl|rfl<;>decide +kernel
def ztl(a b:List Nat):T a++T b=T (a++b):=zhY (by rw[zl2,L_T,L_T,L_T])
def zmW(h:S[m]?=some (alb J ds dn un))(ho:zaB ds=true)(hk:zh0 k)(hd:zav k ds=some (FlD rs))(hf:Fls rs):zbl [.ref m,.str k] S=.ok (.str (T (enL (k,rs)))) S:=by
 have f:=zcc hk h ho hd;have c:zaJ "Album" "floor_of" (.ref m) S=true:=za5 h (by decide);have e2:=zhk (S:=S) hf;have d:=zqU hk;have j:=zn5 hf;have b:("\n":Str)=T [10]:=zhv;unfold enL pq;have e:k=T (L k):=(TL k).symm
 have i:(L k).length<=5:=by rw[zeK];exact d
 dsimp only;generalize L k=a at*;subst e;generalize flL rs=fl at*;generalize FlD rs=F at*
 have g:[45,45,10].length+a.length<=100000:=by simp;omega
 have a1:3+a.length<=100000:=by omega
 have a2:a.length+1+1+1+1<=100000:=by omega
 have a3:a.length+1+1+1+1+fl.length<=100000:=by omega
 have a4:a.length+(fl.length+1)+1+1+1+1<=100000:=by omega
 simp[zbl,zag,zdB,f,c,e2,zyt,b,ztl,zfq,a1,a2,a3,a4]
end
end S2
namespace TX
open PySem
def zjE(h:45 ∉ q):nn q:=fun i z=>h (ybt z.1)
def zqT(U:nn a)(hb:nn b)(J:c≠45):nn (a++c::b):=by
 intro i ⟨h1,h2⟩
 rcases yc4 (i+1) a.length with h|h|h
 ·rw[yaF (by omega)]at h1;rw[yaF h]at h2;exact U i ⟨h1,h2⟩
 ·rw[yaA (by omega),h,ycI]at h2;exact J (Option.some.inj h2)
 ·by_cases e:i=a.length
  ·rw[yaA (by omega),e,ycI]at h1;exact J (Option.some.inj h1)
  ·rw[yaA (by omega),show i-a.length=(i-a.length-1)+1 by omega,ycT]at h1;rw[yaA (by omega),show i+1-a.length=(i-a.length-1+1)+1 by omega,ycT]at h2;exact hb _ ⟨h1,h2⟩
def zve:nn []:=fun i z=>by cases z.1
theorem zpz(J:c≠45):∀{ps:List (List Nat)},(∀p∈ps,nn p)->nn (jn c ps)
 |[],_=>zve|[x],h=>h x (.head _)|x::y::r,h=>zqT (h x (.head _)) (zpz J (ps:=y::r) fun p a=>h p (.tail _ a)) J
end TX
namespace S2
open PySem TX
open L2 hiding D
def zxU(h:OkN d):nn (L (nT d)):=by
 rcases h with rfl|⟨i,hi,rfl⟩
 ·intro j z
  have e:L (nT .non)=[45]:=by decide +kernel
  rw[e]at z
  cases j with
  |zero=>cases z.2|succ j=>cases z.1
 ·refine zjE ?_
  have:∀i,i<4->45 ∉ L (dI (i:Nat)):=by decide +kernel
  exact this i hi
def zxV(h:Fls rs):nn (flL rs):=by
 unfold flL;refine zpz (by decide) fun p a=>?_
 obtain⟨r,b,rfl⟩:=yah.mp a;unfold rL;refine zpz (by decide) fun p a=>?_
 obtain⟨d,hd,rfl⟩:=yah.mp a;exact zxU (h.ok r b d hd)
def znm(h:zh0 k):10 ∉ L k/\45 ∉ L k:=by rcases h with rfl|rfl|rfl<;>decide +kernel
def zhu(hk:zh0 p.1)(h:Fls p.2):nn (pq p):=zqT (zjE (znm hk).2) (zxV h) (by decide)
def zlD(hk:zh0 p.1):Txt.partition (T (pq p)) ⟨#[10]⟩=(p.1,⟨#[10]⟩,T (flL p.2)):=by unfold pq;rw[zss (znm hk).1,TL]
def ziB(hk:zh0 p.1)(h:Fls p.2):(pq p).length<=206:=by
 have:=zqU hk;have:=zn5 h;unfold pq;rw[yak,yap,zeK];omega
def zvd(h:Ks ks):nn (jn 10 (ks.map kL)):=by
 refine zpz (by decide) fun p a=>?_
 obtain⟨k,hk,rfl⟩:=yah.mp a;refine zjE fun z=>?_
 obtain⟨i,_,e⟩:=yah.mp z;omega
def zwq(J:ks≠[]):∀(es:List (List Nat)),zhg ks++(es.map fun q=>[45,45,10]++q++[10]).flatten=jy (jn 10 (ks.map kL)::es)++[10]:=by
 intro es;rw[zkl J];generalize jn 10 (ks.map kL)=A
 induction es generalizing A with
 |nil=>simp[jy]|cons q r a=>
  rw[yaw,ya9];have:=a q;show _=(A++[10,45,45,10]++jy (q::r))++[10];rw[ybB (A++[10,45,45,10]),<-this];simp
open PySem
def zeQ{S:Sto}{x:Ob}:(S++[x])[S.length]?=some x:=by simp
def zel{S:Sto}{x y:Ob}:(S++[x]).set S.length y=S++[y]:=by simp
def zkr{S:Sto}{T:D}(hs:∀S,zb0 [T] S=.ok (.bl true) S):zaF [.ref S.length,T] (S++[⟨"Album",[]⟩])=.ok .non (S++[alb T [] [] []]):=by
 have c:zmL "Album" "tiles" (zaa 0) (zaa 1) [some (false,.ref S.length),some (false,T)] (S++[⟨"Album",[]⟩])=.nx [some (false,.ref S.length),some (false,T)] (S++[⟨"Album",[("tiles",false,T)]⟩]):=by
  show(match(S++[(⟨"Album",[]⟩:Ob)])[S.length]? with|some ob=>_|none=>_)=_;rw[zeQ];show(if _ then Fo.nx _ ((S++[(⟨"Album",[]⟩:Ob)]).set S.length _)else _)=_;rw[if_pos (by rfl),zel];rfl
 have e2:zmM "Album" "named" 0 [some (false,.ref S.length),some (false,T)] (S++[⟨"Album",[("tiles",false,T)]⟩])=.nx [some (false,.ref S.length),some (false,T)] (S++[⟨"Album",[("tiles",false,T),("named",true,.tup [.dic []])]⟩]):=by
  show(match(S++[(⟨"Album",[("tiles",false,T)]⟩:Ob)])[S.length]? with|some ob=>_|none=>_)=_;rw[zeQ];show(if _ then Fo.nx _ ((S++[_]).set S.length _)else _)=_;rw[if_pos (by rfl),zel];rfl
 have b:zgt "Album" "done" 0 [some (false,.ref S.length),some (false,T)] (S++[⟨"Album",[("tiles",false,T),("named",true,.tup [.dic []])]⟩])=.nx [some (false,.ref S.length),some (false,T)] (S++[⟨"Album",[("tiles",false,T),("named",true,.tup [.dic []]),("done",true,.tup [.lst []])]⟩]):=by
  show(match(S++[(⟨"Album",[("tiles",false,T),("named",true,.tup [.dic []])]⟩:Ob)])[S.length]? with|some ob=>_|none=>_)=_;rw[zeQ];show(if _ then Fo.nx _ ((S++[_]).set S.length _)else _)=_;rw[if_pos (by rfl),zel];rfl
 have a:zgt "Album" "undone" 0 [some (false,.ref S.length),some (false,T)] (S++[⟨"Album",[("tiles",false,T),("named",true,.tup [.dic []]),("done",true,.tup [.lst []])]⟩])=.nx [some (false,.ref S.length),some (false,T)] (S++[alb T [] [] []]):=by
  show(match(S++[(⟨"Album",[("tiles",false,T),("named",true,.tup [.dic []]),("done",true,.tup [.lst []])]⟩:Ob)])[S.length]? with|some ob=>_|none=>_)=_;rw[zeQ];show(if _ then Fo.nx _ ((S++[_]).set S.length _)else _)=_;rw[if_pos (by rfl),zel];rfl
 simp[zaF,zag,zbW,hs,zcn,c,e2,b,a]
section
variable{S:Sto}{m:Nat}{T:D}{ds es:List (D×D)}{dn un:List D}{n:Nat}
def zmR(h:S[m]?=some (alb T ds dn un)):zbL [.ref m] S=.ok T S:=by
 simp[zbL,zag,zcK,zeJ h]
end
section
variable{S:Sto}{m:Nat}{ks:List (List Nat)}{ds:List (D×D)}{dn un tl:List D}{p q t:Str×List (List D)}
structure E3(tl:List D)(ds:List (D×D))(p:Str×List (List D)):Prop where
 nm:zh0 p.1
 fl:F3 tl p.2
 at':zav p.1 ds=some (FlD p.2)
def zoJ(ks:List (List Nat))(es:List (Str×List (List D))):List Nat:=zhg ks++(es.map enL).flatten
def zmB(h:Ks ks):(zhg ks).length<=100:=by
 have:=zhI (f:=fun k=>kL k++[10]) (B:=5) (l:=ks) fun k hk=>by rw[yak,zkR,h.four k hk];decide
 have hle:=h.le;unfold zhg;omega
def zoA(J:Ks ks)(hp:E3 tl ds p)(U:E3 tl ds q)(ht:E3 tl ds t):(zoJ ks [p,q,t]).length<=1000:=by
 have:=zmB J;have:=ziB hp.nm hp.fl.fl;have:=ziB U.nm U.fl.fl;have:=ziB ht.nm ht.fl.fl;unfold zoJ enL;simp only[yaw,ycE,ya9,List.flatten_nil,yak,yap,ybP];omega
def zhl(h:S[m]?=some (alb (FlD (ks.map fD)) ds dn un))(ho:zaB ds=true)(hl:ds.length<64)(U:Ks ks)(hs:(zek (zgu ds)).map D.str=[.str p.1,.str q.1,.str t.1])(J:E3 tl ds p)(hq:E3 tl ds q)(ht:E3 tl ds t):zcr [.ref m] S=.ok (.str (T (zoJ ks [p,q,t]))) S:=by
 have n:=zmR h;have e2:=zis h ho hl;rw[hs]at e2;have f:zaJ "Album" "set_of" (.ref m) S=true:=za5 h (by decide);have e:zaJ "Album" "names" (.ref m) S=true:=za5 h (by decide);have l:=zjs (S:=S) U
 have b:∀{p},E3 tl ds p->eFn zbl [(zaa 1),(zaa 0)] [some (false,.str p.1),some (false,.ref m)] S=.ok (.str (T (enL p))) S:=fun J=>by simp[zmW h ho J.nm J.at' J.fl.fl]
 have k:zaD (.one 0) zbv (eFn zbl [(zaa 1),(zaa 0)]) [none,some (false,.ref m)] [.str p.1,.str q.1,.str t.1] S=.ok ([T (enL p),T (enL q),T (enL t)].map D.str) S:=ze8 rfl (b J) (ze8 rfl (b hq) (ze8 rfl (b ht) rfl));have c:=zoA U J hq ht;have es':=zdM (fun x:Str=>x) [T (enL p),T (enL q),T (enL t)];rw[List.map_id']at es';have a:=fun {p} (J:E3 tl ds p)=>ziB J.nm J.fl.fl
 have j:JoinOk ("":Str) [T (enL p),T (enL q),T (enL t)]=true:=zf0 (by simp) (fun x d=>by
  have:=a J;have:=a hq;have:=a ht;simp only[yau,ya8,ycR]at d
  rcases d with rfl|rfl|rfl<;>rw[zfq]<;>unfold enL<;>simp only[yak,yap,ybP]<;>omega) (by decide +kernel)
 have i:Txt.join ("":Str) [T (enL p),T (enL q),T (enL t)]=T ([p,q,t].map enL).flatten:=zhY (by
  rw[zf1,zs9,zhB,L_T];show[L (T (enL p)),L (T (enL q)),L (T (enL t))].flatten=_
  rw[L_T,L_T,L_T];rfl)
 unfold zoJ at c ⊢;rw[yak]at c;generalize ([p,q,t].map enL).flatten=A at*;generalize zhg ks=B at*;generalize FlD (ks.map fD)=C at*;have o:[T (enL p),T (enL q),T (enL t)].length=3:=rfl;generalize [T (enL p),T (enL q),T (enL t)]=X at*
 have g:(X.map D.str).length<=100000:=by rw[yae];omega
 generalize X.map D.str=Y at*;simp[zcr,zag,zdD,n,e2,l,f,e,k,es',j,i,show B.length+A.length<=100000 by omega,g,zfq,ztl]
def zhO(hn:tl.length<=4)(J:E3 tl ds p)(hl:leD (.str p.1) (.str last)=some (.bl false))(hu:zaB U=true)(a3:U.length<=1000):
  zbe [some (false,.tup tl),some (false,l),some (true,.dic U),some (false,.str last),some (false,.str (T (pq p))),y5,y6] S=.nx [some (false,.tup tl),some (false,l),some (true,.dic (putS p.1 (FlD p.2) U)),some (false,.str p.1),some (false,.str (T (pq p))),some (false,.tup [.str p.1,.str ⟨#[10]⟩,.str (T (flL p.2))]),some (false,.str p.1)] S:=by
 have a:=zhm (S:=S) hn J.fl;have e:=zeU (S:=S) J.nm
 have ep:zni (T (pq p)) (.str "\n")=some (.tup [.str p.1,.str ⟨#[10]⟩,.str (T (flL p.2))]):=by
  rw[zhv];show(if !((⟨#[10]⟩:Str).length==0)&&zax (T (pq p)).length then some (D.tup [.str (Txt.partition (T (pq p)) ⟨#[10]⟩).1,.str (Txt.partition (T (pq p)) ⟨#[10]⟩).2.1,.str (Txt.partition (T (pq p)) ⟨#[10]⟩).2.2])else none)=_;rw[zlD J.nm,if_pos];rw[yab];exact⟨rfl,yaz (by rw[zfq];have:=ziB J.nm J.fl.fl;omega)⟩
 have d0:ixD (.tup [.str p.1,.str ⟨#[10]⟩,.str (T (flL p.2))]) (.int 0)=some (.str p.1):=za1 _ 0;have d2:ixD (.tup [.str p.1,.str ⟨#[10]⟩,.str (T (flL p.2))]) (.int 2)=some (.str (T (flL p.2))):=za1 _ 2;generalize D.tup [.str p.1,.str ⟨#[10]⟩,.str (T (flL p.2))]=P at*;generalize T (flL p.2)=fl at*;generalize FlD p.2=F at*;generalize T (pq p)=x at*;generalize p.1=k at*
 have b:∀ρ:Env,ρ[2]?=some (some (true,.dic U))->ρ[0]?=some (some (false,.tup tl))->ρ[5]?=some (some (false,P))->ρ[6]?=some (some (false,.str k))->zgs 2 (zaa 6) (eFn zbN [(zaa 0),(zae ixD (zaf 5) (zab (.int 2)))]) ρ S=.nx (ρ.set 2 (some (true,.dic (putS k F U)))) S:=
  fun ρ h2 h0 d c=>zuG (S1:=S) h2 hu (by omega) (by simp[h0,d,d2,a]) (by rw[ztx,c];rfl)
 simp[zbe,ep,d0,e,zcn,hl,b]
def zfK(J:tl.length<=4)(hp:E3 tl ds p)(hq:E3 tl ds q)(ht:E3 tl ds t)(h1:leD (.str p.1) (.str "")=some (.bl false))(h2:leD (.str q.1) (.str p.1)=some (.bl false))(h3:leD (.str t.1) (.str q.1)=some (.bl false))
  (hU:putS q.1 (FlD q.2) [(.str p.1,FlD p.2)]=[(.str p.1,FlD p.2),(.str q.1,FlD q.2)]) (o1:zaB [((.str p.1:D),FlD p.2)]=true) (o2:zaB [((.str p.1:D),FlD p.2),(.str q.1,FlD q.2)]=true):
  zaH [.tup tl,.lst [.str (T (pq p)),.str (T (pq q)),.str (T (pq t))]] S=.ok (.dic (putS t.1 (FlD t.2) [(.str p.1,FlD p.2),(.str q.1,FlD q.2)])) S:=by
 have e:zfr (.one 4) zbe [.str (T (pq p)),.str (T (pq q)),.str (T (pq t))] [some (false,.tup tl),some (false,.lst [.str (T (pq p)),.str (T (pq q)),.str (T (pq t))]),some (true,.dic []),some (false,.str ""),none,none,none] S=.nx [some (false,.tup tl),some (false,.lst [.str (T (pq p)),.str (T (pq q)),.str (T (pq t))]),some (true,.dic (putS t.1 (FlD t.2) [(.str p.1,FlD p.2),(.str q.1,FlD q.2)])),some (false,.str t.1),some (false,.str (T (pq t))),some (false,.tup [.str t.1,.str ⟨#[10]⟩,.str (T (flL t.2))]),some (false,.str t.1)] S:=by
  rw[zf8 rfl (zhO J hp h1 rfl (by decide))];rw[zf8 rfl (zhO (U:=[(.str p.1,FlD p.2)]) J hq h2 o1 (by simp)),hU];rw[zf8 rfl (zhO J ht h3 o2 (by simp))];rfl
 generalize [D.str (T (pq p)),.str (T (pq q)),.str (T (pq t))]=X at*;generalize putS t.1 (FlD t.2) [(.str p.1,FlD p.2),(.str q.1,FlD q.2)]=U at*;simp[zaH,zag,zcH,e]
end
section
variable{S:Sto}{ks:List (List Nat)}{ds:List (D×D)}{tl:List D}{p q t:Str×List (List D)}
def zvt(x:Str):(Builtin.Str.strKind x<Builtin.Str.strKind Y)=False:=by
 have h:Builtin.Str.strKind Y=1:=by decide +kernel
 rw[h];unfold Builtin.Str.strKind;refine eq_false ?_;split
 ·omega
 ·split<;>omega
def zAo:("\n--\n":Str)=Y:=by decide +kernel
def zhh(J:Ks ks)(hX:FlD (ks.map fD)=.tup tl)(hi:∀S,zb0 [.tup tl] S=.ok (.bl true) S)(hp:E3 tl ds p)(hq:E3 tl ds q)(ht:E3 tl ds t)
  (a3:∀S,zaH [.tup tl,.lst [.str (T (pq p)),.str (T (pq q)),.str (T (pq t))]] S=.ok (.dic U) S):
  zco [.str (T (zoJ ks [p,q,t]))] S=.ok (.ref S.length) (S++[alb (.tup tl) U [] []]):=by
 have d:ks≠[]:=fun z=>by have:=J.ne;rw[z]at this;cases this
 have eL:L (T (zoJ ks [p,q,t]))=jy (jn 10 (ks.map kL)::[p,q,t].map pq)++[10]:=by rw[L_T,<-zwq d];rfl
 have hlen:(T (zoJ ks [p,q,t])).length<=1000:=by rw[zfq];exact zoA J hp hq ht
 have h:Txt.endswith (T (zoJ ks [p,q,t])) "\n"=true:=by rw[zhv];exact(zoc _).mpr ⟨_,eL⟩
 have g:=zgD eL;generalize T (zoJ ks [p,q,t])=s at*
 have i:Txt.split (T (jy (jn 10 (ks.map kL)::[p,q,t].map pq))) Y=_:=zrK (by simp) (L_T _) (fun r m=>by
  simp only[yaw,ycE,yau,ya8,ycR]at m
  rcases m with rfl|rfl|rfl|rfl
  ·exact zvd J
  ·exact zhu hp.nm hp.fl.fl
  ·exact zhu hq.nm hq.fl.fl
  ·exact zhu ht.nm ht.fl.fl) (zvt _)
 have u:(T (jy (jn 10 (ks.map kL)::[p,q,t].map pq))).length<=1000:=by
  rw[<-g];exact yas (Txt.slice_le s none (some (-1))) hlen
 generalize T (jy (jn 10 (ks.map kL)::[p,q,t].map pq))=z at*;have c:=zjA (S:=S) J (by rw[hX];exact hi S);rw[hX]at c
 have y:T (jn 10 (ks.map kL))++T [10]=T (zhg ks):=by rw[ztl,zkl d]
 have f:=zmB J
 have k:(T (jn 10 (ks.map kL))).length+1<=100000:=by
  rw[zfq];rw[zkl d,yak]at f;omega
 have e:=zkr (S:=S) (T:=.tup tl) hi;have w:=zeJ (S:=S++[alb (.tup tl) [] [] []]) (n:=S.length) zeQ;have v:zsD (.int 1)=some (.int (-1)):=rfl
 have l:zej z (.str "\n--\n")=some (.lst [.str (T (jn 10 (ks.map kL))),.str (T (pq p)),.str (T (pq q)),.str (T (pq t))]):=by
  rw[zAo];show(if !(Y.length==0)&&zax z.length then some (D.lst ((Txt.split z Y).map D.str))else none)=_;rw[i,if_pos]
  ·rfl
  ·rw[yab];exact⟨rfl,yaz (by omega)⟩
 generalize T (jn 10 (ks.map kL))=a at*;generalize T (zhg ks)=b at*;have c1:zol [D.str a,.str (T (pq p)),.str (T (pq q)),.str (T (pq t))] (some 1) none=[.str (T (pq p)),.str (T (pq q)),.str (T (pq t))]:=rfl
 have eN:∀ρ:Env,ρ[2]?=some (some (false,.ref S.length))->ρ[1]?=some (some (false,.lst [.str a,.str (T (pq p)),.str (T (pq q)),.str (T (pq t))]))->zlo "Album" "named" 2 (eFn zaH [(zof "Album" "tiles" (zaa 2)),(eSl (zaf 1) (some (zab (.int 1))) none)]) ρ (S++[alb (.tup tl) [] [] []])=.nx ρ (S++[alb (.tup tl) U [] []]):=fun ρ h2 h1=>by
  have A:eFn zaH [(zof "Album" "tiles" (zaa 2)),(eSl (zaf 1) (some (zab (.int 1))) none)] ρ (S++[alb (.tup tl) [] [] []])=.ok (.dic U) (S++[alb (.tup tl) [] [] []]):=by
   simp[h2,h1,w,c1,a3]
  unfold zlo;rw[A];show zmJ _ _ _ _ _ _=_;unfold zmJ;rw[h2];dsimp only;rw[zeQ];dsimp only;rw[if_pos (by rfl),zel];rfl
 have o:("\n":Str)=T [10]:=zhv
 have j:s.length<=100000:=by omega
 generalize S++[alb (.tup tl) U [] []]=S2 at*;generalize S++[alb (.tup tl) [] [] []]=S1 at*;have it:zeA "str" (.str s)=some (.bl true):=rfl;have d0:ixD (.lst [.str a,.str (T (pq p)),.str (T (pq q)),.str (T (pq t))]) (.int 0)=some (.str a):=za1 _ 0
 have x:zb6 (.str a) (.str "\n")=some (.str b):=by
  rw[o];show(if zax (a.length+(T [10]).length)then some (D.str (a++T [10]))else none)=_;rw[if_pos (show zax _=true from yaz (by rw[zfq];exact k)),y]
 generalize D.lst [.str a,.str (T (pq p)),.str (T (pq q)),.str (T (pq t))]=P at*;simp[zco,zag,zdy,it,h,zcn,j,g,v,l,d0,x,c,e,eN]
end
section
variable{S:Sto}{m n:Nat}{T:D}{ds es es':List (D×D)}{dn un:List D}
theorem zs8{l:List D}:eqD (.int l.length) (.int 0)=some (.bl (decide (l=[]))):=by
 rw[zw3];congr 2
 cases l with
 |nil=>rfl|cons a l=>simp;omega
def znA{t:D}{l:List D}:(l++[t])[(l++[t]).length-1]?=some t:=by simp
def zo8(h:S[m]?=some (alb T ds (dn++[.tup [.str w,.str k,old,new]]) un))(ho:zaB ds=true)(U:ds.length<=1000)(J:un.length<=1000):
  zcu [.ref m] S=.ok (.str w) (S.set m (alb T (nmd k old ds) dn (un++[.tup [.str w,.str k,old,new]]))):=by
 have d0:ixD (.tup [.str w,.str k,old,new]) (.int 0)=some (.str w):=za1 _ 0;have d1:ixD (.tup [.str w,.str k,old,new]) (.int 1)=some (.str k):=za1 _ 1;have d2:ixD (.tup [.str w,.str k,old,new]) (.int 2)=some old:=za1 _ 2;generalize D.tup [.str w,.str k,old,new]=t at*
 have f:∀ρ:Env,ρ[0]?=some (some (false,.ref m))->zlQ "Album" "done" 0 ρ S=.ok (.int ((dn++[t]).length:Nat)) S:=fun ρ h0=>by unfold zlQ;rw[zjW h0 h]
 have e2:∀ρ:Env,ρ[0]?=some (some (false,.ref m))->zlP "Album" "done" 0 ρ S=.ok t (S.set m (alb T ds dn un)):=fun ρ h0=>by
  unfold zlP;rw[zjW h0 h];dsimp only;rw[znA];dsimp only;rw[if_pos zdK,List.dropLast_concat,zqr]
 have h1:(S.set m (alb T ds dn un))[m]?=some (alb T ds dn un):=zij h
 have e:∀ρ:Env,ρ[0]?=some (some (false,.ref m))->ρ[1]?=some (some (false,t))->zlr "Album" "undone" 0 (zbF 1) ρ (S.set m (alb T ds dn un))=.nx ρ (S.set m (alb T ds dn (un++[t]))):=fun ρ h0 ht=>by
  unfold zlr;rw[zox h0 h1,qv ht];dsimp only;rw[if_pos (by rw[zdK,show zax un.length=true from yaz (by omega)];rfl),zlZ,List.set_set]
 have h2:(S.set m (alb T ds dn (un++[t])))[m]?=some (alb T ds dn (un++[t])):=zij h;have c:=zkp (k:=k) (d:=old) h2 ho (by omega);have b:zaJ "Album" "name_floor" (.ref m) (S.set m (alb T ds dn (un++[t])))=true:=za5 h2 (by decide);have a:=zs8 (l:=dn++[t]);rw[yaB (by simp)]at a;generalize (((dn++[t]).length:Nat):Int)=Z at*;simp[zcu,zag,zdH,f,a,e2,e,d0,d1,d2,b,c]
end
def zx1(ht:Tiles most ts)(hm:most<=16):∃ks,Ks ks/\ks.length=ts.length/\FlD (ks.map fD)=.tup (ts.map zaj):=by
 refine⟨ts.map (·.map Int.toNat),?_,yae _,?_⟩
 ·have a:=ht.ne;have b:=ht.le;refine⟨by rw[yae];exact a,by rw[yae];omega,fun k h=>?_,fun k h i hi=>?_⟩
  ·obtain⟨t,d,rfl⟩:=yah.mp h;rw[yae];exact ht.four t d
  ·obtain⟨t,d,rfl⟩:=yah.mp h;obtain⟨c,e,rfl⟩:=yah.mp hi;have:=ht.col t d c e;omega
 ·unfold FlD;rw[yay,yay];congr 1;refine yaC fun t h=>?_
  show D.tup ((t.map Int.toNat).map fun i:Nat=>D.int i)=D.tup (t.map D.int);rw[yay];congr 1;refine yaC fun c e=>?_
  have:=ht.col t h c e;show D.int ((c.toNat:Nat):Int)=D.int c;rw[ybS this.1]
def zym(J:tl.length<=4)(r1:1<=r)(r3:r<=6)(c1:1<=c)(c2:c<=6)(hg:InN tl.length g):F3 tl ((List.range r).map fun i=>zdo c (g i)):=by
 have oc:∀r'∈(List.range r).map (fun i=>zdo c (g i)),∀d∈r',OkC tl.length d:=fun r' a d hd=>by
  obtain⟨i,_,rfl⟩:=yah.mp a;obtain⟨j,_,rfl⟩:=yah.mp hd
  cases b:g i j with
  |none=>exact .inl rfl|some x=>
   have:=hg i j x b;exact .inr ⟨x.toNat,by omega,by rw[ybS this.1];rfl⟩
 refine⟨⟨by simp;exact r1,by simp;exact r3,fun r' a=>?_,fun r' a d hd=>(oc r' a d hd).to J⟩,oc,fun S=>by rw[<-zkY];exact zjw r1 r3 c1 c2 hg⟩;obtain⟨i,_,rfl⟩:=yah.mp a;rw[zfz];exact⟨c1,c2⟩
end S2
namespace S2.L98
open PySem
open L2 hiding D
noncomputable abbrev Sl:=Option (Bool×S2.D)
def zur:(zcX c f).pl=true:=by
 show S2.D.pls (zdo c f)=true;rw[D.pls_iff];intro d hd;obtain⟨j,_,rfl⟩:=yah.mp hd
 cases f j<;>rfl
def zmN:(zcX c f).fit (n+1)=true:=by
 show S2.D.fits n (zdo c f)=true;rw[D.fits_iff];intro d hd;obtain⟨j,_,rfl⟩:=yah.mp hd
 cases f j<;>simp[oD]
def zq6:(flr r c g).pl=true:=by
 show S2.D.pls (zaX r c g)=true;rw[D.pls_iff];intro d hd;obtain⟨j,_,rfl⟩:=yah.mp hd;exact zur
def zn6:(flr r c g).fit (n+2)=true:=by
 show S2.D.fits (n+1) (zaX r c g)=true;rw[D.fits_iff];intro d hd;obtain⟨j,_,rfl⟩:=yah.mp hd;exact zmN
def zrn:(S2.D.lst (tlD f)).pl=true:=by
 show S2.D.pls (tlD f)=true;rw[D.pls_iff];intro d hd;obtain⟨n,_,rfl⟩:=yah.mp hd;rfl
def zmf:(S2.D.lst (tlD f)).fit 9=true:=by
 show S2.D.fits 8 (tlD f)=true;rw[D.fits_iff];intro d hd;obtain⟨n,_,rfl⟩:=yah.mp hd;simp
structure Hy(ts:Z2)(r c c':Nat)(g h:Gf):Prop where
 ht:Tiles 4 ts
 r1:1<=r
 r3:r<=3
 c1:1<=c
 c2:c<=2
 d1:1<=c'
 d2:c'<=2
 hg:InN ts.length g
 hh:InN ts.length h
section
variable{ts:Z2}{r c c':Nat}{g h:Gf}{a0 a2 a6 a7 a8 a9 a10 a11 a12:Sl}
def st(T:List S2.D)(ds:List (S2.D×S2.D))(dn un:List S2.D):Sto:=[alb (.tup T) ds dn un]
noncomputable abbrev eL(a0:Sl)(T:List S2.D)(a2:Sl)(A B M:S2.D)(a6 a7 a8 a9 a10 a11 a12:Sl):Env:=[a0,some (false,.tup T),a2,some (false,A),some (false,B),some (false,M),a6,a7,a8,a9,a10,a11,a12,none]
def ztE(H:Hy ts r c c' g h):∃S',zg6 (eL a0 (ts.map zaj) a2 (flr r c g) (flr r c' h) (flr r (c+c') (jnG c g h)) a6 a7 a8 a9 a10 a11 a12) []=.rt (.bl true) S':=by
 obtain⟨ht,r1,r3,c1,c2,d1,d2,hg,hh⟩:=H;have j:∀S,zb0 [.tup (ts.map zaj)] S=.ok (.bl true) S:=fun S=>zmU ht (by decide)
 have I:zaF [.ref 0,.tup (ts.map zaj)] [⟨"Album",[]⟩]=.ok .non [alb (.tup (ts.map zaj)) [] [] []]:=zkr (S:=[]) (T:=.tup (ts.map zaj)) j;have O:∀S,zvH true (flr r c g) (flr r c' h) S=.ok (flr r (c+c') (jnG c g h)) S:=fun S=>zfL r1 (by omega) (by omega) (by omega)
 have Z:neD (flr r (c+c') (jnG c g h)) (flr r (c+c') (jnG c g h))=some (.bl false):=zhy zq6 zn6;have eA:eqD (flr r c g) (flr r c g)=some (.bl true):=zs6 zq6 zn6;obtain⟨ks,l,a3,C⟩:=zx1 ht (by decide)
 have s:(ts.map zaj).length<=4:=by rw[yae];have:=ht.le;omega
 have N:(ts.map zaj).length=ts.length:=yae _;rw[<-N]at hg hh;have G:=zym s r1 (by omega) c1 (by omega) hg;have F:=zym s r1 (by omega) d1 (by omega) hh;have E:=zym (g:=jnG c g h) (c:=c+c') s r1 (by omega) (by omega) (by omega) (hg.jnG hh);simp only[zkY]at*;generalize (List.range r).map (fun i=>zdo (c+c') (jnG c g h i))=M at*;generalize (List.range r).map (fun i=>zdo c (g i))=A at*;generalize (List.range r).map (fun i=>zdo c' (h i))=B at*;generalize ts.map zaj=T at*;clear hg hh N ht;have k1:zh0 "one":=.inl rfl;have k2:zh0 "other":=.inr (.inl rfl);have k3:zh0 "both":=.inr (.inr rfl);generalize a:[((.str "one":S2.D),FlD A),(.str "other",FlD B)]=d2;generalize e:[((.str "one":S2.D),FlD A),(.str "other",FlD B),(.str "both",FlD M)]=f
 have y:zaB d2=true:=by rw[<-a];kernel_rfl
 have K:zaB f=true:=by rw[<-e];kernel_rfl
 have L:zav "one" d2=some (FlD A):=by rw[<-a];kernel_rfl
 have l2:zav "other" d2=some (FlD B):=by rw[<-a];kernel_rfl
 have l4:zav "both" d2=none:=by rw[<-a];kernel_rfl
 have z2:d2.length=2:=by rw[<-a];rfl
 have z3:f.length=3:=by rw[<-e];rfl
 have U:putS "both" (FlD M) d2=f:=by rw[<-a,<-e];kernel_rfl
 have R:nmd "both" .non f=d2:=by rw[<-a,<-e];kernel_rfl
 have sn:(zek (zgu d2)).map S2.D.str=[.str "one",.str "other"]:=by rw[<-a];kernel_rfl
 have Q:(zek (zgu f)).map S2.D.str=[.str "both",.str "one",.str "other"]:=by rw[<-e];kernel_rfl
 have en:eqD (.lst [.str "one",.str "other"]) (.lst [.str "one",.str "other"])=some (.bl true):=by kernel_rfl
 have ew:eqD (.str "join") (.str "join")=some (.bl true):=by kernel_rfl
 have u:E3 T f ("both",M):=⟨k3,E,by rw[<-e];kernel_rfl⟩;have t:E3 T f ("one",A):=⟨k1,G,by rw[<-e];kernel_rfl⟩;have v:E3 T f ("other",B):=⟨k2,F,by rw[<-e];kernel_rfl⟩;generalize h1:[S2.D.tup [.str "put",.str "one",.non,FlD A]]=x
 have Y:zbE [.ref 0,.str "one",FlD A] (st T [] [] [])=.ok (.bl false) (st T [(.str "one",FlD A)] x []):=by rw[<-h1];exact zmS (n:=0) (ds:=[]) (dn:=[]) k1 rfl rfl rfl (by decide) (by decide) (G.isf _)
 have P:x.length=1:=by rw[<-h1];rfl
 have p2:=zmS (S:=st T [(.str "one",FlD A)] x []) (n:=0) k2 (d:=FlD B) rfl rfl (by kernel_rfl) (by simp) (by omega) (F.isf _);rw[show zav "other" [(.str "one",FlD A)]=none by kernel_rfl,show putS "other" (FlD B) [(.str "one",FlD A)]=d2 by rw[<-a];kernel_rfl]at p2;have m1:zaJ "Album" "put" (.ref 0) (st T [] [] [])=true:=za5 rfl (by decide);have m2:zaJ "Album" "put" (.ref 0) (st T [(.str "one",FlD A)] x [])=true:=za5 rfl (by decide);generalize z:x++[.tup [.str "put",.str "other",(none:Option S2.D).getD .non,FlD B]]=dn at p2
 have hz:dn.length=2:=by rw[<-z,yak,P];rfl
 replace p2:_=Out.ok (S2.D.bl false) (st T d2 dn []):=p2;have p3:=zo5 (S:=st T d2 dn []) (n:=0) (k:="both") (k1:="one") (k2:="other") (b:=true) k3 k1 k2 rfl rfl y (by omega) (by omega) L l2 (O _) (E.isf _);rw[l4,U]at p3;replace p3:_=Out.ok (FlD M) (st T f (dn++[.tup [.str "join",.str "both",.non,FlD M]]) []):=p3;have m3:zaJ "Album" "join" (.ref 0) (st T d2 dn [])=true:=za5 rfl (by decide);have X:=zhl (S:=st T f (dn++[.tup [.str "join",.str "both",.non,FlD M]]) []) (m:=0) (ks:=ks) (by rw[C];rfl) K (by omega) l Q u t v;have q:=zhh (S:=st T f (dn++[.tup [.str "join",.str "both",.non,FlD M]]) []) l C j u t v fun S=>zfK s u t v (by kernel_rfl) (by kernel_rfl) (by kernel_rfl) (by kernel_rfl) (by kernel_rfl) (by kernel_rfl)
 generalize o:alb (.tup T) (putS "other" (FlD B) [(.str "both",FlD M),(.str "one",FlD A)]) [] []=al at q
 have s1:(st T f (dn++[.tup [.str "join",.str "both",.non,FlD M]]) []++[al])[1]?=some (alb (.tup T) (putS "other" (FlD B) [(.str "both",FlD M),(.str "one",FlD A)]) [] []):=by rw[o];rfl
 have W:=zcc (d:=FlD M) (n:=1) k3 s1 (by kernel_rfl) (by kernel_rfl);have m6:zaJ "Album" "floor_of" (.ref 1) _=true:=za5 s1 (by decide);have p:=zo8 (S:=st T f (dn++[.tup [.str "join",.str "both",.non,FlD M]]) []++[al]) (m:=0) (w:="join") (k:="both") (old:=.non) (new:=FlD M) rfl K (by omega) (by simp);have m7:zaJ "Album" "back" (.ref 0) (st T f (dn++[.tup [.str "join",.str "both",.non,FlD M]]) []++[al])=true:=za5 (n:=0) rfl (by decide);rw[R]at p;replace p:_=Out.ok (S2.D.str "join") (st T d2 dn [.tup [.str "join",.str "both",.non,FlD M]]++[al]):=p;clear s1 o;generalize hu:[S2.D.tup [.str "join",.str "both",.non,FlD M]]=un at*;have J:=zis (S:=st T d2 dn un++[al]) (m:=0) rfl y (by omega);rw[sn]at J;have V:=zo3 (S:=st T d2 dn un++[al]) (n:=0) (k:="one") k1 rfl y (by omega) (by omega) L;have m8:zaJ "Album" "names" (.ref 0) (st T d2 dn un++[al])=true:=za5 (n:=0) rfl (by decide);have m9:zaJ "Album" "take" (.ref 0) (st T d2 dn un++[al])=true:=za5 (n:=0) rfl (by decide);replace I:_=Out.ok S2.D.non (st T [] [] []):=I;replace q:_=Out.ok (S2.D.ref 1) _:=q;generalize st T d2 dn un++[al]=S5 at*;generalize st T f (dn++un) []++[al]=S4 at*;generalize st T f (dn++un) []=S3 at*;generalize st T d2 dn []=S2 at*;generalize st T [(.str "one",FlD A)] x []=S1 at*;generalize st T [] [] []=S0 at*;generalize S5.set 0 _=S6 at*;refine⟨S6,?_⟩;generalize TX.T (zoJ ks [("both",M),("one",A),("other",B)])=tx at*;clear C j u t v G F E O a e h1;generalize FlD A=A at*;generalize FlD B=B at*;generalize FlD M=M at*;simp[zg6,zka,zj9,zj8,zj7,I,Y,p2,p3,X,q,W,p,J,V,m1,m2,m3,m6,m7,m8,m9,Z,ew,en,eA]
def lt4(H:Hy ts r c c' g h):ts.length<=4:=by have:=H.ht.le;omega
def in4(J:ts.length<=4)(hg:InN ts.length g):∀i j x,g i j=some x->0<=x/\x<4:=fun i j x e=>by have:=hg i j x e;omega
def ztF(H:Hy ts r c c' g h):∃S',zg7 (eL a0 (ts.map zaj) (some (false,.int r)) (flr r c g) (flr r c' h) (flr r (c+c') (jnG c g h)) a6 a7 a8 a9 a10 a11 a12) []=.rt (.bl true) S':=by
 obtain⟨S',e⟩:=ztE (a0:=a0) (a2:=some (false,.int r)) (a6:=a6) (a7:=a7) (a8:=a8) (a9:=a9) (a10:=a10) (a11:=a11) (a12:=a12) H;refine⟨S',?_⟩;obtain⟨ht,r1,r3,c1,c2,d1,d2,hg,hh⟩:=H;have q:=zlz (c:=c) (g:=g) (S:=[]) r1 (by omega);have p:zcg [flr (r+r) c (bl r g g)] []=.ok (.lst (zew (zaX (r+r) c (bl r g g)))) []:=zhi (fun d hd=>by obtain⟨i,_,rfl⟩:=yah.mp hd;exact zmN) (by unfold zaX;simp;omega);have l:zhZ (.tup [.int 0,.int r]) (.lst (zew (zaX (r+r) c (bl r g g))))=some (.bl false):=zhw rfl zkO.1 (by simp) (zkO.2 7) (zsN r1);have o:=zc2 (r:=r+r) (c:=c) (pr:=r) (pc:=c) (g:=bl r g g) (h:=g) (S:=[]) (by omega) (by omega) (by omega) r1 (by omega) c1 (by omega);have k:=zh1 (r:=r+r) (c:=c) (pr:=r) (pc:=c) (g:=bl r g g) (h:=g) (i:=0) (j:=0) (by omega) (by omega) (by omega) (by omega) fun a b m hb=>.inl (by unfold bl;rw[if_pos (by omega),yb1,yb1])
 have f:=zh1 (r:=r+r) (c:=c) (pr:=r) (pc:=c) (g:=bl r g g) (h:=g) (i:=r) (j:=0) (by omega) (by omega) (by omega) (by omega) fun a b m hb=>.inl (by unfold bl;rw[if_neg (by omega),ybf,yb1])
 have w:=ztB k f (fun z=>by unfold plD at z;injection z with z;injection z with z;injection z with z;omega)
 have lt:ltD (.int ((List.filter (zld (r+r) c r c (bl r g g) g) (zbt (r+r) c)).length:Nat)) (.int 2)=some (.bl false):=by rw[zAE,yaB (by omega)]
 clear k f w;generalize List.filter (zld (r+r) c r c (bl r g g) g) (zbt (r+r) c)=W at*;generalize zew (zaX (r+r) c (bl r g g))=K at*;generalize flr (r+r) c (bl r g g)=BB at*;generalize flr r (c+c') (jnG c g h)=M at*;generalize flr r c g=A at*;generalize flr r c' h=B at*;generalize n:((W.length:Nat):Int)=Z at*;simp[zg7,q,p,l,o,n,lt,e]
def ztD(h:∀k,zd3 r c g k=f k):zmh (zet r c g)=tlD f:=by
 rw[ztC];congr 1;funext k;rw[zk4,h]
def zeR(J:ts.length<=4)(hg:InN ts.length g)(r1:1<=r)(r3:r<=100)(c3:c<=100):zcf [flr r c g] S=.ok (.lst (tlD (zd3 r c g))) S:=by
 rw[zmP r1 r3 c3 (in4 J hg),ztD fun _=>rfl]
def ztG(H:Hy ts r c c' g h):∃S',zg8 (eL a0 (ts.map zaj) (some (false,.int r)) (flr r c g) (flr r c' h) (flr r (c+c') (jnG c g h)) a6 a7 a8 a9 a10 a11 a12) []=.rt (.bl true) S':=by
 obtain⟨S',e⟩:=ztF (a0:=a0) (a6:=a6) (a7:=a7) (a8:=a8) (a9:=a9) (a10:=a10) (a11:=a11) (a12:=a12) H;refine⟨S',?_⟩;have a:=lt4 H;obtain⟨ht,r1,r3,c1,c2,d1,d2,hg,hh⟩:=H;have hm:InN ts.length (jnG c g h):=hg.jnG hh;have b:=zo4 (g:=g) (h:=g) (S:=[]) (c:=c) r1 (by omega) (by omega);rw[zst]at b;have t1:=zeR (S:=[]) a hg r1 (by omega) (show c<=100 by omega);have t2:=zeR (S:=[]) a hm r1 (by omega) (show c+c'<=100 by omega);have m:=zlu (g:=jnG c g h) (S:=[]) (c:=c+c') r1 (by omega) (by omega);have t3:=zeR (S:=[]) (r:=c+c') (c:=r) (g:=fun i j=>jnG c g h (r-1-j) i) a (fun i j x z=>hm _ _ x z) (by omega) (by omega) (by omega);rw[show zd3 (c+c') r (fun i j=>jnG c g h (r-1-j) i)=zd3 r (c+c') (jnG c g h)from funext fun k=>zlV]at t3;have l:=zhy (zrn (f:=zd3 r c g)) zmf;have d:=zhy (zrn (f:=zd3 r (c+c') (jnG c g h))) zmf;generalize tlD (zd3 r (c+c') (jnG c g h))=K at*;generalize tlD (zd3 r c g)=J at*;generalize flr (c+c') r (fun i j=>jnG c g h (r-1-j) i)=U at*;generalize flr r (c+c') (jnG c g h)=M at*;generalize flr r c g=A at*;generalize flr r c' h=B at*;simp[zg8,b,t1,t2,m,t3,l,d,e]
def ztH(H:Hy ts r c c' g h)(h1:a+U<=x)(h2:b+J<=y)(h3:x+y<=(a+b)+(U+J)+r)(s1:a<=1000/\b<=1000)(s2:U<=1000/\J<=1000):
  ∃S',zg9 (eL a0 (ts.map zaj) (some (false,.int r)) (flr r c g) (flr r c' h) (flr r (c+c') (jnG c g h)) a6 a7 a8 (some (false,.int x)) (some (false,.int y)) (some (false,.tup [.int a,.int b])) (some (false,.tup [.int U,.int J]))) []=.rt (.bl true) S':=by
 obtain⟨S',e⟩:=ztG (a0:=a0) (a6:=a6) (a7:=a7) (a8:=a8) (a9:=some (false,.int x)) (a10:=some (false,.int y)) (a11:=some (false,.tup [.int a,.int b])) (a12:=some (false,.tup [.int U,.int J])) H;refine⟨S',?_⟩
 have sm:∀a b:Nat,a<=1000/\b<=1000->zto [.tup [.int a,.int b]]=some (.int ((a:Int)+b)):=fun a b z=>by
  show(if decide (2<=1000)&&[(a:Int),(b:Int)].all (fun n=>decide (0<=n/\n<=1000000))then some (S2.D.int [(a:Int),(b:Int)].sum)else none)=_;rw[if_pos (by simp;omega)];simp
 have f:=sm a b s1;have d:=sm U J s2;generalize flr r (c+c') (jnG c g h)=M at*;generalize flr r c g=A at*;generalize flr r c' h=B at*;simp[zg9,f,d,e,show ¬ (x:Int)<(a:Int)+U by omega,show ¬ (y:Int)<(b:Int)+J by omega,show ¬ (a:Int)+b+(U+J)+r<(x:Int)+y by omega]
end
section
variable{ts:Z2}{r c c':Nat}{g h:Gf}{a0 a2 a6 a7 a8 a9 a10 a11 a12:Sl}
def zqD(hf:∀i,f i<=B):sm n f<=n*B:=by
 induction n with
 |zero=>exact yaR _|succ n a=>rw[zaW,ycD];have:=hf n;omega
def zk7(J:∀o,φ o<=1)(r3:r<=3)(c2:c<=4):zcN φ ts r c g<=1000:=by
 unfold zcN
 have:=zqD (n:=r) (B:=8) (f:=fun i=>sm c fun j=>φ (eaM ts r c g i j)+φ (soM ts r c g i j)) fun i=>by
  have:=zqD (n:=c) (B:=2) (f:=fun j=>φ (eaM ts r c g i j)+φ (soM ts r c g i j)) fun j=>by
   have:=J (eaM ts r c g i j);have:=J (soM ts r c g i j);omega
  show sm c _<=8;omega
 omega
def zAk(o:Option Bool):alN o<=1:=by cases o with|none=>decide|some b=>cases b<;>decide
def zzj(o:Option Bool):unN o<=1:=by cases o with|none=>decide|some b=>cases b<;>decide
def tok(H:Hy ts r c c' g h):TOk ts:=⟨H.ht.four,by have:=lt4 H;omega⟩
def zxa(H:Hy ts r c c' g h):∃S',zjl (eL a0 (ts.map zaj) (some (false,.int r)) (flr r c g) (flr r c' h) (flr r (c+c') (jnG c g h)) a6 a7 a8 none none none none) []=.rt (.bl true) S':=by
 have H':=H;have ht:=tok H;obtain⟨_,r1,r3,c1,c2,d1,d2,hg,hh⟩:=H';have d:=zfJ (c:=c) (S:=[]) ht hg r1 (by omega) (by omega);have e2:=zfJ (c:=c') (S:=[]) ht hh r1 (by omega) (by omega);have b:=zfJ (g:=jnG c g h) (c:=c+c') (S:=[]) ht (hg.jnG hh) r1 (by omega) (by omega)
 have key:zcN alN ts r c g+zcN alN ts r c' h<=zcN alN ts r (c+c') (jnG c g h)/\zcN unN ts r c g+zcN unN ts r c' h<=zcN unN ts r (c+c') (jnG c g h)/\zcN alN ts r (c+c') (jnG c g h)+zcN unN ts r (c+c') (jnG c g h)<=(zcN alN ts r c g+zcN unN ts r c g)+(zcN alN ts r c' h+zcN unN ts r c' h)+r:=by
  obtain⟨a,rfl⟩:∃a,c=a+1:=⟨c-1,by omega⟩;exact zo0
 obtain⟨S',e⟩:=ztH (a0:=a0) (a6:=a6) (a7:=a7) (a8:=a8) H key.1 key.2.1 key.2.2 ⟨zk7 zAk r3 (by omega),zk7 zzj r3 (by omega)⟩ ⟨zk7 zAk r3 (by omega),zk7 zzj r3 (by omega)⟩;refine⟨S',?_⟩;clear key;generalize flr r (c+c') (jnG c g h)=M at*;generalize flr r c g=A at*;generalize flr r c' h=B at*;generalize zcN alN ts r (c+c') (jnG c g h)=m at*;generalize zcN unN ts r (c+c') (jnG c g h)=l at*;generalize zcN alN ts r c g=k at*;generalize zcN unN ts r c g=j at*;generalize zcN alN ts r c' h=i at*;generalize zcN unN ts r c' h=f at*;generalize ts.map zaj=T at*;simp[zjl,zkb,d,e2,b,e]
def zxb(H:Hy ts r c c' g h):∃S',zjm (eL a0 (ts.map zaj) (some (false,.int r)) (flr r c g) (flr r c' h) (flr r (c+c') (jnG c g h)) a6 a7 a8 none none none none) []=.rt (.bl true) S':=by
 obtain⟨S',e⟩:=zxa (a0:=a0) (a6:=a6) (a7:=a7) (a8:=a8) H;refine⟨S',?_⟩;obtain⟨ht,r1,r3,c1,c2,d1,d2,hg,hh⟩:=H;have es:=zbn (c:=c) (g:=g) (S:=[]) r1;have i1:ixD (.tup [.int r,.int c]) (.int 1)=some (.int c):=za1 _ 1;have o:=zc2 (r:=r) (c:=c+c') (pr:=r) (pc:=c') (g:=jnG c g h) (h:=h) (S:=[]) r1 (by omega) (by omega) r1 (by omega) d1 (by omega);have l:=zh1 (r:=r) (c:=c+c') (pr:=r) (pc:=c') (g:=jnG c g h) (h:=h) (i:=0) (j:=c) (by omega) (by omega) (by omega) (by omega) fun a b n hb=>.inl (by unfold jnG;rw[if_neg (by omega),ybf,yb1])
 have f:=zhw (d:=plD 0 c) rfl zjC (by unfold plD;simp) zhJ l;have p:=zlx (S:=[]) r1 (by omega);have ev:=zc2 (r:=r) (c:=c+c') (pr:=r) (pc:=1) (g:=jnG c g h) (h:=fun _ _=>none) (S:=[]) r1 (by omega) (by omega) r1 (by omega) (by omega) (by omega);have k:=zh1 (r:=r) (c:=c+c') (pr:=r) (pc:=1) (g:=jnG c g h) (h:=fun _ _=>none) (i:=0) (j:=0) (by omega) (by omega) (by omega) (by omega) fun a b n hb=>.inr rfl
 have m:=zs7 zjC zhJ (List.ne_nil_of_mem k);clear l k;replace f:zhZ (.tup [.int 0,.int c]) (.lst ((zbt r (c+c')).filter (zld r (c+c') r c' (jnG c g h) h)))=some (.bl false):=f;generalize (zbt r (c+c')).filter (zld r (c+c') r c' (jnG c g h) h)=W at*;generalize (zbt r (c+c')).filter (zld r (c+c') r 1 (jnG c g h) fun _ _=>none)=X at*;generalize flr r 1 (fun _ _=>none)=E at*;generalize flr r (c+c') (jnG c g h)=M at*;generalize flr r c g=A at*;generalize flr r c' h=B at*;simp[zjm,es,i1,o,f,p,ev,m,e]
def zxc(H:Hy ts r c c' g h)(T:Tel (fun x=>zd3 r c g x+zd3 r c' h x) qs)(hf:∀k,zd3 r c g k+zd3 r c' h k≠0->0<=k/\k<4):∃S',zjn (eL a0 (ts.map zaj) (some (false,.int r)) (flr r c g) (flr r c' h) (flr r (c+c') (jnG c g h)) (some (true,.dic (dsI qs))) a7 a8 none none none none) []=.rt (.bl true) S':=by
 obtain⟨S',e⟩:=zxb (a0:=a0) (a6:=some (true,.dic (dsI qs))) (a7:=a7) (a8:=a8) H;refine⟨S',?_⟩;have p:=lt4 H;obtain⟨ht,r1,r3,c1,c2,d1,d2,hg,hh⟩:=H;have t2:=zeR (S:=[]) (g:=jnG c g h) p (hg.jnG hh) r1 (by omega) (show c+c'<=100 by omega);have l:=T.srt hf;rw[show(fun x=>zd3 r c g x+zd3 r c' h x)=zd3 r (c+c') (jnG c g h)from funext fun k=>zv8.symm]at l;have o:=zhy (zrn (f:=zd3 r (c+c') (jnG c g h))) zmf;have q:=zc2 (r:=r) (c:=c+c') (pr:=r) (pc:=c) (g:=jnG c g h) (h:=g) (S:=[]) r1 (by omega) (by omega) r1 (by omega) c1 (by omega);have n:=zh1 (r:=r) (c:=c+c') (pr:=r) (pc:=c) (g:=jnG c g h) (h:=g) (i:=0) (j:=0) (by omega) (by omega) (by omega) (by omega) fun a b s hb=>.inl (by unfold jnG;rw[if_pos (by omega),yb1,yb1])
 have m:=zhw (d:=plD 0 0) rfl zjC (by unfold plD;simp) zhJ n;replace m:zhZ (.tup [.int 0,.int 0]) (.lst ((zbt r (c+c')).filter (zld r (c+c') r c (jnG c g h) g)))=some (.bl false):=m;clear n T hf;generalize tlD (zd3 r (c+c') (jnG c g h))=K at*;generalize (zbt r (c+c')).filter (zld r (c+c') r c (jnG c g h) g)=W at*;generalize flr r (c+c') (jnG c g h)=M at*;generalize flr r c g=A at*;generalize flr r c' h=B at*;simp[zjn,t2,zvY,zgr,zhq,l,o,q,m,e]
def zrb(J:ts.length<=4)(hg:InN ts.length g):∀k,zd3 r c g k≠0->0<=k/\k<4:=fun k hk=>by
 rw[<-zk4]at hk;unfold zgx at hk;obtain⟨x,a,e⟩:=List.countP_pos_iff.mp (Nat.pos_of_ne_zero hk);have e:=yag e;subst e;obtain⟨i,j,_,_,e⟩:=zkG.mp a;exact in4 J hg i j x e
def zxd(H:Hy ts r c c' g h):∃S',zjo [a0,some (false,.tup (ts.map zaj)),some (false,.int r),some (false,flr r c g),some (false,flr r c' h),none,none,none,none,none,none,none,none,none] []=.rt (.bl true) S':=by
 have a:=lt4 H;have H':=H;obtain⟨ht,r1,r3,c1,c2,d1,d2,hg,hh⟩:=H';have o:=zfL (c:=c) (c':=c') (g:=g) (h:=h) (S:=[]) r1 (by omega) (by omega) (by omega);have t1:=zeR (S:=[]) a hg r1 (by omega) (show c<=100 by omega);have t2:=zeR (S:=[]) a hh r1 (by omega) (show c'<=100 by omega);have b:=zrb (r:=r) (c:=c) a hg;have d:=zrb (r:=r) (c:=c') a hh;obtain⟨ps,n,T⟩:=zp9 b;obtain⟨qs,l,j,i,m⟩:=zpJ d b T (S:=[]) (a0:=a0) (a1:=some (false,.tup (ts.map zaj))) (a2:=some (false,.int r)) (a3:=some (false,flr r c g)) (a4:=some (false,flr r c' h)) (a5:=some (false,flr r (c+c') (jnG c g h)))
 have f:∀k,zd3 r c g k+zd3 r c' h k≠0->0<=k/\k<4:=fun k hk=>by
  by_cases z:zd3 r c g k=0
  ·exact d k (by omega)
  ·exact b k z
 obtain⟨S',e⟩:=zxc (a0:=a0) (a7:=l) (a8:=j) H i f;refine⟨S',?_⟩;clear T i b d f;generalize tlD (zd3 r c g)=J at*;generalize tlD (zd3 r c' h)=K at*;generalize flr r (c+c') (jnG c g h)=M at*;generalize flr r c g=A at*;generalize flr r c' h=B at*;simp[zjo,zmi,o,t1,t2,n,m,e]
end
theorem zpI(l:List Int)(J:l.length<=63):∃S,zuy [.scr l] []=.ok (.bl true) S:=by
 obtain⟨ts,ht,n⟩:=zmO (l:=l) (at':=200) (most:=4) (S:=[]) (by decide) (by decide) (by decide);have t:=zch l 1 (many:=3) (by decide);have s:=zch l 2 (many:=2) (by decide);have q:=zch l 3 (many:=2) (by decide);have p:=zbZ (l:=l) (k:=1) (many:=3) (S:=[]) (by decide) (by decide);have e2:=zbZ (l:=l) (k:=2) (many:=2) (S:=[]) (by decide) (by decide);have o:=zbZ (l:=l) (k:=3) (many:=2) (S:=[]) (by decide) (by decide);obtain⟨r,d⟩:=ya7 (show 0<=1+zci l 1 3 by omega);obtain⟨c,f⟩:=ya7 (show 0<=1+zci l 2 2 by omega);obtain⟨c',b⟩:=ya7 (show 0<=1+zci l 3 2 by omega)
 have a:0<((ts.map zaj).length:Int)*2:=by have:=ht.ne;rw[yae];omega
 have f1:=ziu (l:=l) (at':=300) (m:=2) (ts:=ts.map zaj) (r:=r) (c:=c) (S:=[]) (by decide) a (by decide) (by omega) (by omega) (by omega) (by omega);have f2:=ziu (l:=l) (at':=400) (m:=2) (ts:=ts.map zaj) (r:=r) (c:=c') (S:=[]) (by decide) a (by decide) (by omega) (by omega) (by omega) (by omega);rw[yaQ,yaQ]at f1 f2
 have g1:InN ts.length (zkI l 300 (ts.map zaj).length 2):=fun i j x e=>by have:=zqS a x e;rwa[yae]at this
 have g2:InN ts.length (zkI l 400 (ts.map zaj).length 2):=fun i j x e=>by have:=zqS a x e;rwa[yae]at this
 generalize zkI l 300 (ts.map zaj).length 2=g at*;generalize zkI l 400 (ts.map zaj).length 2=h at*;obtain⟨S',e⟩:=zxd (a0:=some (false,.scr l)) (ts:=ts) (r:=r) (c:=c) (c':=c') (g:=g) (h:=h) ⟨ht,by omega,by omega,by omega,by omega,by omega,by omega,g1,g2⟩;refine⟨S',?_⟩;clear a;generalize ts.map zaj=T at*;generalize flr r c g=A at*;generalize flr r c' h=B at*;simp[zuy,zag,zs4,zmm,zml,zmk,zmj,n,p,e2,o,d,f,b,f1,f2,e]
end S2.L98
namespace S2
open PySem PySem.Spec PyProof.Rows L2
structure XA(K:PySem.W.Frag)(x:Str)(e:Addr):Prop where
 n:PySem.W.nsIn K mainGlobals x=some (some (.ref e))
 x:PySem.W.excIn K e bmV "ValueError.__new__"=true
def scB(n:Nat)(N:List Str)(sc:Scope):Bool:=(match sc.kind with|.function=>true|_=>false)&&!sc.isCoroutine&&!sc.isGenerator&&decide N.Nodup&&decide ((N.take n).length=n)&&decide (∀x∈N.take n,sc.names.lookup x=some .local\/sc.names.lookup x=some .cell)&&decide (∀y∈sc.names,y.2≠.free)
def zkm(h:scB n N sc=true):FnScope N (N.take n) sc/\(N.take n).length=n:=by
 unfold scB at h;simp only[yab,yaT,yaJ]at h;obtain⟨⟨⟨⟨⟨⟨h1,h2⟩,e⟩,d⟩,a⟩,c⟩,b⟩:=h;exact⟨⟨by split at h1;(· assumption);(· cases h1),h2,e,d,by rw[a],c,b⟩,a⟩
section
variable{cl:Cf}{T:Tab}{mg:Z6}{base h:Heap}{k:Nat}{F:Fn3}{f:Fs}{x:Str}{st:Stmt}
def ag(g:GOk cl (Gn T F) cl.P cl.wo cl.K mg base k)(X:cl.K.In h)(G:h.Ns mainGlobals mg)(p:GFn cl.K x st)(n:Nat)(N:List Str)(own:Bool)(r:Rn)(f:Fs)(b:BB x x st (N.take n))(s:scB n N (zaL st)=true)(e:r=zaT N.length own f)(d:zi2 (Gn T F) own N st=some f):GOk cl (Gn T (F.fn x ⟨n,own,r⟩)) cl.P cl.wo cl.K mg base (k+1):=by
 obtain⟨S,l⟩:=zkm s;obtain⟨c,a,p⟩:=p.ex;obtain⟨fd,U,B,kp,_⟩:=p.un b;have z:=zpZ U S g rfl rfl rfl d;rw[l,<-e]at z;exact GOk.add g (ya0 X G a) kp B z
def am(g:GOk cl (Gn T F) cl.P cl.wo cl.K mg base k)(J:Cls cl.K (cl c))(p:MFn cl.K (cl c) x q st)(n:Nat)(N:List Str)(own:Bool)(r:Rn)(f:Fs)(b:BB x q st (N.take n))(s:scB n N (zaL st)=true)(e:r=zaT N.length own f)(d:zi2 (Gn T (F.at c)) own N st=some f):GOk cl (Gn T (F.mt x c ⟨n,own,r⟩)) cl.P cl.wo cl.K mg base (k+1):=by
 obtain⟨S,l⟩:=zkm s;obtain⟨h,a,p⟩:=p.ex;obtain⟨fd,U,B,kp,i⟩:=p.un b;have z:=zpZ U S (g.at c) rfl rfl rfl d;rw[l,<-e]at z;exact GOk.addM (g.up (yb3 _)) J ⟨a,i,kp⟩ B z
def ak(g:GOk cl (Gn T F) cl.P cl.wo cl.K mg base k)(X:cl.K.In h)(G:h.Ns mainGlobals mg)(ny:PySem.W.nsIn cl.K mainGlobals c=some (some (.ref (cl c))))(mk:PySem.W.makesIn cl.K (cl c)=true)(J:PySem.W.keepIn cl.K (.ref (cl c))=true)(p:MFn cl.K (cl c) "__init__" q st)(n:Nat)(N:List Str)(r:Rn)(f:Fs)(b:BB "__init__" q st (N.take n))(s:scB n N (zaL st)=true)(e:r=zaT N.length false f)(d:zi2 (Gn T (F.at c)) false N st=some f):GOk cl (Gn T (F.cls c [] ⟨n,false,r⟩)) cl.P cl.wo cl.K mg base (k+2):=by
 obtain⟨S,l⟩:=zkm s;obtain⟨j,a,p⟩:=p.ex;obtain⟨fd,U,B,kp,i⟩:=p.un b;have z:=zpZ U S (g.at c) rfl rfl rfl d;rw[l,<-e]at z;exact GOk.addK (k':=k+1) (dvs:=[]) (g.up (Nat.le_add_right k 2)) (yaj _) (ya0 X G ny) ⟨mk,a,i,J⟩ B B .nil (fun _=>.nil) z
end
end S2
namespace M98
open PySem L2 S2 S2.L98
noncomputable def top(i:Nat):Stmt:=PySem.Challenge.pw_floorfits_k98_whole_joined_tallies.main.body.getD i (.Pass ⟨0,0,0,0⟩)
noncomputable def T:Tab:=⟨[("MOST_COLOUR",.int 8),("MOST_TILES",.int 16),("MOST_SIDE",.int 6),("NORTH",.int 0),("EAST",.int 1),("SOUTH",.int 2),("WEST",.int 3),("FIGURES",.str "012345678"),("BARE",.str "-"),("UNREAD",.str "?"),("MOST_LETTERS",.int 6)],["isinstance","int","bool","tuple","str","len","range","all","sum","max","zip","reversed","sorted","set","dict","ValueError"],["FloorError","Unlike","Nothing","NoText","NoName"],[("Unlike","FloorError"),("NoText","FloorError"),("NoName","FloorError"),("Nothing","FloorError")],[],[("Album","tiles"),("Album","named"),("Album","done"),("Album","undone")],["named"],["known","named"]⟩
noncomputable def F0:Fn3:=⟨"Album",[],[],[]⟩
def gm{K:PySem.W.Frag}{x:Str}{st:Stmt}{f:Addr}{oc kV U pm cd ct:Value}{J an:Option Addr}{sl:Array (Option Value)}(a:PySem.W.nsIn K mainGlobals x=some (some (.ref f)))(l:K.lookup f=some ⟨oc,J,.func (PySem.W.fnOf x x (zcL st) (zbX st) (zaL st) .none kV U pm an cd ct),sl⟩)(c:PySem.W.codeIn K cd x=true)(k:PySem.W.keepIn K (.ref f)=true)(i:PySem.W.isFn K (.ref f)=true):GFn K x st:=⟨f,a,oc,J,kV,U,pm,an,cd,ct,sl,l,c,k,i⟩
def mm{K:PySem.W.Frag}{x q:Str}{st:Stmt}{f:Addr}{oc kV U pm cd ct:Value}{J an:Option Addr}{sl:Array (Option Value)}{C:Addr}(a:PySem.W.findIn K (.ref C) x=some (some (.ref f)))(l:K.lookup f=some ⟨oc,J,.func (PySem.W.fnOf x q (zcL st) (zbX st) (zaL st) .none kV U pm an cd ct),sl⟩)(c:PySem.W.codeIn K cd q=true)(k:PySem.W.keepIn K (.ref f)=true)(i:PySem.W.isFn K (.ref f)=true):MFn K C x q st:=⟨f,a,oc,J,kV,U,pm,an,cd,ct,sl,l,c,k,i⟩
def all_mk{l:PySem.W.OpenLaw}{w:PySem.World}{K:PySem.W.Frag}{h:Heap}{mg:Z6}{fa ae:Addr}(X:K.In h)(G:h.Ns mainGlobals mg)(bF:mg "law"=some (.ref fa))
  {ah ab:Option Addr}{af:Array (Option Value)}{ai a4 a5 a3 U aa:Value}
  {J:Addr}
  (nyAlbum:PySem.W.nsIn K mainGlobals "Album"=some (some (.ref J))) (pgAlbum:PySem.W.plainGet K J Str.empty=true) (hdAlbum:PySem.W.hasDictIn K J=true) (poAlbum:PySem.W.plainOver K J=true) (saAlbum:PySem.W.findIn K (.ref J) "__setattr__"=some (some (.builtin "object.__setattr__"))) (mkAlbum:PySem.W.makesIn K J=true) (kpAlbum:PySem.W.keepIn K (.ref J)=true)
  (naAlbumtiles:PySem.W.findIn K (.ref J) "tiles"=some none)
  (naAlbumnamed:PySem.W.findIn K (.ref J) "named"=some none)
  (naAlbumdone:PySem.W.findIn K (.ref J) "done"=some none)
  (naAlbumundone:PySem.W.findIn K (.ref J) "undone"=some none)
  (a70:PySem.W.nsIn K mainGlobals "law"=some (some (.ref ae)))
  (l70:K.lookup ae=some ⟨ai,ah,.func (PySem.W.fnOf "law" "law" (zcL (top 86)) (zbX (top 86)) (zaL (top 86)) .none a4 a5 a3 ab U aa),af⟩) (c70:PySem.W.codeIn K U "law"=true) (k70:PySem.W.keepIn K (.ref ae)=true)
  (zz:∀x∈T.blt,PySem.W.nsIn K mainGlobals x=some none)
  {bO:Tok} (gl1:PySem.W.nsIn K mainGlobals "MOST_COLOUR"=some (some (.int 8 bO)))
  {bN:Tok} (gl2:PySem.W.nsIn K mainGlobals "MOST_TILES"=some (some (.int 16 bN)))
  {bM:Tok} (gl3:PySem.W.nsIn K mainGlobals "MOST_SIDE"=some (some (.int 6 bM)))
  {bL:Tok} (gl4:PySem.W.nsIn K mainGlobals "NORTH"=some (some (.int 0 bL)))
  {bK:Tok} (gl5:PySem.W.nsIn K mainGlobals "EAST"=some (some (.int 1 bK)))
  {bJ:Tok} (gl6:PySem.W.nsIn K mainGlobals "SOUTH"=some (some (.int 2 bJ)))
  {bI:Tok} (gl7:PySem.W.nsIn K mainGlobals "WEST"=some (some (.int 3 bI)))
  {bH:Tok} (gl8:PySem.W.nsIn K mainGlobals "FIGURES"=some (some (.str "012345678" bH)))
  {bG:Tok} (gl9:PySem.W.nsIn K mainGlobals "BARE"=some (some (.str "-" bG)))
  {ao:Tok} (gl10:PySem.W.nsIn K mainGlobals "UNREAD"=some (some (.str "?" ao)))
  {aj:Tok} (gl11:PySem.W.nsIn K mainGlobals "MOST_LETTERS"=some (some (.int 6 aj)))
  {e0 e1 e2 e3 e4:Addr}
  (n0:XA K "FloorError" e0)
  (n1:XA K "Unlike" e1)
  (n2:XA K "Nothing" e2)
  (n3:XA K "NoText" e3)
  (n4:XA K "NoName" e4)
  {cC:Value}{cG:Option Addr}{aw:ClassData}{cy:Array (Option Value)} (lk1:K.lookup e1=some ⟨cC,cG,.cls aw,cy⟩) (mr1:aw.mro.contains (.ref e0)=true)
  {cB:Value}{cF:Option Addr}{av:ClassData}{cx:Array (Option Value)} (lk2:K.lookup e2=some ⟨cB,cF,.cls av,cx⟩) (mr2:av.mro.contains (.ref e0)=true)
  {cA:Value}{cE:Option Addr}{au:ClassData}{cw:Array (Option Value)} (lk3:K.lookup e3=some ⟨cA,cE,.cls au,cw⟩) (mr3:au.mro.contains (.ref e0)=true)
  {cz:Value}{cD:Option Addr}{aq:ClassData}{cv:Array (Option Value)} (lk4:K.lookup e4=some ⟨cz,cD,.cls aq,cv⟩) (mr4:aq.mro.contains (.ref e0)=true)
  (p1:GFn K "is_whole" (top 15)) (p2:GFn K "is_tuple_of" (top 16)) (p3:GFn K "is_colour" (top 17)) (p4:GFn K "is_tile" (top 18)) (p5:GFn K "is_set" (top 19)) (p6:GFn K "has_number" (top 20)) (p7:GFn K "may_lie" (top 21)) (p8:GFn K "is_row" (top 22)) (p9:GFn K "is_floor" (top 23)) (bE:GFn K "empty" (top 24)) (bD:GFn K "size_of" (top 25)) (bC:GFn K "places_of" (top 26)) (bB:GFn K "is_row_like" (top 27)) (bA:GFn K "is_like" (top 28)) (bz:GFn K "refuse_unlike" (top 29)) (bx:GFn K "number_at" (top 30)) (bw:GFn K "laid_places" (top 31)) (bu:GFn K "numbers_on" (top 32)) (bt:GFn K "has_tiles_of" (top 33)) (br:GFn K "has_place" (top 34)) (bq:GFn K "edge_at" (top 35)) (bp:GFn K "colours_east" (top 36)) (bo:GFn K "colours_south" (top 37)) (bj:GFn K "column_from_south" (top 39)) (bh:GFn K "turned_floor" (top 40)) (bg:GFn K "beside" (top 41)) (bf:GFn K "below" (top 42)) (bc:GFn K "stretch" (top 43)) (bb:GFn K "part" (top 44)) (ba:GFn K "counted" (top 46)) (b9:GFn K "tally" (top 47)) (b8:GFn K "meetings" (top 48)) (b7:GFn K "seams" (top 49)) (b6:GFn K "like_rows" (top 50)) (b5:GFn K "is_window" (top 51)) (b4:GFn K "windows" (top 52)) (b3:GFn K "tile_text" (top 57)) (b2:GFn K "set_text" (top 58)) (b1:GFn K "number_text" (top 59)) (b0:GFn K "row_text" (top 60)) (aZ:GFn K "floor_text" (top 61)) (aY:GFn K "colour_by" (top 62)) (aX:GFn K "read_tile" (top 63)) (aW:GFn K "read_set" (top 64)) (aV:GFn K "numbers_by_text" (top 65)) (aU:GFn K "read_row" (top 66)) (aT:GFn K "read_floor" (top 67)) (aS:GFn K "is_name" (top 70)) (aR:GFn K "refuse_no_name" (top 71)) (aQ:MFn K J "__init__" "Album.__init__" (inC 0 (top 72))) (aP:MFn K J "name_floor" "Album.name_floor" (inC 1 (top 72))) (aO:MFn K J "do" "Album.do" (inC 2 (top 72))) (aN:MFn K J "put" "Album.put" (inC 3 (top 72))) (aM:MFn K J "floor_of" "Album.floor_of" (inC 4 (top 72))) (aL:MFn K J "take" "Album.take" (inC 5 (top 72))) (aK:MFn K J "join" "Album.join" (inC 6 (top 72))) (aJ:MFn K J "names" "Album.names" (inC 7 (top 72))) (aI:MFn K J "set_of" "Album.set_of" (inC 8 (top 72))) (aH:MFn K J "back" "Album.back" (inC 9 (top 72))) (aG:GFn K "entry_text" (top 73)) (aF:GFn K "album_text" (top 74)) (aE:GFn K "read_entries" (top 75)) (aD:GFn K "read_album" (top 76)) (aC:GFn K "row_over" (top 78)) (aB:GFn K "over" (top 79)) (aA:GFn K "_law_cell" (top 81)) (az:GFn K "_law_pick" (top 82)) (ay:GFn K "_law_tiles" (top 83)) (ax:GFn K "_law_floor" (top 84))
  : ∃fd:FuncData,(∀(s:Shared) (v:Value),BindsTo s fd ⟨[v],[]⟩ [("_law_script",v)])/\∀base:Heap,K.In base->base.Ns mainGlobals mg->FnOk l.prog w K mg base (CXE l.prog w) 71 fa fd ["_law_script"] (S2.zoV K):=by
 have e:=bF.symm.trans (ya0 X G a70);cases e;have b:Cls K J:=⟨pgAlbum,hdAlbum,poAlbum,saAlbum⟩;refine⟨PySem.W.fnOf "law" "law" (zcL (top 86)) (zbX (top 86)) (zaL (top 86)) .none a4 a5 a3 ab U aa,fun s v=>.of_eq rfl,fun base _ _=>?_⟩
 let cl:Cf:=⟨fun x=>(([("FloorError",e0),("Unlike",e1),("Nothing",e2),("NoText",e3),("NoName",e4),("Album",J)]:List (Str×Addr)).lookup x).getD 0,K,l.prog,w,fun a=>none⟩
 have g0:GOk cl (Gn T F0) cl.P cl.wo cl.K mg base 0:=GOk.at (zB6 (cl:=cl) (zaA ⟨.int 8,_,ya0 X G gl1,⟨_,rfl⟩,fun _=>.int _⟩ (zaA ⟨.int 16,_,ya0 X G gl2,⟨_,rfl⟩,fun _=>.int _⟩ (zaA ⟨.int 6,_,ya0 X G gl3,⟨_,rfl⟩,fun _=>.int _⟩ (zaA ⟨.int 0,_,ya0 X G gl4,⟨_,rfl⟩,fun _=>.int _⟩ (zaA ⟨.int 1,_,ya0 X G gl5,⟨_,rfl⟩,fun _=>.int _⟩ (zaA ⟨.int 2,_,ya0 X G gl6,⟨_,rfl⟩,fun _=>.int _⟩ (zaA ⟨.int 3,_,ya0 X G gl7,⟨_,rfl⟩,fun _=>.int _⟩ (zaA ⟨.str "012345678",_,ya0 X G gl8,⟨_,rfl⟩,fun _=>.str _⟩ (zaA ⟨.str "-",_,ya0 X G gl9,⟨_,rfl⟩,fun _=>.str _⟩ (zaA ⟨.str "?",_,ya0 X G gl10,⟨_,rfl⟩,fun _=>.str _⟩ (zaA ⟨.int 6,_,ya0 X G gl11,⟨_,rfl⟩,fun _=>.int _⟩ zgR))))))))))) (fun x h=>PySem.W.mg_none_of X G (zz x h)) (zaA ⟨ya0 X G n0.n,n0.x⟩ (zaA ⟨ya0 X G n1.n,n1.x⟩ (zaA ⟨ya0 X G n2.n,n2.x⟩ (zaA ⟨ya0 X G n3.n,n3.x⟩ (zaA ⟨ya0 X G n4.n,n4.x⟩ zgR))))) (zaA ⟨⟨_,_,n1.x⟩,_,_,_,_,lk1,mr1⟩ (zaA ⟨⟨_,_,n3.x⟩,_,_,_,_,lk3,mr3⟩ (zaA ⟨⟨_,_,n4.x⟩,_,_,_,_,lk4,mr4⟩ (zaA ⟨⟨_,_,n2.x⟩,_,_,_,_,lk2,mr2⟩ zgR)))) zgR (zaA ⟨b,naAlbumtiles⟩ (zaA ⟨b,naAlbumnamed⟩ (zaA ⟨b,naAlbumdone⟩ (zaA ⟨b,naAlbumundone⟩ zgR))))) "Album";have g1:=ag g0 X G p1 1 ["thing"] false zaO zdX (fun _ _ _ _ _ _=>bb1 fun _=>rfl) (by kernel_rfl) rfl (by kernel_rfl);have g2:=ag g1 X G p2 3 ["thing","least","most"] false zak zb3 (fun _ _ _ _ _ _=>bb3 fun _ _ _=>rfl) (by kernel_rfl) rfl (by kernel_rfl);have g3:=ag g2 X G p3 1 ["thing"] false zc4 zed (fun _ _ _ _ _ _=>bb1 fun _=>rfl) (by kernel_rfl) rfl (by kernel_rfl);have g4:=ag g3 X G p4 1 ["thing"] false zds zge (fun _ _ _ _ _ _=>bb1 fun _=>rfl) (by kernel_rfl) rfl (by kernel_rfl);have g5:=ag g4 X G p5 1 ["thing"] false zb0 zhK (fun _ _ _ _ _ _=>bb1 fun _=>rfl) (by kernel_rfl) rfl (by kernel_rfl);have g6:=ag g5 X G p6 2 ["tiles","thing"] false zbk zcB (fun _ _ _ _ _ _=>bb2 fun _ _=>rfl) (by kernel_rfl) rfl (by kernel_rfl);have g7:=ag g6 X G p7 2 ["tiles","thing"] false zcS zeB (fun _ _ _ _ _ _=>bb2 fun _ _=>rfl) (by kernel_rfl) rfl (by kernel_rfl);have g8:=ag g7 X G p8 2 ["tiles","thing"] false zer zhL (fun _ _ _ _ _ _=>bb2 fun _ _=>rfl) (by kernel_rfl) rfl (by kernel_rfl);have g9:=ag g8 X G p9 2 ["tiles","thing"] false za7 ze6 (fun _ _ _ _ _ _=>bb2 fun _ _=>rfl) (by kernel_rfl) rfl (by kernel_rfl);have cu:=ag g9 X G bE 2 ["rows","columns"] false zho zjM (fun _ _ _ _ _ _=>bb2 fun _ _=>rfl) (by kernel_rfl) rfl (by kernel_rfl);have cq:=ag cu X G bD 1 ["floor","columns"] false zaN zgd (fun _ _ _ _ _ _=>bb1 fun _=>rfl) (by kernel_rfl) rfl (by kernel_rfl);have cm:=ag cq X G bC 1 ["floor","size","places","row","column"] true zbA zea (fun _ _ _ _ _ _=>bb1 fun _=>rfl) (by kernel_rfl) rfl (by kernel_rfl);have ck:=ag cm X G bB 2 ["row","thing"] false zbp zdc (fun _ _ _ _ _ _=>bb2 fun _ _=>rfl) (by kernel_rfl) rfl (by kernel_rfl);have cj:=ag ck X G bA 2 ["floor","thing"] false zcT zeC (fun _ _ _ _ _ _=>bb2 fun _ _=>rfl) (by kernel_rfl) rfl (by kernel_rfl);have cg:=ag cj X G bz 2 ["floor","other"] false za4 zbs (fun _ _ _ _ _ _=>bb2 fun _ _=>rfl) (by kernel_rfl) rfl (by kernel_rfl);have cf:=ag cg X G bx 2 ["floor","place"] false zas zeb (fun _ _ _ _ _ _=>bb2 fun _ _=>rfl) (by kernel_rfl) rfl (by kernel_rfl);have cc:=ag cf X G bw 1 ["floor"] true zbo zda (fun _ _ _ _ _ _=>bb1 fun _=>rfl) (by kernel_rfl) rfl (by kernel_rfl);have cb:=ag cc X G bu 1 ["floor"] true zcp zdz (fun _ _ _ _ _ _=>bb1 fun _=>rfl) (by kernel_rfl) rfl (by kernel_rfl);have c9:=ag cb X G bt 2 ["whole","floor"] false zbJ zcI (fun _ _ _ _ _ _=>bb2 fun _ _=>rfl) (by kernel_rfl) rfl (by kernel_rfl);have c8:=ag c9 X G br 2 ["floor","place","size"] false zbC zee (fun _ _ _ _ _ _=>bb2 fun _ _=>rfl) (by kernel_rfl) rfl (by kernel_rfl);have c7:=ag c8 X G bq 4 ["tiles","floor","place","side"] false zaP zdC (fun _ _ _ _ _ _=>bb4 fun _ _ _ _=>rfl) (by kernel_rfl) rfl (by kernel_rfl);have c6:=ag c7 X G bp 3 ["tiles","floor","place","beside"] false zbK zcJ (fun _ _ _ _ _ _=>bb3 fun _ _ _=>rfl) (by kernel_rfl) rfl (by kernel_rfl);have c5:=ag c6 X G bo 3 ["tiles","floor","place","below"] false zbq zck (fun _ _ _ _ _ _=>bb3 fun _ _ _=>rfl) (by kernel_rfl) rfl (by kernel_rfl);have c4:=ag c5 X G bj 2 ["floor","column"] false zaC zbh (fun _ _ _ _ _ _=>bb2 fun _ _=>rfl) (by kernel_rfl) rfl (by kernel_rfl);have c3:=ag c4 X G bh 1 ["floor"] false zbI zcG (fun _ _ _ _ _ _=>bb1 fun _=>rfl) (by kernel_rfl) rfl (by kernel_rfl);have c0:=ag c3 X G bg 2 ["one","other"] false zc5 zhM (fun _ _ _ _ _ _=>bb2 fun _ _=>rfl) (by kernel_rfl) rfl (by kernel_rfl);have bZ:=ag c0 X G bf 2 ["one","other"] false zdu zjN (fun _ _ _ _ _ _=>bb2 fun _ _=>rfl) (by kernel_rfl) rfl (by kernel_rfl);have bY:=ag bZ X G bc 3 ["things","first","many"] false zcQ zgc (fun _ _ _ _ _ _=>bb3 fun _ _ _=>rfl) (by kernel_rfl) rfl (by kernel_rfl);have bX:=ag bY X G bb 5 ["floor","top","left","rows","columns"] false zkv zoa (fun _ _ _ _ _ _=>bb5 fun _ _ _ _ _=>rfl) (by kernel_rfl) rfl (by kernel_rfl);have bW:=ag bX X G ba 1 ["things"] true zes zgf (fun _ _ _ _ _ _=>bb1 fun _=>rfl) (by kernel_rfl) rfl (by kernel_rfl);have bV:=ag bW X G b9 1 ["floor"] true zcf zjK (fun _ _ _ _ _ _=>bb1 fun _=>rfl) (by kernel_rfl) rfl (by kernel_rfl);have bU:=ag bV X G b8 2 ["tiles","floor","found","place"] true zdQ ze5 (fun _ _ _ _ _ _=>bb2 fun _ _=>rfl) (by kernel_rfl) rfl (by kernel_rfl);have bT:=ag bU X G b7 2 ["tiles","floor","met","alike"] false zeV zjL (fun _ _ _ _ _ _=>bb2 fun _ _=>rfl) (by kernel_rfl) rfl (by kernel_rfl);have bS:=ag bT X G b6 1 ["floor","found","first","second"] true zcg zec (fun _ _ _ _ _ _=>bb1 fun _=>rfl) (by kernel_rfl) rfl (by kernel_rfl);have bR:=ag bS X G b5 3 ["floor","piece","place","size","seen"] false zbB zdb (fun _ _ _ _ _ _=>bb3 fun _ _ _=>rfl) (by kernel_rfl) rfl (by kernel_rfl);have bQ:=ag bR X G b4 2 ["floor","piece"] true zce zgb (fun _ _ _ _ _ _=>bb2 fun _ _=>rfl) (by kernel_rfl) rfl (by kernel_rfl);have bP:=ag bQ X G b3 1 ["tile"] false zby zd8 (fun _ _ _ _ _ _=>bb1 fun _=>rfl) (by kernel_rfl) rfl (by kernel_rfl);have Z:=ag bP X G b2 1 ["tiles"] false zdO ze0 (fun _ _ _ _ _ _=>bb1 fun _=>rfl) (by kernel_rfl) rfl (by kernel_rfl);have Y:=ag Z X G b1 1 ["number"] false zaR zb2 (fun _ _ _ _ _ _=>bb1 fun _=>rfl) (by kernel_rfl) rfl (by kernel_rfl);have V:=ag Y X G b0 1 ["row"] false zb7 ze1 (fun _ _ _ _ _ _=>bb1 fun _=>rfl) (by kernel_rfl) rfl (by kernel_rfl);have S:=ag V X G aZ 1 ["floor"] false zcq zdA (fun _ _ _ _ _ _=>bb1 fun _=>rfl) (by kernel_rfl) rfl (by kernel_rfl);have R:=ag S X G aY 1 ["sign"] false zbf zdd (fun _ _ _ _ _ _=>bb1 fun _=>rfl) (by kernel_rfl) rfl (by kernel_rfl);have Q:=ag R X G aX 1 ["line"] false zbz zd9 (fun _ _ _ _ _ _=>bb1 fun _=>rfl) (by kernel_rfl) rfl (by kernel_rfl);have O:=ag Q X G aW 1 ["text","tiles"] false zdP ze3 (fun _ _ _ _ _ _=>bb1 fun _=>rfl) (by kernel_rfl) rfl (by kernel_rfl);have M:=ag O X G aV 1 ["tiles","known","number"] true za6 zbG (fun _ _ _ _ _ _=>bb1 fun _=>rfl) (by kernel_rfl) rfl (by kernel_rfl);have L:=ag M X G aU 2 ["known","line"] false zb8 ze4 (fun _ _ _ _ _ _=>bb2 fun _ _=>rfl) (by kernel_rfl) rfl (by kernel_rfl);have I:=ag L X G aT 2 ["tiles","text","known","floor"] false zbN zdx (fun _ _ _ _ _ _=>bb2 fun _ _=>rfl) (by kernel_rfl) rfl (by kernel_rfl);have H:=ag I X G aS 1 ["thing"] false zdt ziX (fun _ _ _ _ _ _=>bb1 fun _=>rfl) (by kernel_rfl) rfl (by kernel_rfl);have F:=ag H X G aR 1 ["thing"] false zaU zbU (fun _ _ _ _ _ _=>bb1 fun _=>rfl) (by kernel_rfl) rfl (by kernel_rfl);have E:=ak (c:="Album") F X G nyAlbum mkAlbum kpAlbum aQ 2 ["self","tiles"] zaF zbW (fun _ _ _ _ _ _=>bb2 fun _ _=>rfl) (by kernel_rfl) rfl (by kernel_rfl);have D:=am (c:="Album") E b aP 3 ["self","name","floor"] false zaw za0 (fun _ _ _ _ _ _=>bb3 fun _ _ _=>rfl) (by kernel_rfl) rfl (by kernel_rfl);have C:=am (c:="Album") D b aO 4 ["self","word","name","floor"] false zb9 ze7 (fun _ _ _ _ _ _=>bb4 fun _ _ _ _=>rfl) (by kernel_rfl) rfl (by kernel_rfl);have B:=am (c:="Album") C b aN 3 ["self","name","floor","had"] false zbE zeg (fun _ _ _ _ _ _=>bb3 fun _ _ _=>rfl) (by kernel_rfl) rfl (by kernel_rfl);have A:=am (c:="Album") B b aM 2 ["self","name"] false zar zbV (fun _ _ _ _ _ _=>bb2 fun _ _=>rfl) (by kernel_rfl) rfl (by kernel_rfl);have z:=am (c:="Album") A b aL 2 ["self","name","floor"] false zct zdG (fun _ _ _ _ _ _=>bb2 fun _ _=>rfl) (by kernel_rfl) rfl (by kernel_rfl);have y:=am (c:="Album") z b aK 5 ["self","name","one","other","is_east","first","second","whole"] false zbP zcC (fun _ _ _ _ _ _=>bb5 fun _ _ _ _ _=>rfl) (by kernel_rfl) rfl (by kernel_rfl);have u:=am (c:="Album") y b aJ 1 ["self"] true zbr zde (fun _ _ _ _ _ _=>bb1 fun _=>rfl) (by kernel_rfl) rfl (by kernel_rfl);have t:=am (c:="Album") u b aI 1 ["self"] false zbL zcK (fun _ _ _ _ _ _=>bb1 fun _=>rfl) (by kernel_rfl) rfl (by kernel_rfl);have r:=am (c:="Album") t b aH 1 ["self","deed"] false zcu zdH (fun _ _ _ _ _ _=>bb1 fun _=>rfl) (by kernel_rfl) rfl (by kernel_rfl);have q:=ag r X G aG 2 ["album","name"] false zbl zdB (fun _ _ _ _ _ _=>bb2 fun _ _=>rfl) (by kernel_rfl) rfl (by kernel_rfl);have p:=ag q X G aF 1 ["album"] false zcr zdD (fun _ _ _ _ _ _=>bb1 fun _=>rfl) (by kernel_rfl) rfl (by kernel_rfl);have o:=ag p X G aE 2 ["tiles","entries","named","last","entry","halves","name"] true zaH zcH (fun _ _ _ _ _ _=>bb2 fun _ _=>rfl) (by kernel_rfl) rfl (by kernel_rfl);have m:=ag o X G aD 1 ["text","parts","album"] false zco zdy (fun _ _ _ _ _ _=>bb1 fun _=>rfl) (by kernel_rfl) rfl (by kernel_rfl);have k:=ag m X G aC 2 ["row","other"] false zcR ze2 (fun _ _ _ _ _ _=>bb2 fun _ _=>rfl) (by kernel_rfl) rfl (by kernel_rfl);have j:=ag k X G aB 2 ["one","other"] false zkw zob (fun _ _ _ _ _ _=>bb2 fun _ _=>rfl) (by kernel_rfl) rfl (by kernel_rfl);have i:=ag j X G aA 2 ["_law_script","_law_k"] false zbD zcl (fun _ _ _ _ _ _=>bb2 fun _ _=>rfl) (by kernel_rfl) rfl (by kernel_rfl);have g:=ag i X G az 3 ["_law_script","_law_k","_law_many","_law_drawn"] false zay zef (fun _ _ _ _ _ _=>bb3 fun _ _ _=>rfl) (by kernel_rfl) rfl (by kernel_rfl);have f:=ag g X G ay 3 ["_law_script","_law_at","_law_most","_law_colours","_law_made","_law_k","_law_tile"] false zcs zdE (fun _ _ _ _ _ _=>bb3 fun _ _ _=>rfl) (by kernel_rfl) rfl (by kernel_rfl);have d:=ag f X G ax 6 ["_law_script","_law_at","_law_tiles_here","_law_rows","_law_columns","_law_many","_law_made","_law_row","_law_line","_law_column","_law_here"] false zbO zdF (fun _ _ _ _ _ _=>bb6 fun _ _ _ _ _ _=>rfl) (by kernel_rfl) rfl (by kernel_rfl);have cH:=zpZ (cl:=cl) (wo:=w) (P:=l.prog) (N:=["_law_script","_law_tiles_here","_law_rows","_law_one","_law_other","_law_made","_law_book","_law_number","_law_many","_law_fine","_law_wrong","_law_mine","_law_yours","_law_album"]) (own:=false) (fs:=zs4) (zq4 (st:=(top 86)) l70 c70 k70) (zkm (n:=1) (by kernel_rfl)).1 d rfl rfl rfl (by kernel_rfl);exact cH.imp (zvo (cl:=cl) rfl zpI)
def walk{l:PySem.W.OpenLaw}{q:Program}{loose:List Str}{XP:(Str->Option Value)->Heap->Prop}{U:PySem.World->Heap->Prop}{d:DefRec}{K:Params->PySem.W.Frag}(hn:l.most=some 63)(J:d.params.defaults=[])
  (hY:∀(w:PySem.World) (h:Heap),U w h->(K w.params).In h)
  (F:∀(w:PySem.World) (mg:Z6) (fa:Addr) (h:Heap),(K w.params).In h->h.Ns mainGlobals mg->mg d.name=some (.ref fa) →
   ∃fd:FuncData,(∀(s:Shared) (u:Value),BindsTo s fd ⟨[u],[]⟩ [("_law_script",u)])/\∀base:Heap,(K w.params).In base->base.Ns mainGlobals mg->FnOk l.prog w (K w.params) mg base (CXE l.prog w) 71 fa fd ["_law_script"] (S2.zoV (K w.params))):
  PySem.W.WalkO q loose XP U l.row.toRowW d [] (fun f vs=>PySem.call f vs):=
 L2.zri (n:=63) (k:=71) (x:="_law_script") (CX:=fun w=>CXE l.prog w) (sp:=fun w=>S2.zoV (K w.params)) hn (by decide) J ⟨rfl,by decide,by decide⟩ hY F (fun _ _ a ns b e c=>⟨a,ns,rfl,b,e,c,fun _=>rfl⟩) (by rintro _ _ _ _ _ ⟨_,_,_,_,_,_,_,_,_,_,_,_,_,_,z⟩;exact z)
end M98
namespace PySem.W.Fast
noncomputable def tw12181398078341950923:=0
noncomputable def tw11644146110314576574:=0
noncomputable def tw15310658323473036083:=0
noncomputable def tw3428195687736511035:=0
noncomputable def tw15599024750002002378:=0
noncomputable def tw8366159158262430531:=0
noncomputable def tw12916891491518916339:=0
noncomputable def tw6653175970394225056:=0
noncomputable def tw1025798923193777851:=0
noncomputable def tw17664149187507129241:=0
noncomputable def tw15736966442918987972:=0
noncomputable def tw3198891992365053938:=0
noncomputable def tw16487970955954554980:=0
noncomputable def tw2982139880050929948:=0
noncomputable def tw3164812925770737612:=0
noncomputable def tw8689226232942751118:=0
noncomputable def tw13961215409113162531:=0
noncomputable def tw15313183153751952922:=0
noncomputable def tw16407874419280139037:=0
noncomputable def tw9104065694029179354:=0
noncomputable def tw16015727971835416498:=0
noncomputable def tw14381863220115216665:=0
noncomputable def tw4895443593570712715:=0
noncomputable def tw14963521417726622754:=0
noncomputable def tw3259838823936006510:=0
noncomputable def tw7101122389461796775:=0
noncomputable def tw4650385249572143927:=0
noncomputable def tw619660366016352365:=0
noncomputable def tw15899668398736104508:=0
noncomputable def tw16438704719019813133:=0
noncomputable def tw5177006473210191509:=0
noncomputable def tw7886808406808343041:=0
noncomputable def tw12583720941367882211:=0
noncomputable def tw5523083123304835956:=0
noncomputable def tw10647058621863773051:=0
noncomputable def tw17849046282492400036:=0
noncomputable def tw7485358264979305296:=0
noncomputable def tw10840109723736019748:=0
noncomputable def tw14875415739244216722:=0
noncomputable def tw17201351663417889845:=0
noncomputable def tw8496944211214697778:=0
noncomputable def tw13404707294084255737:=0
noncomputable def tw14404064433801826174:=0
noncomputable def tw1617718843909405643:=0
noncomputable def tw6664701435535890360:=0
noncomputable def tw5663326767809810855:=0
noncomputable def tw6395493963401506751:=0
noncomputable def tw1643133346448149201:=0
noncomputable def tw8528392740962246579:=0
noncomputable def tw15434620311585837793:=0
noncomputable def tw3252373804795301634:=0
noncomputable def tw927372626673763455:=0
noncomputable def tw2816607826842249321:=0
noncomputable def tw15901845331483747278:=0
noncomputable def tw10283116831095729087:=0
noncomputable def tw12997423228496692059:=0
noncomputable def tw3408468299209424205:=0
noncomputable def tw14724301740764810061:=0
noncomputable def tw5170290325945865079:=0
noncomputable def tw1910249803401871075:=0
noncomputable def tw5874239056180502147:=0
noncomputable def tw17345604924835632848:=0
noncomputable def tw17828844700664814328:=0
noncomputable def tw10127626947674860789:=0
noncomputable def tw16180173208558748248:=0
noncomputable def tw14062864166243914632:=0
noncomputable def tw3463767073205736092:=0
noncomputable def tw7546886867639302739:=0
noncomputable def tw6167801001174342925:=0
noncomputable def tw16100660638076958409:=0
noncomputable def tw8802564373431867449:=0
noncomputable def tw4959229958549781399:=0
noncomputable def tw10403853592491417445:=0
noncomputable def tw16272712924333567051:=0
noncomputable def tw2603270946574286674:=0
noncomputable def tw10426724716748178432:=0
noncomputable def tw52069716468851578:=0
noncomputable def tw16781023840801833754:=0
noncomputable def tw14344697751051189836:=0
noncomputable def tw11645212557735670053:=0
noncomputable def tw17559632435082388811:=0
noncomputable def tw15471030464514383336:=0
noncomputable def tw1619082086253931408:=0
noncomputable def tw16257704957011359443:=0
noncomputable def tw2015785433450995135:=0
noncomputable def tw8722252909039126402:=0
noncomputable def tw3813818313156114098:=0
noncomputable def tw12779140896360058461:=0
noncomputable def tw17960360105261468546:=0
noncomputable def tw8106897173601606394:=0
noncomputable def tw708030569696826501:=0
noncomputable def tw11393938679342473896:=0
noncomputable def tw15393251708543000404:=0
noncomputable def tw10435102625026025043:=0
noncomputable def tw3770977219807372140:=0
noncomputable def tw4344640331167442692:=0
noncomputable def tw10744818526673637145:=0
noncomputable def tw17717600690768144030:=0
noncomputable def tw18327966066173054977:=0
noncomputable def tw2578381268935565909:=0
noncomputable def tw6482561225439253304:=0
noncomputable def tw14283534230892539834:=0
noncomputable def tw14569239449623390404:=0
noncomputable def tw12477707144147347370:=0
noncomputable def tw5239717045565193768:=0
noncomputable def tw12843451550519005620:=0
noncomputable def tw1271023322472164851:=0
noncomputable def tw8640967251625691653:=0
noncomputable def tw15041877406968806035:=0
noncomputable def tw2073123093408265098:=0
noncomputable def tw17106173033875971839:=0
noncomputable def tw12246418416041349422:=0
noncomputable def tw4981935400978540617:=0
noncomputable def tw10427373786426202575:=0
noncomputable def tw1078374386388949315:=0
noncomputable def tw5115072232726291795:=0
noncomputable def tw7587046007456641402:=0
noncomputable def tw3958687536208744450:=0
noncomputable def tw12507978022613479912:=0
noncomputable def tw4785820270348801418:=0
noncomputable def tw14801675079154326860:=0
noncomputable def tw2705340400232297707:=0
noncomputable def tw808029644840608480:=0
noncomputable def tw7189397607209002709:=0
noncomputable def tw8716305376111298874:=0
noncomputable def tw7838517641139461081:=0
noncomputable def tw18368110839395227265:=0
noncomputable def tw16511938835643955635:=0
noncomputable def tw16808663551379379921:=0
noncomputable def tw1008115297993491486:=0
noncomputable def tw13532239061559339516:=0
noncomputable def tw15050054697904979239:=0
noncomputable def tw1309017867493385791:=0
noncomputable def tw18116942757327378692:=0
noncomputable def tw13155709518731445536:=0
noncomputable def tw12704179440237406138:=0
noncomputable def tw6076679282144130838:=0
noncomputable def tw1207937152446862209:=0
noncomputable def tw10235099101232282396:=0
noncomputable def tw4291653262353813721:=0
noncomputable def tw15812071134059992527:=0
noncomputable def tw8640148829879111078:=0
noncomputable def tw17256867360436056074:=0
noncomputable def tw6470209592718461322:=0
noncomputable def tw5928185159309295069:=0
noncomputable def tw11823607387311213638:=0
noncomputable def tw16843636961343384023:=0
noncomputable def tw13436020004080886335:=0
noncomputable def tw1816040850481527524:=0
noncomputable def tw15469064884303284001:=0
noncomputable def tw17099467901403389263:=0
noncomputable def tw9039406582257759450:=0
noncomputable def tw9680616875030512543:=0
noncomputable def tw12697278954368140902:=0
noncomputable def tw13465268998968612537:=0
noncomputable def tw9622817525657555192:=0
noncomputable def tw15857164203016450025:=0
noncomputable def tw17921004759010498657:=0
noncomputable def tw8030753700201166192:=0
noncomputable def tw14401090906977429986:=0
noncomputable def tw16450548591295910587:=0
noncomputable def tw2697914104224038055:=0
noncomputable def tw1923471841337950404:=0
noncomputable def tw11052648041429487148:=0
noncomputable def tw17899882072176565937:=0
noncomputable def tw14467231133744707975:=0
noncomputable def tw7023942204613242636:=0
noncomputable def tw13355603175897407051:=0
noncomputable def tw8542334899241324544:=0
noncomputable def tw14987922935378122413:=0
noncomputable def tw7690114331906753428:=0
noncomputable def tw3330443892337218158:=0
noncomputable def tw11078431251342243173:=0
noncomputable def tw9537607362353705462:=0
noncomputable def tw6696023620351502516:=0
noncomputable def tw17472183320507096899:=0
noncomputable def tw10183241564746816310:=0
noncomputable def tw12992246014374351662:=0
noncomputable def tw3223831859810244599:=0
noncomputable def tw7377764926530064052:=0
noncomputable def tw18380499030176077659:=0
noncomputable def tw15175832883965502321:=0
noncomputable def tw3511425010800331694:=0
noncomputable def tw15831264652372652361:=0
noncomputable def tw7413176856145167320:=0
noncomputable def tw16032738066481220335:=0
noncomputable def tw3070313137937840070:=0
noncomputable def tw4775642213053245397:=0
noncomputable def tw8871350897389099665:=0
noncomputable def tw7052395923028993608:=0
noncomputable def tw17726239723033576542:=0
noncomputable def tw2850417636580256502:=0
noncomputable def tw4919821298435707653:=0
noncomputable def tw9181487750390628703:=0
noncomputable def tw6602897285114789031:=0
noncomputable def tw14522592372979144447:=0
noncomputable def tw14156688580354526627:=0
noncomputable def tw8824008390591705237:=0
noncomputable def tw1699144073544665170:=0
noncomputable def tw231817189192400782:=0
noncomputable def tw8252727357308456529:=0
noncomputable def tw346978415869864211:=0
noncomputable def tw17023327350651539081:=0
noncomputable def tw15426791248131739534:=0
noncomputable def tw9314483150027965939:=0
noncomputable def tw14767592789416943582:=0
noncomputable def tw9973669039291789903:=0
noncomputable def tw6933832975320602946:=0
noncomputable def tw5925606095288205555:=0
noncomputable def tw2564874507630664410:=0
noncomputable def tw41897133779985525:=0
noncomputable def tw3072721143194948795:=0
noncomputable def tw13881532766919294731:=0
noncomputable def tw12356201870891028513:=0
noncomputable def tw10018029303932392381:=0
noncomputable def tw9088399205773114:=0
noncomputable def tw12067984834996228390:=0
noncomputable def tw12357397609805974221:=0
noncomputable def tw12079504699759644179:=0
noncomputable def tw4537983653591424202:=0
noncomputable def tw4063083182088856704:=0
noncomputable def tw4396951065955369578:=0
noncomputable def tw4098887840236274032:=0
noncomputable def tw3141811443898751996:=0
noncomputable def tw16187212206615469117:=0
noncomputable def tw15832462291656067569:=0
noncomputable def tw14419094017266983580:=0
noncomputable def tw4200100568358938924:=0
noncomputable def tw477783027360166218:=0
noncomputable def tw1578046846790725150:=0
noncomputable def tw14772529563474699447:=0
noncomputable def tw11226369964758207596:=0
noncomputable def tw12814516240588052363:=0
noncomputable def tw6568705966728455633:=0
noncomputable def tw4141456021171654660:=0
noncomputable def tw16570490518693762191:=0
noncomputable def tw9046246616551611971:=0
noncomputable def tw8760501743157455381:=0
noncomputable def tw5310518942070292007:=0
noncomputable def tw128209499232458610:=0
noncomputable def tw13134460628517187182:=0
noncomputable def tw12732776679727163477:=0
noncomputable def tw7695500284062438854:=0
noncomputable def tw3850567797633814426:=0
noncomputable def tw3724022358052476237:=0
noncomputable def tw15371229421301992108:=0
noncomputable def tw13041042642155512428:=0
noncomputable def tw2510283743483351615:=0
noncomputable def tw6299311707019376034:=0
noncomputable def tw4199942230877856828:=0
noncomputable def tw5496426043511768483:=0
noncomputable def tw4544880150913710493:=0
noncomputable def tw17887532119507787349:=0
noncomputable def tw8447227787027632583:=0
noncomputable def tw2490680257827198919:=0
noncomputable def tw1793555415285484618:=0
noncomputable def tw17766417741172570569:=0
noncomputable def tw12757315840986892839:=0
noncomputable def tw6950166370645399197:=0
noncomputable def tw430544857850859132:=0
noncomputable def tw1079745992952403723:=0
noncomputable def tw401113263432119358:=0
noncomputable def tw10290139925110717375:=0
noncomputable def tw17922835793477951029:=0
noncomputable def tw11296988085344744229:=0
noncomputable def tw1762842228244403021:=0
noncomputable def tw8672987130341510224:=0
noncomputable def tw1069641931545512578:=0
noncomputable def tw2491322088858630049:=0
noncomputable def tw9108793364245400912:=0
noncomputable def tw708977812987285610:=0
noncomputable def tw3666931214996318967:=0
noncomputable def tw3660988531918051507:=0
noncomputable def tw304196800212268302:=0
noncomputable def tw13832265793475564425:=0
noncomputable def tw9062402421375226720:=0
noncomputable def tw4469701673128784607:=0
noncomputable def tw9704470598954561502:=0
noncomputable def tw3024916744217934009:=0
noncomputable def tw5775452422414671185:=0
noncomputable def tw1386163304859494104:=0
noncomputable def tw7231544796515876410:=0
noncomputable def tw6298103536731912793:=0
noncomputable def tw13838655122908733343:=0
noncomputable def tw3600182591132833677:=0
noncomputable def tw2198949355017746355:=0
noncomputable def tw16987298171669677248:=0
noncomputable def tw12271748194061295646:=0
noncomputable def tw7088230431497191821:=0
noncomputable def tw1483748713120141732:=0
noncomputable def tw13619351498208061034:=0
noncomputable def tw7823835789121031119:=0
noncomputable def tw17338879023474804636:=0
noncomputable def tw1412234611252284417:=0
noncomputable def tw1704758551777810884:=0
noncomputable def tw12865227176362533587:=0
noncomputable def tw17749193302262515610:=0
noncomputable def tw17042820863850938836:=0
noncomputable def tw15014392394087558463:=0
noncomputable def tw3548817536947859170:=0
noncomputable def tw3879281631866334282:=0
noncomputable def tw2821569376914073986:=0
noncomputable def tw16030966315184291634:=0
noncomputable def tw11788301832091188731:=0
noncomputable def tw10639727385329186148:=0
noncomputable def tw3468023046748285199:=0
noncomputable def tw8493036842838402472:=0
noncomputable def tw684854439754787352:=0
noncomputable def tw3984878315497788351:=0
noncomputable def tw14956988854979520698:=0
noncomputable def tw14709009452170800213:=0
noncomputable def tw14504400613610010523:=0
noncomputable def tw900613253911627760:=0
noncomputable def tw4549775822638538750:=0
noncomputable def tw13456628713754589347:=0
noncomputable def tw10524729226101108498:=0
noncomputable def tw15542363862040009075:=0
noncomputable def tw7364456976169298112:=0
noncomputable def tw7937422283193519612:=0
noncomputable def tw8952802383500686401:=0
noncomputable def tw5671141053888989245:=0
noncomputable def tw15779276919728955509:=0
noncomputable def tw10025228744670540718:=0
noncomputable def tw9292911274321138460:=0
noncomputable def tw71684945043101861:=0
noncomputable def tw6260524107710551933:=0
noncomputable def tw17816015748547280160:=0
noncomputable def tw16473227942859234300:=0
noncomputable def tw14937994433270973957:=0
noncomputable def tw14484225858803443633:=0
noncomputable def tw17076158307799185473:=0
noncomputable def tw16617980995669003300:=0
noncomputable def tw11535977862012900475:=0
noncomputable def tw8425352713866215969:=0
noncomputable def tw4789842230293423501:=0
noncomputable def tw9523143981393567973:=0
noncomputable def tw11456917389019766091:=0
noncomputable def tw6292393130058195620:=0
noncomputable def tw1478485610047698643:=0
noncomputable def tw10030116944064879702:=0
noncomputable def tw841653704802274965:=0
noncomputable def tw13073873282492608294:=0
noncomputable def tw11139992060554080008:=0
noncomputable def tw9497733700223120588:=0
noncomputable def tw14315594073164846086:=0
noncomputable def tw11327181498993494747:=0
noncomputable def tw9615179633852347654:=0
noncomputable def tw6226317745976820916:=0
noncomputable def tw15835359790297383395:=0
noncomputable def tw13333080365487110427:=0
end PySem.W.Fast
open PySem PySem.W PyProof.Rows
set_option maxRecDepth 100000 in
set_option maxHeartbeats 0 in
theorem PySem.Challenge.cw_floorfits_k98_whole_joined_tallies_holds : PySem.Challenge.rw_floorfits_k98_whole_joined_tallies.Holds := by
 w_on;o_law;k_head;(case hw=>w_witness2)
 k_fill
 refine M98.walk (l:=PySem.Challenge.rw_floorfits_k98_whole_joined_tallies) rfl rfl (fun w h Y=>PySem.W.kIn_of Y) ?F
 case F=>
  intro w mg fa h d G b;refine' M98.all_mk d G b ?nyAlbum ?pgAlbum ?hdAlbum ?poAlbum ?saAlbum ?mkAlbum ?kpAlbum ?naAlbumtiles ?naAlbumnamed ?naAlbumdone ?naAlbumundone ?a70 ?l70 ?c70 ?k70 ?zz ?gl1 ?gl2 ?gl3 ?gl4 ?gl5 ?gl6 ?gl7 ?gl8 ?gl9 ?gl10 ?gl11 ?n0 ?n1 ?n2 ?n3 ?n4 ?lk1 ?mr1 ?lk2 ?mr2 ?lk3 ?mr3 ?lk4 ?mr4 ?_ ?_ ?_ ?_ ?_ ?_ ?_ ?_ ?_ ?_ ?_ ?_ ?_ ?_ ?_ ?_ ?_ ?_ ?_ ?_ ?_ ?_ ?_ ?_ ?_ ?_ ?_ ?_ ?_ ?_ ?_ ?_ ?_ ?_ ?_ ?_ ?_ ?_ ?_ ?_ ?_ ?_ ?_ ?_ ?_ ?_ ?_ ?_ ?_ ?_ ?_ ?_ ?_ ?_ ?_ ?_ ?_ ?_ ?_ ?_ ?_ ?_ ?_ ?_ ?_ ?_ ?_ ?_ ?_
  case nyAlbum|pgAlbum|hdAlbum|poAlbum|saAlbum|mkAlbum|kpAlbum|naAlbumtiles|naAlbumnamed|naAlbumdone|naAlbumundone|a70|l70|c70|k70=>
   k_is
  case zz=>
   repeat refine S2.zaA (by k_is) ?_
   exact S2.zgR
  case gl1|gl2|gl3|gl4|gl5|gl6|gl7|gl8|gl9|gl10|gl11=>
   k_is
  case n0|n1|n2|n3|n4=>
   constructor;(k_is);(k_exc)
  case lk1=>
   k_is
  case mr1=>
   with_unfolding_all rfl
  case lk2=>
   k_is
  case mr2=>
   with_unfolding_all rfl
  case lk3=>
   k_is
  case mr3=>
   with_unfolding_all rfl
  case lk4=>
   k_is
  case mr4=>
   with_unfolding_all rfl
  all_goals ((first|refine' M98.gm ?a ?l ?c ?k ?i|refine' M98.mm ?a ?l ?c ?k ?i);(case a=>k_is);(case l=>k_is);(case c=>k_is);(case k=>k_is);(case i=>k_is))
#print axioms PySem.Challenge.cw_floorfits_k98_whole_joined_tallies_holds
end
