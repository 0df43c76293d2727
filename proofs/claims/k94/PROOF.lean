import PyProof.Rows.All
import Wide.All
import OpenK.AllK
import Wide.FinOn
import Lean
import PyProof.EqAt
import PyProof.EqKinds
import PyProof.TupleCall
import PyProof.StrWalks
import PyProof.FString5
import PyProof.Draws
import PyProof.EnumMake
import PyProof.TupleKey
import PySem.SetTable
import OpenK.KRaise
import OpenK.KOwn
import PyProof.Rows.TopTwo
import PyProof.RulesAs
import PyProof.RulesDel
import PyProof.ExcArgsOwn
import PyProof.ExcAttrAll.ValueError
import PyProof.Rows.CountFlat
import PyProof.SumWalk
import PyProof.Rows.SeqCalls
import KE.KEqDict
import PyProof.DictWalks
import PyProof.ZipIter
import KE.KRevIter
import PyProof.CollectIter
import PyProof.TupleOfGen
import PyProof.ListRange
import PyProof.WalkInts
import PyProof.AttrMissHeap
import KE.KDictOf
import KE.KDictSum
import PyProof.Rows.SortStr
import PyProof.Rows.StrNews
import PyProof.MeetsStr
import PyProof.StrBlockL
import PyProof.Rows.StrNews2
import PyProof.StrLawsTight
import PyProof.StrLawsChain
import PyProof.StrLawsNeg
import PyProof.TableCode
import PySem.Challenge.RW_floorfits_k94_whole_album_texts_spoilt
set_option compiler.extract_closed false
set_option bootstrap.genMatcherCode false
set_option genSizeOf false
theorem yAQ(h:True:=by rfl):True:=h
namespace yAQ
end yAQ
open yAQ renaming _auto_1→yAW
theorem yAE(h:True:=by decide):True:=h
namespace yAE
end yAE
open yAE renaming _auto_1→yAR
theorem yAT(h:True:=by intro _;rfl):True:=h
namespace yAT
end yAT
open yAT renaming _auto_1→yAU
theorem yAI(h:True:=by with_unfolding_all rfl):True:=h
namespace yAI
end yAI
open yAI renaming _auto_1→yAO
def yah:=@of_decide_eq_true
def yap:=@decide_eq_true
def yaz:=@decide_eq_false
def yaA:=@decide_eq_true_eq
def ybi:=@beq_eq_false_iff_ne
def ybq:=@beq_self_eq_true
def ybT:=@beq_iff_eq
def yci:=@if_true
def ycy:=@decide_eq_false_iff_not
def ycY:=@ne_true_of_eq_false
def ydg:=@if_false
open Bool renaming and_eq_true→yaa,not_eq_true'→yaH,false_ne_true→yaZ,false_eq_true→yb0,or_eq_true→ycu
open List renaming length_map→yab,length_cons→yad,length_append→yae,mem_map→yaf,mem_cons_of_mem→yaj,getElem?_eq_getElem→yal,size_toArray→yam,mem_cons_self→yao,mem_cons→yaq,map_cons→yar,getElem?_eq_some_iff→yas,map_map→yat,getElem?_append_right→yax,mem_append→yay,lookup_cons→yaD,mem_singleton→yaE,getElem?_set_self→yaG,getElem?_append_left→yaI,all_eq_true→yaK,getElem?_map→yaM,map_congr_left→yaN,mem_append_right→yaO,length_set→yaP,append_nil→yaQ,getElem?_set_ne→yaS,length_replicate→yaU,map_append→yaV,mem_map_of_mem→yaX,flatten_cons→yaY,mem_of_getElem?→ya4,nodup_cons→ya7,all_cons→ya8,eq_nil_of_length_eq_zero→ya9,map_eq_nil_iff→ybb,append_assoc→ybc,count_append→ybd,replicate_succ→ybk,of_mem_zip→ybl,pairwise_cons→ybo,length_drop→ybp,filterMap_cons→ybu,length_take→yby,mem_filterMap→ybA,getElem?_drop→ybE,mem_range→ybF,mem_of_mem_take→ybK,mem_of_mem_drop→ybL,nodup_append→ybP,getElem?_replicate→ybR,not_mem_nil→ybS,take_of_length_le→ybX,forIn_cons→yb3,find?_cons→yb4,length_nil→yb5,reverse_cons→yb9,length_range→yca,getD_eq_getElem?_getD→ycd,filter_cons→ycg,take_length→ych,length_reverse→ycj,contains_cons→yct,getElem?_cons_succ→ycw,count_eq_zero→ycz,take_add_one→ycE,map_id→ycF,drop_zero→ycG,length_singleton→ycJ,mem_iff_getElem?→ycP,cons_ne_nil→ycQ,mem_append_left→ycR,filterMap_map→yc2,nodup_nil→yc8,take_sublist→yc9,any_cons→ydh,map_take→ydi,map_drop→ydj
open PySem renaming wpAny_bind→yac,wpAny_pure→yak,mem_of_lookup→yaC,wpAny_mono→ya0,wpAny_truthy_bool→ya3,wpAny_Call_Name_kw→ybe,wpAny_callSpecial?_slot→ybf,wpAny_newObj_type→ybj,wpAny_holding→ybr,wpAny_loadPart_at→ybt,wpAny_call_entry→ybz,tupleKind_room_in1→ybD,wpAny_field→ybG,call_meets→ybM,codeAny_mono→ybQ,wpAny_seqItems→ybU,typeIs_str→yb8,wpAny_setState_of→ycb,wpAny_newFunctionEnv_cells→ycc,wpAny_pyIter_tuple→yco,wpAny_passesOwn→ycp,wpAny_setField_rec→ycv,codeAny_call_function→ycI,call_meetsIn→ycK,codeAny_call_builtin→ycS,wpAny_execs_nil→ycT,sizeLine_eq→ycU,codeAny_builtin→ycW,wpAny_Call_method→ydc,wpAny_call→ydd,wpAny_standAt→ydf
open PySem.Heap renaming get?_push_of_some→yag,lt_size→yau,get?_push_size→yaw,size_push→ya6,get?_update_self→ycM
open Nat renaming le_refl→yai,lt_of_lt_of_le→yan,le_trans→yav,ne_of_lt→yaB,zero_le→yaJ,lt_irrefl→yaT,ne_of_gt→ya1,le_succ→ybH,lt_succ_of_lt→ybN,lt_succ_self→ycf,lt_of_succ_lt_succ→ycB,le_of_lt→ycH,sub_self→ycO,min_eq_left→ycZ,lt_of_le_of_lt→yc4,zero_add→yc5,mul_le_mul→yc7,le_of_succ_le→yda,lt_trichotomy→yde
open Option renaming some_ne_none→yaF,map_eq_some_iff→ya5,isSome_some→yc3,isSome_map→ydb
open PySem.W renaming mg_of→yaL,kia_one→ya2,cellsFrom_some→ybV,callWith_K→ybZ,plainGet_of→ycV,codeRec_of→yc1
open Array renaming size_map→yaR,length_toList→yba,mem_toList_iff→ybh,getElem?_eq_some_iff→ybx,getElem?_toList→ybC,getElem?_eq_getElem→ybI,getElem?_map→yb1,mem_of_getElem?→yb6
open PyProof.Rows renaming slot_tuple_getitem→yaW,callWith_type1→yb2,assignInOrder_cons→yc0
open PySem.F renaming plainAttrs_list→ybg,slot_dict_get→ybm,slot_tuple_iterator_next→ybw,entry_dict_get→ybW,slot_str_split→ybY,called_set→yb7,excBase_ValueError→yce,args_tuple_add_2→yck,slot_list_append→ycl,type_list_append→ycm,args_str_split_2→ycn,entry_tuple_add→ycq,plainAttrs_dict→ycr,entry_str_split→ycx,slot_tuple_add→ycA,slot_dict_pop→ycL,typeOf_object_class→ycN,slot_zip_next→ycX
open Int renaming emod_lt_of_pos→ybn,eq_ofNat_of_zero_le→ybs,emod_nonneg→ybO,toNat_natCast→ycD
open PySem.Calls renaming callWith_builtin→ybv,spliced_cons→ybB,evalArgs_plain→ybJ,spliced_nil→ycC
open PyProof.Rows.F renaming plain_set_update_loop→ycs
open PySem.Txt renaming slice_le→yc6
noncomputable section
set_option Elab.async false
set_option linter.all false
set_option maxRecDepth 100000
set_option maxHeartbeats 4000000
abbrev Z1:=Nat->Nat->Option Int
abbrev Z2:=List (List Int)
abbrev Z3:=List (PySem.Addr×PySem.Obj)
abbrev Z4:=List (Option Int)
abbrev Z5:=PySem.Value->PySem.Shared->Prop
abbrev Z6:=PySem.Str->Option PySem.Value
def S2.bdI{c k:Nat}(h:c<=k)(hk:k<=1000000):-1000000<=(c:Int)/\(c:Int)<=1000000:=⟨Int.le_trans (by decide) (Int.natCast_nonneg c),Int.ofNat_le.mpr (yav h hk)⟩
def S2.bdN{c k:Nat}(h:c<=k)(hk:k<=1000000):0<=(c:Int)/\(c:Int)<=1000000:=⟨Int.natCast_nonneg c,Int.ofNat_le.mpr (yav h hk)⟩
local macro_rules | `(tactic|omega)=> `(tactic|first|assumption|exact yav (by assumption) (by decide)|exact yan (by assumption) (by assumption)|exact yan (by assumption) (by decide)|exact ycH (by assumption)|exact S2.bdI (by assumption) (by decide)|exact yav (by assumption) (by assumption)|omega +splitDisjunctions)
namespace L2
open PySem PySem.Spec PyProof.Rows
noncomputable abbrev Key:=Sum Int Str
noncomputable def zj4:Key->Value->Bool
 |.inl k,v=>Value.isInt k v|.inr x,v=>Value.isStrOf x v
noncomputable def zyX(w:World):Key->Int
 |.inl k=>hashInt k|.inr x=>hashStr w x
theorem zaW:∀{k:Key}{v:Value},zj4 k v=true->(∃i t,k=Sum.inl i/\v=Value.int i t)\/(∃x t,k=Sum.inr x/\v=Value.str x t)
 |.inl i,v,h=>by
  obtain⟨t,e⟩:=Value.isInt_shape (k:=i) (v:=v) h;exact .inl ⟨i,t,rfl,e⟩
 |.inr x,v,h=>by
  obtain⟨t,e⟩:=Value.isStrOf_shape (x:=x) (v:=v) h;exact .inr ⟨x,t,rfl,e⟩
def zlO(i:Int)(t:Tok):zj4 (.inl i) (.int i t)=true:=by simp[zj4,Value.isInt]
def zlN(x:Str)(t:Tok):zj4 (.inr x) (.str x t)=true:=by simp[zj4,Value.isStrOf]
def ztv(a b:Int):decide ((Sum.inl a:Key)=Sum.inl b)=(a==b):=by
 by_cases e:a=b
 ·subst e;simp
 ·have h:¬ (Sum.inl a:Key)=Sum.inl b:=fun q=>e (Sum.inl.inj q)
  rw[yaz h];exact(ybi.mpr e).symm
def zts(a b:Str):decide ((Sum.inr a:Key)=Sum.inr b)=decide (a=b):=by
 by_cases e:a=b
 ·subst e;simp
 ·have h:¬ (Sum.inr a:Key)=Sum.inr b:=fun q=>e (Sum.inr.inj q)
  rw[yaz h,yaz e]
def ztu(a:Int)(b:Str):decide ((Sum.inl a:Key)=Sum.inr b)=false:=yaz (fun q=>nomatch q)
def ztt(a:Str)(b:Int):decide ((Sum.inr a:Key)=Sum.inl b)=false:=yaz (fun q=>nomatch q)
def zaH(prog:Program)(w:World):PySem.KeyKind prog w Key where
 is:=zj4
 hash:=zyX w
 inj:=fun v a b f hb=>by
  rcases zaW f with⟨i,t,rfl,rfl⟩|⟨x,t,rfl,rfl⟩
  ·rcases zaW hb with⟨j,u,rfl,e⟩|⟨y,u,rfl,e⟩
   ·injection e with c _;rw[c]
   ·exact nomatch e
  ·rcases zaW hb with⟨j,u,rfl,e⟩|⟨y,u,rfl,e⟩
   ·exact nomatch e
   ·injection e with c _;rw[c]
 byValue:=fun k v h=>by
  rcases zaW h with⟨i,t,rfl,rfl⟩|⟨x,t,rfl,rfl⟩<;>rfl
 pyHash:=fun hv h=>by
  rcases zaW hv with⟨i,t,rfl,rfl⟩|⟨x,t,rfl,rfl⟩
  ·exact wpAny_pyHash_int h
  ·exact wpAny_pyHash_str h
 eqBool:=fun d hv h=>by
  rcases zaW d with⟨i,t,rfl,rfl⟩|⟨x,t,rfl,rfl⟩
  ·rcases zaW hv with⟨j,u,rfl,rfl⟩|⟨y,u,rfl,rfl⟩
   ·rw[ztv]at h;exact wpAny_eqBool_int h
   ·rw[ztu]at h;exact SeqAt.EqAt.int_str i t y u _ _ _ _ h
  ·rcases zaW hv with⟨j,u,rfl,rfl⟩|⟨y,u,rfl,rfl⟩
   ·rw[ztt]at h;exact SeqAt.EqAt.str_int x t j u _ _ _ _ h
   ·rw[zts]at h;exact wpAny_eqBool_str h
 «strs»:=fun k x t v h=>by
  rcases zaW h with⟨i,u,rfl,e⟩|⟨y,u,rfl,e⟩
  ·exact nomatch e
  ·injection e with c _
   subst c
   cases v<;>rfl
def zh9(prog:Program)(w:World)(i:Int)(t:Tok):(zaH prog w).is (.inl i) (.int i t)=true:=zlO i t
def zh8(prog:Program)(w:World)(x:Str)(t:Tok):(zaH prog w).is (.inr x) (.str x t)=true:=zlN x t
inductive V where
 |non|bl (b:Bool)|int (i:Int)|str (x:Str)|byt (b:Array UInt8)|flt (b:UInt64)|ref (a:Addr)|ty (n:String)
 deriving DecidableEq
noncomputable def zaZ:V->Value->Prop
 |.non,u=>u=Value.none|.bl b,u=>u=Value.bool b|.int i,u=>∃t,u=Value.int i t|.str x,u=>∃t,u=Value.str x t|.byt b,u=>∃t,u=Value.bytes b t|.flt b,u=>∃t,u=Value.float b t|.ref a,u=>u=Value.ref a|.ty n,u=>u=Value.type n
noncomputable abbrev Vals:List V->List Value->Prop:=Paired zaZ
theorem Vals.length(r:Vals xs us):xs.length=us.length:=Paired.length r
theorem Vals.get:∀{xs:List V}{us:List Value}{i:Nat}{x:V},Vals xs us->xs[i]?=some x->∃u,us[i]?=some u/\zaZ x u
 |_,_,_,_,.nil,e=>by simp at e
 |_,_,0,_,.cons r _,e=>by simp at e;subst e;exact⟨_,rfl,r⟩
 |_,_,i+1,x,.cons _ t,e=>by
  obtain⟨u,h1,h2⟩:=Vals.get (i:=i) (x:=x) t (by simpa using e);exact⟨u,by simpa using h1,h2⟩
theorem Vals.append:∀{xs ys:List V}{us I:List Value},Vals xs us->Vals ys I->Vals (xs++ys) (us++I)
 |_,_,_,_,.nil,s=>s|_,_,_,_,.cons r t,s=>.cons r (Vals.append t s)
theorem Vals.take:∀{xs:List V}{us:List Value} (n:Nat),Vals xs us->Vals (xs.take n) (us.take n)
 |_,_,0,_=>.nil|_,_,_+1,.nil=>.nil|_,_,n+1,.cons r t=>.cons r (Vals.take n t)
theorem Vals.drop:∀{xs:List V}{us:List Value} (n:Nat),Vals xs us->Vals (xs.drop n) (us.drop n)
 |_,_,0,r=>r|_,_,_+1,.nil=>.nil|_,_,n+1,.cons _ t=>Vals.drop n t
noncomputable def zfR:Option V->Option Value->Prop
 |some v,some u=>zaZ v u|none,none=>True|_,_=>False
noncomputable def KV{κ:Type}:List (κ×V)->List (κ×Value)->Prop:=Paired fun(p:κ×V) (q:κ×Value)=>p.1=q.1/\zaZ p.2 q.2
noncomputable def kV:Key->V
 |.inl i=>.int i|.inr x=>.str x
inductive HO where
 |lst (xs:List V)
 |tup (xs:List V)
 |dK (kvs:List (Key×V))|dT (kvs:List (List Key×V))
 |set (S:Int->Bool) (n:Nat)
 |ins (C dx:Addr) (fs:List (Str×V))
 |own (x:Addr)
 |xd (fs:List (Str×V))
 |met (f x:Addr)
 |rng (lo hi:Int)
 |frz (o:Obj) (u:HO)
 |tbl (ps:Array Value)
 |ext (φ:Heap->Prop)
noncomputable abbrev Hp:=Addr->Option HO
noncomputable def upd(H:Hp)(a:Addr)(o:HO):Hp:=fun b=>if b=a then some o else H b
def zao:upd H a o a=some o:=by unfold upd;rw[if_pos rfl]
def zab(h:b≠a):upd H a o b=H b:=by unfold upd;rw[if_neg h]
def zpo{H:Hp}{a:Addr}{o u:HO}:upd (upd H a o) a u=upd H a u:=by
 funext b;unfold upd;split<;>rfl
def zvI{H:Hp}{a b:Addr}{o u:HO}(h:H a=some o)(h':H b=some u)(d:o≠u):a≠b:=by
 intro e;subst e;rw[h]at h';exact d (Option.some.inj h')
def zat{H:Hp}{a b:Addr}{o:HO}(h:H a=some o)(h':H b=none):a≠b:=by
 intro e;subst e;rw[h]at h';cases h'
noncomputable def zop(h:Heap)(a:Addr)(items:Array Value):Prop:=∃o,h.get? a=some o/\o.cls=.type "tuple" /\ ∃n,o.data=.seq items n/\o.dict=none
theorem zop.t{h:Heap}{a:Addr}{items:Array Value}:zop h a items->IsTup h a items|⟨o,e,c,n,d,_⟩=>⟨o,e,c,n,d⟩
def zop.new(h:Heap)(items:Array Value):zop (h.push {cls:=.type "tuple",data:=.seq items}) h.objs.size items:=⟨_,yaw _ rfl,rfl,_,rfl,rfl⟩
section
variable(P:Program)(w:World)
def zbg(H:Hp)(h:Heap)(a:Addr):HO->Prop
 |.lst xs=>xs.length<=sizeLine/\∃(aa:List Value) (n:Nat),Vals xs aa/\h.get? a=some {cls:=.type "list",data:=.seq aa.toArray n}|.tup xs=>xs.length<=sizeLine/\∃aa:List Value,Vals xs aa/\zop h a aa.toArray|.dK kvs=>kvs.length<=sizeLine/\(a==sysModules)=false/\∃vs,KV kvs vs/\h.DictOf (zaH P w) a vs|.dT kvs=>kvs.length<=sizeLine/\(a==sysModules)=false/\∃xs:List (List Key×Addr×Value),
   Paired (fun(p:List Key×V) (q:List Key×Addr×Value)=>p.1=q.1/\H q.2.1=some (.tup (p.1.map kV))/\zaZ p.2 q.2.2) kvs xs ∧
   ∃o es c,h.get? a=some o/\o.ExactDict/\o.data=.dict es c/\es.toList=xs.map (entryOfKey (tupleKind (zaH P w)))/\(xs.map (·.1)).Nodup
 |.set S n=>h.SetOf (intKind P w) a S n|.ins C dx fs=>H dx=some (.own a)/\fs.length<=1000/\dx≠a/\h.get? a=some (PySem.W.instObj C dx) ∧
   ∃mA,h.Ns1 dx mA/\(∀f,zfR (fs.lookup f) (mA f))/\PySem.Within mA (fs.map (·.1))
 |.own _=>∃o,h.get? a=some o|.xd fs=>∃mA,h.Ns1 a mA/\∀f,zfR (fs.lookup f) (mA f)|.rng lo hi=>∃t u v,h.get? a=some {cls:=.type "range",data:=.fields #[.int lo t,.int hi u,.int 1 v]}|.frz o u=>h.get? a=some o/\zbg H h a u|.tbl ps=>h.get? a=some {cls:=.none,data:=.fields ps}|.met f x=>h.get? a=some (PySem.W.methodObj (.ref f) (.ref x))|.ext b=>b h/\(∃o,h.get? a=some o)/\∀h1 h2:Heap,b h1->(∀o,h1.get? a=some o->h2.get? a=some o)->b h2
noncomputable def HOk(H:Hp)(h:Heap):Prop:=∀a o,H a=some o->zbg P w H h a o
end
section
variable{P:Program}{w:World}{H H':Hp}{h h':Heap}{a:Addr}{o:HO}
theorem zbg.lt(x:zbg P w H h a o):a<h.objs.size:=by
 cases o with
 |lst xs=>obtain⟨_,_,_,_,e⟩:=x;exact yau e|tup xs=>obtain⟨_,_,_,p⟩:=x;exact p.t.lt|dK kvs=>obtain⟨_,_,_,_,o,_,_,e,_⟩:=x;exact yau e|dT kvs=>obtain⟨_,_,_,_,o,_,_,e,_⟩:=x;exact yau e|set S n=>obtain⟨o,_,_,_,e,_⟩:=x;exact yau e|ins C dx fs=>obtain⟨_,_,_,e,_⟩:=x;exact yau e|own y=>obtain⟨_,e⟩:=x;exact yau e|xd fs=>obtain⟨_,⟨_,_,_,e,_⟩,_⟩:=x;exact yau e|rng lo hi=>obtain⟨_,_,_,e⟩:=x;exact yau e|frz ob u=>obtain⟨e,_⟩:=x;exact yau e|tbl ps=>exact yau (show h.get? a=some _ from x)|met f y=>exact yau (show h.get? a=some _ from x)|ext b=>obtain⟨_,⟨_,e⟩,_⟩:=x;exact yau e
theorem Paired.mapP{α β:Type}{F G:α->β->Prop}:∀{J:List α}{I:List β},Paired F J I->(∀a b,F a b->G a b)->Paired G J I
 |_,_,.nil,_=>.nil|_,_,.cons r t,f=>.cons (f _ _ r) (Paired.mapP t f)
def zbg.stay(x:zbg P w H h a o)(k:∀b u,(b=a\/H b=some (.own a))->h.get? b=some u->h'.get? b=some u)
  (ho:∀b,H b=some (.own a)->H' b=some (.own a)) (I:∀b xs,H b=some (.tup xs)->H' b=some (.tup xs)):zbg P w H' h' a o:=by
 induction o with
 |lst xs=>obtain⟨z,aa,n,r,e⟩:=x;exact⟨z,aa,n,r,k _ _ (.inl rfl) e⟩|tup xs=>obtain⟨z,aa,r,ob,e,c⟩:=x;exact⟨z,aa,r,ob,k _ _ (.inl rfl) e,c⟩|dK kvs=>obtain⟨z,y,vs,r,ob,es,g,e,c⟩:=x;exact⟨z,y,vs,r,ob,es,g,k _ _ (.inl rfl) e,c⟩|dT kvs=>
  obtain⟨z,y,xs,r,ob,es,g,e,c⟩:=x;exact⟨z,y,xs,Paired.mapP r fun p q z=>⟨z.1,I _ _ z.2.1,z.2.2⟩,ob,es,g,k _ _ (.inl rfl) e,c⟩
 |set S n=>obtain⟨ob,es,g,t,e,c⟩:=x;exact⟨ob,es,g,t,k _ _ (.inl rfl) e,c⟩|ins C dx fs=>
  obtain⟨d,z,ne,e,mA,⟨i,es,g,e2,c⟩,r⟩:=x;exact⟨ho _ d,z,ne,k _ _ (.inl rfl) e,mA,⟨i,es,g,k _ _ (.inr d) e2,c⟩,r⟩
 |own y=>obtain⟨ob,e⟩:=x;exact⟨ob,k _ _ (.inl rfl) e⟩|xd fs=>obtain⟨mA,⟨i,es,g,e,c⟩,r⟩:=x;exact⟨mA,⟨i,es,g,k _ _ (.inl rfl) e,c⟩,r⟩|rng lo hi=>obtain⟨t,u,v,e⟩:=x;exact⟨t,u,v,k _ _ (.inl rfl) e⟩|frz ob u j=>obtain⟨e,q⟩:=x;exact⟨k _ _ (.inl rfl) e,j q⟩|tbl ps=>
  have e:h.get? a=some {cls:=.none,data:=.fields ps}:=x;show h'.get? a=some {cls:=.none,data:=.fields ps};exact k a _ (.inl rfl) e
 |met f y=>
  have e:h.get? a=some (PySem.W.methodObj (.ref f) (.ref y)):=x;show h'.get? a=some (PySem.W.methodObj (.ref f) (.ref y));exact k a _ (.inl rfl) e
 |ext l=>obtain⟨p,⟨o,e⟩,st⟩:=x;exact⟨st _ _ p fun o q=>k _ _ (.inl rfl) q,⟨o,k _ _ (.inl rfl) e⟩,st⟩
theorem HOk.lt(x:HOk P w H h)(e:H a=some o):a<h.objs.size:=(x a o e).lt
def HOk.fresh(x:HOk P w H h)(e:h.objs.size<=a):H a=none:=by
 cases q:H a with
 |none=>rfl|some u=>exact absurd (yan (x.lt q) e) (yaT _)
def HOk.kept(x:HOk P w H h)(k:∀b u,h.get? b=some u->h'.get? b=some u):HOk P w H h':=fun a o e=>
 (x a o e).stay (fun b u _ q=>k b u q) (fun _ q=>q) fun _ _ q=>q
def HOk.laid(x:HOk P w H h)(k:∀b u,h.get? b=some u->h'.get? b=some u)(I:h.objs.size<=a)(new:zbg P w (upd H a o) h' a o):HOk P w (upd H a o) h':=fun b u e=>by
 have d:=x.fresh I
 by_cases hb:b=a
 ·subst hb;rw[zao]at e;cases e;exact new
 ·rw[zab hb]at e
  exact(x b u e).stay (fun c v _ q=>k c v q) (fun c q=>by rw[zab (zat q d)];exact q) fun c xs q=>by rw[zab (zat q d)];exact q
end
noncomputable def Rd(H:Hp)(a:Addr)(u:HO):Prop:=H a=some u\/∃o,H a=some (.frz o u)
def Rd.ok(r:Rd H a u)(x:HOk P w H h):zbg P w H h a u:=by
 rcases r with r|⟨o,r⟩
 ·exact x a u r
 ·obtain⟨_,q⟩:=x a _ r;exact q
noncomputable def Mut:Option HO->Prop
 |some (.lst _)=>True|some (.dK _)=>True|some (.dT _)=>True|some (.set _ _)=>True|some (.ins _ _ _)=>True|some (.ext _)=>True|_=>False
section
variable{P:Program}{w:World}{H:Hp}{h h':Heap}{x e:Addr}{o':HO}
def HOk.write(ok:HOk P w H h)(mu:Mut (H x))(he:e=x\/H e=some (.own x))(k:∀b u,b≠e->h.get? b=some u->h'.get? b=some u)(I:∃u,h'.get? e=some u)
  (new:zbg P w (upd H x o') h' x o'):HOk P w (upd H x o') h':=fun b u q=>by
 have d:∀c y,H c=some (.own y)->c≠x:=fun c y r z=>by subst z;rwa[r]at mu
 have f:∀c xs,H c=some (.tup xs)->c≠x:=fun c xs r z=>by subst z;rwa[r]at mu
 by_cases hb:b=x
 ·subst hb;rw[zao]at q;cases q;exact new
 ·rw[zab hb]at q
  by_cases a:b=e
  ·have i:H b=some (.own x):=by
    rcases he with z|z
    ·exact absurd (a.trans z) hb
    ·rw[a];exact z
   rw[q]at i;cases i;obtain⟨v,hv⟩:=I;exact⟨v,by rw[a];exact hv⟩
  ·refine(ok b u q).stay (fun c v g r=>k c v ?_ r) (fun c r=>by rw[zab (d c b r)];exact r) fun c xs r=>by rw[zab (f c xs r)];exact r
   rcases g with rfl|g
   ·exact a
   ·rintro rfl
    rcases he with z|z
    ·exact d c b g z
    ·rw[g]at z;cases z;exact hb rfl
end
structure Un(fs ex:List Addr)(H H':Hp)(h h':Heap):Prop where
 keep:∀b o,h.get? b=some o->H b=none->b ∉ fs->b ∉ ex->h'.get? b=some o
 slot:∀b o,h.get? b=some o->H b=none->b∈fs->b ∉ ex->∃sl,h'.get? b=some {o with slots:=sl}
 free:∀b o,h.get? b=some o->H b=none->b ∉ ex->H' b=none
 there:∀b o,h.get? b=some o->b ∉ ex->∃o',h'.get? b=some o'
 tups:∀b xs,H b=some (.tup xs)->H' b=some (.tup xs)
 frzs:∀b o u,H b=some (.frz o u)->H' b=some (.frz o u)
 tbls:∀b ps,H b=some (.tbl ps)->∃more,H' b=some (.tbl (ps++more))
section
variable{fs fs' ex ex':List Addr}{H H1 H2:Hp}{h h1 h2 h':Heap}{a x e:Addr}{o:HO}
def Un.any(u:Un fs ex H H1 h h1)(q:h.get? b=some ob)(n:H b=none)(I:b ∉ ex):∃sl,h1.get? b=some {ob with slots:=sl}:=by
 by_cases hb:b∈fs
 ·exact u.slot b ob q n hb I
 ·exact⟨ob.slots,u.keep b ob q n hb I⟩
def Un.kept(k:∀b u,h.get? b=some u->h'.get? b=some u):Un fs ex H H h h':=
 ⟨fun b ob q _ _ _=>k b ob q,fun b ob q _ _ _=>⟨ob.slots,k b ob q⟩,fun _ _ _ n _=>n,fun b ob q _=>⟨ob,k b ob q⟩,fun _ _ q=>q,fun _ _ _ q=>q,fun _ ps q=>⟨#[],by rw[q];simp⟩⟩
def Un.refl:Un fs ex H H h h:=Un.kept fun _ _ q=>q
def Un.laid(k:∀b u,h.get? b=some u->h'.get? b=some u)(J:h.objs.size<=a)(I:H a=none):Un fs ex H (upd H a o) h h' where
 keep:=fun b u q _ _ _=>k b u q
 slot:=fun b u q _ _ _=>⟨u.slots,k b u q⟩
 free:=fun b u q n _=>by rw[zab (yaB (yan (yau q) J))];exact n
 there:=fun b u q _=>⟨u,k b u q⟩
 tups:=fun b xs q=>by rw[zab (zat q I)];exact q
 frzs:=fun b u xs q=>by rw[zab (zat q I)];exact q
 tbls:=fun b ps q=>⟨#[],by rw[zab (zat q I),q];simp⟩
def Un.write(mu:Mut (H x))(he:e=x\/H e=some (.own x))(k:∀b u,b≠e->h.get? b=some u->h'.get? b=some u)(I:∃u,h'.get? e=some u):Un fs ex H (upd H x o) h h':=by
 have c:∀b,H b=none->b≠x:=fun b n z=>by subst z;rwa[n]at mu
 have hb:∀b,H b=none->b≠e:=fun b n z=>by
  subst z
  rcases he with r|r
  ·exact c b n r
  ·rw[n]at r;cases r
 have hm:∀b u,H b=some u->¬ Mut (some u)->b≠x:=fun b u q nm z=>by subst z;rw[q]at mu;exact nm mu
 refine⟨fun b u q n _ _=>k b u (hb b n) q,fun b u q n _ _=>⟨u.slots,k b u (hb b n) q⟩,fun b u q n _=>by rw[zab (c b n)];exact n,fun b u q _=>?_,
  fun b xs q=>by rw[zab (hm b _ q fun z=>z)];exact q,fun b u xs q=>by rw[zab (hm b _ q fun z=>z)];exact q,fun b ps q=>⟨#[],by rw[zab (hm b _ q fun z=>z),q];simp⟩⟩
 by_cases a:b=e
 ·subst a;exact I
 ·exact⟨u,k b u a q⟩
end
noncomputable def trk(h:Heap)(H:Hp):List Addr:=(List.range h.objs.size).filter fun a=>(H a).isSome
def zl8(h:Heap)(H:Hp):Heap:=PySem.W.hideAll h (trk h H)
def zl7(h:Heap)(H:Hp):(zl8 h H).objs.size=h.objs.size:=PySem.W.hideAll_size _ _
def znU(e:h.get? b=some o)(n:H b=none):(zl8 h H).get? b=some o:=
 PySem.W.hideAll_get _ e fun hm=>by
  have q:(H b).isSome=true:=(List.mem_filter.mp hm).2;rw[n]at q;simp at q
def zqz(e:(zl8 h H).get? b=some o):h.get? b=some o/\H b=none:=by
 have a:h.get? b=some o:=PySem.W.of_hideAll (trk h H) e;refine⟨a,?_⟩
 cases q:H b with
 |none=>rfl|some x=>
  have hm:b∈trk h H:=List.mem_filter.mpr ⟨ybF.mpr (yau a),by simp[q]⟩;have z:(zl8 h H).get? b=none:=PySem.W.hideAll_none (trk h H) hm;rw[z]at e;cases e
noncomputable def zro(g h:Heap)(L:Addr):List (Addr×Obj):=(List.range h.objs.size).filterMap fun a=>if a=L\/(g.get? a).isSome=true then none else(h.get? a).map fun o=>(a,o)
def zbG(g h:Heap)(L d:Addr):List (Addr×Obj):=(zro g h L).filter fun p=>decide (p.1≠d)
structure Mod(K:PySem.W.Frag)(mg:Z6)(base:Heap):Prop where
 kin:K.In base
 glob:base.Ns mainGlobals mg
 blt:∃mb,base.Ns builtinsNs mb/\∀x:Str,x ≠ "__name__" -> mb x=bootBuiltins x
 nolimit:base.NoLimit
structure Cx where
 prog:Program
 w:World
 K:PySem.W.Frag
 mg:Str->Option Value
 base:Heap
 A:Around
 N:List Str
 s₀:Shared
 H₀:Hp
 env:Env
 outer:List Env
 stack:List Env
 ex:List Addr
 fn:Str->Bool
 calm:Bool
 pn:List (Addr×Obj)
 xe:Value->Shared->Prop
noncomputable def frs(l:List Env):List Addr:=l.filterMap (·.frame)
noncomputable abbrev Cx.fs(X:Cx):List Addr:=frs X.outer
noncomputable def Vis(sc:Scope)(x:Str):Prop:=sc.names.lookup x=some .local\/sc.names.lookup x=some .cell\/sc.names.lookup x=some .free
noncomputable def Loc(sc:Scope)(x:Str):Prop:=sc.names.lookup x=some .local\/sc.names.lookup x=some .cell
noncomputable def zzU(env:Env)(h:Heap)(m:Z6)(x:Str)(u:Value):Prop:=
 (env.kindOf x=some .local/\m x=some u)\/((env.kindOf x=some .cell\/env.kindOf x=some .free)/\∃c,env.cells.lookup x=some c/\h.IsCell c (some u))
structure Cx.Ok(X:Cx):Prop where
 mod:Mod X.K X.mg X.base
 kind:X.env.scope.kind=.function
 glob:X.env.globals=mainGlobals
 blt:X.env.builtins=builtinsNs
 above:X.s₀.heap.objs.size<=X.env.locals
 inj:∀x y c,X.env.cells.lookup x=some c->X.env.cells.lookup y=some c->x=y
 has:∀x,(X.env.kindOf x=some .cell\/X.env.kindOf x=some .free)->∃c,X.env.cells.lookup x=some c
 cab:∀x c,X.fn x=true->X.env.cells.lookup x=some c->X.s₀.heap.objs.size<=c
 hd:X.calm=true->X.A.handled=none
 frames:X.A.frames=some X.stack
 stk:X.stack=X.outer\/(X.stack=X.env::X.outer/\X.env.frame=some X.env.locals)
 exf:∀b∈X.ex,b≠X.env.locals/\∀x c,X.env.cells.lookup x=some c->c≠b
 bs:∀b o,X.base.get? b=some o->X.s₀.heap.get? b=some o/\X.H₀ b=none
 bsz:X.base.objs.size<=X.s₀.heap.objs.size
 noex:∀b o,X.base.get? b=some o->b ∉ X.ex
 exfs:∀b∈X.ex,b ∉ X.fs
 funs:X.s₀.heap.FunFrames X.base X.outer
 frf:∀b∈X.fs,X.H₀ b=none
structure Inv(X:Cx)(pins:Z3)(σ:List (Option V))(H:Hp)(s:Shared):Prop where
 ok:X.Ok
 os:s.os=X.s₀.os
 bare:AllBare s.gens
 base:Un X.fs X.ex X.H₀ H X.s₀.heap s.heap
 loc:∃m,s.heap.Ns X.env.locals m/\∀(i:Nat) (x:Str) (v:V),X.N[i]?=some x->σ[i]?=some (some v)->Vis X.env.scope x->∃u,zaZ v u/\zzU X.env s.heap m x u
 cell:∀x c,X.env.cells.lookup x=some c->∃v,s.heap.IsCell c v
 free:H X.env.locals=none
 freeC:∀x c,X.env.cells.lookup x=some c->H c=none
 pin:∀p∈X.pn++pins,s.heap.get? p.1=some p.2/\H p.1=none/\p.1≠X.env.locals/\p.1 ∉ X.fs/\∀v,p.2.data≠.cell v
 hok:HOk X.prog X.w H s.heap
 len:σ.length=X.N.length
section
variable{X:Cx}{pins:Z3}{σ:List (Option V)}{H H':Hp}{s:Shared}{h':Heap}
def Cx.Ok.nofr(ok:X.Ok)(e:X.base.get? b=some o):b ∉ X.fs:=fun hb=>by
 have:=(ok.funs.mem hb).1;rw[e]at this;cases this
theorem Inv.bs(I:Inv X pins σ H s):∀b o,X.base.get? b=some o->s.heap.get? b=some o/\H b=none:=fun b o e=>
 ⟨I.base.keep b o (I.ok.bs b o e).1 (I.ok.bs b o e).2 (I.ok.nofr e) (I.ok.noex b o e),I.base.free b o (I.ok.bs b o e).1 (I.ok.bs b o e).2 (I.ok.noex b o e)⟩
def Inv.bk(I:Inv X pins σ H s):∀b o,X.base.get? b=some o->s.heap.get? b=some o:=fun b o e=>(I.bs b o e).1
theorem Inv.mod(I:Inv X pins σ H s):Mod X.K X.mg X.base:=I.ok.mod
def Inv.kIn(I:Inv X pins σ H s):X.K.In s.heap:=I.ok.mod.kin.keeps I.bk
theorem Inv.lt(I:Inv X pins σ H s):X.env.locals<s.heap.objs.size:=let ⟨_,a,_⟩:=I.loc;a.lt
def Inv.sz(I:Inv X pins σ H s):X.s₀.heap.objs.size<=s.heap.objs.size:=yav I.ok.above (ycH I.lt)
def Inv.nofs(I:Inv X pins σ H s)(h:s.heap.objs.size<=a):a ∉ X.fs:=fun hb=>by
 obtain⟨_,o,b,_⟩:=I.ok.funs.mem hb;exact absurd (yan (yau b) (yav I.sz h)) (yaT _)
def Inv.cne(I:Inv X pins σ H s):∀x c,X.env.cells.lookup x=some c->c≠X.env.locals:=fun x c e z=>by
 obtain⟨v,o,d,hd⟩:=I.cell x c e;obtain⟨m,⟨o',es,f,a,b,_⟩,_⟩:=I.loc;rw[z,a]at d;cases d;rw[b]at hd;cases hd
theorem Inv.funs(I:Inv X pins σ H s):s.heap.FunFrames X.base X.outer:=by
 have all:∀(l:List Env),(∀b∈frs l,b∈X.fs)->X.s₀.heap.FunFrames X.base l->s.heap.FunFrames X.base l:=by
  intro l
  induction l with
  |nil=>intro _ _;trivial|cons env r c=>
   intro hs h;obtain⟨hk,⟨L,o,hf,g,f,hd⟩,d⟩:=h;have a:L∈X.fs:=hs L (by unfold frs;rw[ybu,hf];exact yao);obtain⟨sl,e⟩:=I.base.slot L o f (I.ok.frf L a) a fun z=>I.ok.exfs L z a
   exact⟨hk,⟨L,_,hf,g,e,hd⟩,c (fun b hb=>hs b (by unfold frs;rw[ybu,hf];exact yaj _ hb)) d⟩
 exact all X.outer (fun _ hb=>hb) I.ok.funs
theorem Inv.stack(I:Inv X pins σ H s):s.heap.FunFrames X.base X.stack:=by
 rcases I.ok.stk with e|⟨e,hf⟩
 ·rw[e];exact I.funs
 ·rw[e];obtain⟨m,a,_⟩:=I.loc;refine .cons (by rw[I.ok.kind];decide) hf a ?_ I.funs;exact Heap.get?_none_of_le (yav I.ok.bsz I.ok.above)
def Inv.stkSub(I:Inv X pins σ H s):∀b∈frs X.stack,b∈X.env.locals::X.fs:=fun b hb=>by
 rcases I.ok.stk with e|⟨e,hf⟩
 ·rw[e]at hb;exact yaj _ hb
 ·rw[e]at hb;unfold frs at hb;rwa[ybu,hf]at hb
def Inv.stkFree(I:Inv X pins σ H s):∀b∈frs X.stack,H b=none:=fun b hb=>by
 rcases yaq.mp (I.stkSub b hb)with e|hb
 ·rw[e];exact I.free
 ·obtain⟨_,o,a,_⟩:=I.ok.funs.mem hb;exact I.base.free b o a (I.ok.frf b hb) fun z=>I.ok.exfs b z hb
def Inv.step{g':Array GenState}{t':Nat}{d':Drawn}{ch:List Addr}(I:Inv X pins σ H s)
  (J:∀b∈ch,(b∈X.ex\/X.s₀.heap.objs.size<=b)/\b≠X.env.locals/\(∀x c,X.env.cells.lookup x=some c->c≠b)/\∀p∈X.pn++pins,p.1≠b)
  (keep:∀b o,b≠X.env.locals->b ∉ X.fs->b ∉ ch->s.heap.get? b=some o->H b=none->h'.get? b=some o)
  (slot:∀b o,b≠X.env.locals->b∈X.fs->b ∉ ch->s.heap.get? b=some o->H b=none->∃sl,h'.get? b=some {o with slots:=sl}) (free:∀b o,b ∉ ch->s.heap.get? b=some o->H b=none->H' b=none)
  (there:∀b o,b ∉ ch->s.heap.get? b=some o->∃o',h'.get? b=some o')
  (tups:∀b xs,H b=some (.tup xs)->H' b=some (.tup xs)) (frzs:∀b o u,H b=some (.frz o u)->H' b=some (.frz o u)) (tbls:∀b ps,H b=some (.tbl ps)->∃more,H' b=some (.tbl (ps++more)))
  (ns:∀m,s.heap.Ns X.env.locals m->h'.Ns X.env.locals m) (hok:HOk X.prog X.w H' h') (U:AllBare g'):
  Inv X pins σ H' {s with heap:=h',gens:=g',drawn:=d',toks:=t'}:=by
 have y:∀b o,X.s₀.heap.get? b=some o->b≠X.env.locals:=fun b o e=>yaB (yan (yau e) I.ok.above)
 have h:∀b o,X.s₀.heap.get? b=some o->b ∉ X.ex->b ∉ ch:=fun b o e a hb=>by
  rcases(J b hb).1 with z|z
  ·exact a z
  ·exact absurd (yan (yau e) z) (yaT _)
 have g:∀x c,X.env.cells.lookup x=some c->∀v,s.heap.IsCell c v->h'.IsCell c v:=fun x c e v ⟨o,t,hd⟩=>by
  have f:c ∉ ch:=fun z=>(J c z).2.2.1 x c e rfl
  by_cases D:c∈X.fs
  ·obtain⟨sl,q⟩:=slot c o (I.cne x c e) D f t (I.freeC x c e);exact⟨_,q,hd⟩
  ·exact⟨o,keep c o (I.cne x c e) D f t (I.freeC x c e),hd⟩
 refine⟨I.ok,I.os,U,⟨fun b o e n hb a=>?_,fun b o e n hb a=>?_,fun b o e n a=>?_,fun b o e a=>?_,fun b xs e=>tups b xs (I.base.tups b xs e),fun b o xs e=>frzs b o xs (I.base.frzs b o xs e),fun b ps e=>?_⟩,?_,fun x c e=>?_,?_,fun x c e=>?_,fun p C=>?_,hok,I.len⟩
 ·exact keep b o (y b o e) hb (h b o e a) (I.base.keep b o e n hb a) (I.base.free b o e n a)
 ·obtain⟨sl,j⟩:=I.base.slot b o e n hb a;obtain⟨A,e2⟩:=slot b _ (y b o e) hb (h b o e a) j (I.base.free b o e n a);exact⟨A,e2⟩
 ·obtain⟨o',j⟩:=I.base.there b o e a;exact free b o' (h b o e a) j (I.base.free b o e n a)
 ·obtain⟨o',j⟩:=I.base.there b o e a;exact there b o' (h b o e a) j
 ·obtain⟨F,j⟩:=I.base.tbls b ps e;obtain⟨E,e2⟩:=tbls b _ j;exact⟨F++E,by rw[e2,Array.append_assoc]⟩
 ·obtain⟨m,G,K⟩:=I.loc;refine⟨m,ns m G,fun i x v j e2 L=>?_⟩;obtain⟨u,r,l⟩:=K i x v j e2 L;refine⟨u,r,?_⟩
  rcases l with l|⟨k,c,e,z⟩
  ·exact .inl l
  ·exact .inr ⟨k,c,e,g x c e _ z⟩
 ·obtain⟨v,z⟩:=I.cell x c e;exact⟨v,g x c e v z⟩
 ·obtain⟨m,⟨o,_,_,t,_⟩,_⟩:=I.loc;exact free _ o (fun z=>(J _ z).2.1 rfl) t I.free
 ·obtain⟨v,o,t,hd⟩:=I.cell x c e;exact free c o (fun z=>(J c z).2.2.1 x c e rfl) t (I.freeC x c e)
 ·obtain⟨e,n,ne,B,d⟩:=I.pin p C;have f:p.1 ∉ ch:=fun z=>(J p.1 z).2.2.2 p C rfl
  exact⟨keep p.1 p.2 ne B f e n,free p.1 p.2 f e n,ne,B,d⟩
def Inv.un(I:Inv X pins σ H s)(u:Un X.fs [] H H' s.heap h')(hok:HOk X.prog X.w H' h'):Inv X pins σ H' {s with heap:=h',toks:=t'}:=by
 obtain⟨m,⟨o,es,i,d,r⟩,_⟩:=id I.loc;obtain⟨sl,g⟩:=u.any d I.free (by simp)
 exact I.step (g':=s.gens) (d':=s.drawn) (ch:=[]) (fun _ z=>nomatch z) (fun b o _ hb _ e n=>u.keep b o e n hb (by simp)) (fun b o _ hb _ e n=>u.slot b o e n hb (by simp)) (fun b o _ e n=>u.free b o e n (by simp)) (fun b o _ e=>u.there b o e (by simp)) u.tups u.frzs u.tbls (fun h hm=>by
  obtain⟨o',es',c,a,f⟩:=hm;rw[d]at a;cases a
  exact⟨_,es',c,g,f⟩) hok I.bare
def Inv.call(I:Inv X pins σ H s)(u:Un (frs X.stack) ch H H' s.heap h')(hok:HOk X.prog X.w H' h')(U:AllBare g')
  (J:∀b∈ch,(b∈X.ex\/X.s₀.heap.objs.size<=b)/\b≠X.env.locals/\(∀x c,X.env.cells.lookup x=some c->c≠b)/\∀p∈X.pn++pins,p.1≠b):
  Inv X pins σ H' {s with heap:=h',gens:=g',drawn:=d',toks:=t'}:=by
 obtain⟨m,⟨o,es,k,h,r⟩,_⟩:=id I.loc;obtain⟨sl,f⟩:=u.any h I.free fun z=>(J _ z).2.1 rfl
 exact I.step (ch:=ch) J (fun b o f hb a e n=>u.keep b o e n (fun z=>(yaq.mp (I.stkSub b z)).elim f hb) a) (fun b o _ _ a e n=>u.any e n a) (fun b o a e n=>u.free b o e n a) (fun b o a e=>u.there b o e a) u.tups u.frzs u.tbls (fun j hm=>by
  obtain⟨o',es',g,d,i⟩:=hm;rw[h]at d;cases d
  exact⟨_,es',g,f,i⟩) hok U
def Inv.turned(I:Inv X pins σ H s)(k:∀b o,b≠it->s.heap.get? b=some o->h'.get? b=some o)(U:H it=none)(J:it≠X.env.locals)
  (h1:it∈X.ex\/X.s₀.heap.objs.size<=it) (h2:∀x c,X.env.cells.lookup x=some c->c≠it) (h3:∀p∈X.pn++pins,p.1≠it):Inv X pins σ H {s with heap:=h',toks:=t'}:=by
 have d:∀b u,H b=some u->b≠it:=fun b u e z=>by rw[z,U]at e;cases e
 refine I.step (g':=s.gens) (d':=s.drawn) (ch:=[it]) (fun b hb=>?_) (fun b o _ _ a e _=>k b o (fun z=>a (by simp[z])) e) (fun b o _ _ a e _=>⟨o.slots,k b o (fun z=>a (by simp[z])) e⟩) (fun _ _ _ _ n=>n)
  (fun b o a e=>⟨o,k b o (fun z=>a (by simp[z])) e⟩) (fun _ _ e=>e) (fun _ _ _ e=>e) (fun b ps e=>⟨#[],by rw[e];simp⟩) (fun m hm=>?_) (fun b u e=>?_) I.bare
 ·have e:b=it:=by simpa using hb
  subst e;exact⟨h1,J,h2,h3⟩
 ·obtain⟨o,es,g,f,r⟩:=hm;exact⟨o,es,g,k _ o (Ne.symm J) f,r⟩
 ·refine(I.hok b u e).stay (fun c v a q=>k c v ?_ q) (fun _ q=>q) fun _ _ q=>q
  rcases a with z|z
  ·rw[z];exact d b u e
  ·exact d c _ z
def Inv.tok(I:Inv X pins σ H s)(t:Nat):Inv X pins σ H {s with toks:=t}:=I.un (h':=s.heap) (t':=t) Un.refl I.hok
theorem Inv.kept(I:Inv X pins σ H s)(k:∀b u,s.heap.get? b=some u->h'.get? b=some u):Inv X pins σ H {s with heap:=h',toks:=t'}:=I.un (Un.kept k) (I.hok.kept k)
theorem Inv.laid(I:Inv X pins σ H s)(k:∀b u,s.heap.get? b=some u->h'.get? b=some u)(J:s.heap.objs.size<=a)(new:zbg X.prog X.w (upd H a o) h' a o):
  Inv X pins σ (upd H a o) {s with heap:=h',toks:=t'}:=I.un (Un.laid k J (I.hok.fresh J)) (I.hok.laid k J new)
theorem Inv.write(I:Inv X pins σ H s)(mu:Mut (H x))(he:e=x\/H e=some (.own x))(k:∀b u,b≠e->s.heap.get? b=some u->h'.get? b=some u)(J:∃u,h'.get? e=some u)
  (new:zbg X.prog X.w (upd H x o) h' x o):Inv X pins σ (upd H x o) {s with heap:=h',toks:=t'}:=I.un (Un.write mu he k J) (I.hok.write mu he k J new)
def Inv.pins_of(I:Inv X pins σ H s)(h:∀p∈J,s.heap.get? p.1=some p.2/\H p.1=none/\p.1≠X.env.locals/\p.1 ∉ X.fs/\∀v,p.2.data≠.cell v):Inv X J σ H s:=
 ⟨I.ok,I.os,I.bare,I.base,I.loc,I.cell,I.free,I.freeC,fun p a=>(yay.mp a).elim (fun z=>I.pin p (ycR _ z)) (h p),I.hok,I.len⟩
def zga{N:List Str}(hN:N.Nodup){i j:Nat}{x:Str}(a:N[i]?=some x)(b:N[j]?=some x):i=j:=by
 obtain⟨h1,c⟩:=yas.mp a;obtain⟨h2,e2⟩:=yas.mp b;exact(List.getElem_inj hN).mp (c.trans e2.symm)
def zgK{M:Model}{A:Around}{E:Z5}{i:Nat}{x:Str}{v:V}{u:Value}{Q:Unit->Shared->Prop}(I:Inv X pins σ H s)(hN:X.N.Nodup)(hi:X.N[i]?=some x)(J:Loc X.env.scope x)(r:zaZ v u)
  (h:∀s',Inv X pins (σ.set i (some v)) H s'->(∃a,Heap.SameBut a s.heap s'.heap/\(a=X.env.locals\/X.env.cells.lookup x=some a))->Q () s') (hf:X.fn x=true\/X.env.scope.names.lookup x=some .local):wpAny M A (storeName X.env x u) Q E s:=by
 obtain⟨m,Z,hl⟩:=id I.loc
 have K:(X.env.scope.kind==.class||(X.env.scope.kind==.module&&X.env.locals != X.env.globals))=false:=by rw[I.ok.kind];rfl
 have B:i<σ.length:=by rw[I.len];exact(yas.mp hi).1
 have cne:=I.cne
 have f:∀{a:Addr}{h':Heap},(∃o,s.heap.get? a=some o/\H a=none)->Heap.SameBut a s.heap h'->HOk X.prog X.w H h':=fun {a h'} ha hs b ob e=>by
  obtain⟨_,_,t⟩:=ha;refine(I.hok b ob e).stay (fun c w' l q=>(hs.2 c ?_).trans q) (fun _ q=>q) fun _ _ q=>q
  rintro rfl
  rcases l with rfl|l
  ·rw[t]at e;cases e
  ·rw[t]at l;cases l
 rcases J with hk|hk
 ·refine wpAny_storeName_local hk Z (fun h' Y hs=>?_) K;obtain⟨oL,_,_,W,_⟩:=id Z;refine h _ ⟨I.ok,I.os,I.bare,⟨fun b o e n hb J=>?_,fun b o e n hb J=>?_,I.base.free,fun b o e J=>?_,I.base.tups,I.base.frzs,I.base.tbls⟩,⟨_,Y,fun j y P g e2 e3=>?_⟩,fun y c e=>?_,I.free,I.freeC,fun p U=>?_,f ⟨oL,W,I.free⟩ hs,by simpa using I.len⟩ ⟨_,hs,.inl rfl⟩
  ·exact(hs.2 b (yaB (yan (yau e) I.ok.above))).trans (I.base.keep b o e n hb J)
  ·obtain⟨sl,g⟩:=I.base.slot b o e n hb J;exact⟨sl,(hs.2 b (yaB (yan (yau e) I.ok.above))).trans g⟩
  ·obtain⟨o',g⟩:=I.base.there b o e J;exact⟨o',(hs.2 b (yaB (yan (yau e) I.ok.above))).trans g⟩
  ·by_cases C:j=i
   ·subst C;rw[hi]at g;cases g;rw[yaG B]at e2;cases e2;exact⟨u,r,.inl ⟨hk,by simp⟩⟩
   ·rw[yaS (Ne.symm C)]at e2;obtain⟨R,S,q⟩:=hl j y P g e2 e3;refine⟨R,S,?_⟩
    rcases q with⟨k,e⟩|⟨k,c,e,z⟩
    ·refine .inl ⟨k,?_⟩;have:y≠x:=fun e=>C (zga hN g (e ▸ hi))
     simp[this,e]
    ·exact .inr ⟨k,c,e,z.sameBut hs (cne y c e)⟩
  ·obtain⟨w',z⟩:=I.cell y c e;exact⟨w',z.sameBut hs (cne y c e)⟩
  ·obtain⟨e,n,ne,T,d⟩:=I.pin p U;exact⟨(hs.2 p.1 ne).trans e,n,ne,T,d⟩
 ·have D:X.fn x=true:=by
   rcases hf with z|z
   ·exact z
   ·rw[z]at hk;cases hk
  obtain⟨c,l⟩:=I.ok.has x (.inl hk);obtain⟨w',z⟩:=I.cell x c l;refine wpAny_storeName_cell I.ok.kind hk l z (fun h' O hs=>?_);obtain⟨oc,G,F⟩:=id z;refine h {s with heap:=h'} ⟨I.ok,I.os,I.bare,⟨fun b o e n hb J=>?_,fun b o e n hb J=>?_,I.base.free,fun b o e J=>?_,I.base.tups,I.base.frzs,I.base.tbls⟩,⟨m,Z.sameBut hs (Ne.symm (cne x c l)),fun j y P g e2 e3=>?_⟩,fun y c' e=>?_,I.free,I.freeC,fun p U=>?_,f ⟨oc,G,I.freeC x c l⟩ hs,by simpa using I.len⟩ ⟨c,hs,.inr l⟩
  ·exact(hs.2 b (yaB (yan (yau e) (I.ok.cab x c D l)))).trans (I.base.keep b o e n hb J)
  ·obtain⟨sl,g⟩:=I.base.slot b o e n hb J;exact⟨sl,(hs.2 b (yaB (yan (yau e) (I.ok.cab x c D l)))).trans g⟩
  ·obtain⟨o',g⟩:=I.base.there b o e J;exact⟨o',(hs.2 b (yaB (yan (yau e) (I.ok.cab x c D l)))).trans g⟩
  ·by_cases C:j=i
   ·subst C;rw[hi]at g;cases g;rw[yaG B]at e2;cases e2;exact⟨u,r,.inr ⟨.inl hk,c,l,O⟩⟩
   ·rw[yaS (Ne.symm C)]at e2;obtain⟨R,S,q⟩:=hl j y P g e2 e3;refine⟨R,S,?_⟩
    rcases q with q|⟨k,c',e,z'⟩
    ·exact .inl q
    ·refine .inr ⟨k,c',e,z'.sameBut hs ?_⟩;rintro rfl;exact C (zga hN g (I.ok.inj _ _ _ e l ▸ hi))
  ·by_cases L:c'=c
   ·subst L;exact⟨_,O⟩
   ·obtain⟨w2,z2⟩:=I.cell y c' e;exact⟨w2,z2.sameBut hs L⟩
  ·obtain⟨e,n,ne,T,d⟩:=I.pin p U;refine⟨(hs.2 p.1 ?_).trans e,n,ne,T,d⟩;intro q;rw[q,G]at e;have q':oc=p.2:=Option.some.inj e;exact d w' (by rw[<-q'];exact F)
def zdc{M:Model}{A:Around}{E:Z5}{i:Nat}{x:Str}{v:V}{u:Value}{Q:Unit->Shared->Prop}(I:Inv X pins σ H s)(hN:X.N.Nodup)(hi:X.N[i]?=some x)(J:Loc X.env.scope x)(r:zaZ v u)
  (h:∀s',Inv X pins (σ.set i (some v)) H s'->Q () s') (hf:X.fn x=true\/X.env.scope.names.lookup x=some .local):wpAny M A (storeName X.env x u) Q E s:=
 zgK I hN hi J r (fun s' a _=>h s' a) hf
def Inv.call'(I:Inv X pins σ H s)(ho:s'.os=s.os)(u:Un (frs X.stack) ch H H' s.heap s'.heap)(hok:HOk X.prog X.w H' s'.heap)(U:AllBare s'.gens)
  (J:∀b∈ch,(b∈X.ex\/X.s₀.heap.objs.size<=b)/\b≠X.env.locals/\(∀x c,X.env.cells.lookup x=some c->c≠b)/\∀p∈X.pn++pins,p.1≠b):Inv X pins σ H' s':=by
 obtain⟨h',g',d',t',o'⟩:=s';have e:o'=s.os:=ho;subst e;exact I.call (g':=g') (t':=t') (d':=d') u hok U J
end
noncomputable abbrev XK:=Value->Option Addr->Hp->Prop
noncomputable abbrev St:=List (Option V)
noncomputable abbrev VK:=V->Hp->Prop
noncomputable abbrev TE:=St->Hp->VK->Prop
noncomputable abbrev TT:=St->Hp->(Bool->Hp->Prop)->Prop
noncomputable abbrev TA:=St->Hp->(List V->Hp->Prop)->Prop
structure Ends where
 nx:St->Hp->Prop
 rt:VK
 bk:St->Hp->Prop:=fun _ _=>False
 ct:St->Hp->Prop:=fun _ _=>False
noncomputable abbrev TS:=Ends->St->Hp->Prop
noncomputable def EP(X:Cx)(pins:Z3)(σ:St)(Q:VK)(u:Value)(s':Shared):Prop:=∃v H',Inv X pins σ H' s'/\zaZ v u/\Q v H'
noncomputable def TP(X:Cx)(pins:Z3)(σ:St)(Q:Bool->Hp->Prop)(b:Bool)(s':Shared):Prop:=∃H',Inv X pins σ H' s'/\Q b H'
noncomputable def AP(X:Cx)(pins:Z3)(σ:St)(Q:List V->Hp->Prop)(us:List Value)(s':Shared):Prop:=∃vs H',Inv X pins σ H' s'/\Vals vs us/\Q vs H'
noncomputable def SP(X:Cx)(pins:Z3)(D:Ends)(f:Flow)(s':Shared):Prop:=
 match f with
 |.next=>∃a H',Inv X pins a H' s'/\D.nx a H'|.brk=>∃a H',Inv X pins a H' s'/\D.bk a H'|.cont=>∃a H',Inv X pins a H' s'/\D.ct a H'|.ret u=>∃v a H',Inv X pins a H' s'/\zaZ v u/\D.rt v H'
noncomputable def PE(X:Cx)(e:Expr)(t:TE):Prop:=
 ∀(pins:Z3) (s:Shared) (σ:St) (H:Hp) (Q:VK),Inv X pins σ H s->t σ H Q->wpAny (model X.prog X.w) X.A (eval e X.env) (EP X pins σ Q) X.xe s
noncomputable def PT(X:Cx)(e:Expr)(t:TT):Prop:=
 ∀(pins:Z3) (s:Shared) (σ:St) (H:Hp) (Q:Bool->Hp->Prop),Inv X pins σ H s->t σ H Q->wpAny (model X.prog X.w) X.A (isTrue e X.env (eval e X.env)) (TP X pins σ Q) X.xe s
noncomputable def PW(X:Cx)(e:Expr)(t:TT):Prop:=
 ∀(whole:Sem Value) (pins:Z3) (s:Shared) (σ:St) (H:Hp) (Q:Bool->Hp->Prop),Inv X pins σ H s->t σ H Q->wpAny (model X.prog X.w) X.A (isTrue e X.env whole) (TP X pins σ Q) X.xe s
def PW.pt(h:PW X e t):PT X e t:=h _
noncomputable def PA(X:Cx)(es:List Expr)(t:TA):Prop:=
 ∀(pos:Pos) (pins:Z3) (s:Shared) (σ:St) (H:Hp) (Q:List V->Hp->Prop),Inv X pins σ H s->t σ H Q->wpAny (model X.prog X.w) X.A (spliced (backTo pos (starEach es X.env))) (AP X pins σ Q) X.xe s
noncomputable def PS(X:Cx)(st:Stmt)(t:TS):Prop:=
 ∀(pins:Z3) (s:Shared) (σ:St) (H:Hp) (D:Ends),Inv X pins σ H s->t D σ H->wpAny (model X.prog X.w) X.A (exec st X.env) (SP X pins D) X.xe s
noncomputable def PSs(X:Cx)(st:List Stmt)(t:TS):Prop:=
 ∀(pins:Z3) (s:Shared) (σ:St) (H:Hp) (D:Ends),Inv X pins σ H s->t D σ H->wpAny (model X.prog X.w) X.A (execs st X.env) (SP X pins D) X.xe s
def thn{α:Type}{t:Sem α}{Q I:α->Shared->Prop}(h:wpAny M A t Q E s)(J:∀a s,Q a s->I a s):wpAny M A t I E s:=ya0 h J fun _ _ x=>x
section
variable{X:Cx}
noncomputable def zu4(i:Nat):TE:=fun σ H Q=>∃v,σ[i]?=some (some v)/\Q v H
noncomputable def tC(v:V):TE:=fun _ H Q=>Q v H
def zaT{i:Nat}{x:Str}{pos:Pos}(hN:X.N[i]?=some x)(hv:Vis X.env.scope x)(hd:autoParam ((x==("__debug__":Str))=false) yAR)(hcd:autoParam ((x==("__classdict__":Str))=false) yAR):PE X (.Name x pos) (zu4 i):=by
 intro pins s σ H Q I h;obtain⟨v,e,h⟩:=h;obtain⟨m,d,f⟩:=I.loc;obtain⟨u,r,l⟩:=f i x v hN e hv;have fin:EP X pins σ Q u s:=⟨v,H,I,r,h⟩
 rcases l with⟨hk,hm⟩|⟨hk,c,b,a⟩
 ·exact wpAny_Name (wpAny_loadName_local I.ok.kind hk d hm fin) hd
 ·rcases hk with hk|hk
  ·exact wpAny_Name (wpAny_loadName_cell I.ok.kind hk b a fin) hd
  ·exact wpAny_Name (wpAny_loadName_free I.ok.kind hk b a fin hcd) hd
def zoO{i j pos}:PE X (.Constant (.int i) j pos) (tC (.int i)):=fun _ _ _ H _ I h=>wpAny_Constant_int ⟨.int i,H,I.tok _,⟨_,rfl⟩,h⟩
def zqv{b j pos}:PE X (.Constant (.bool b) j pos) (tC (.bl b)):=fun _ _ _ H _ I h=>Constant_bool ⟨.bl b,H,I,rfl,h⟩
def zoM{j pos}:PE X (.Constant .none j pos) (tC .non):=fun _ _ _ H _ I h=>Constant_none ⟨.non,H,I,rfl,h⟩
def zoL{x j pos}:PE X (.Constant (.str x) j pos) (tC (.str x)):=fun _ _ _ H _ I h=>Calls.Constant_str ⟨.str x,H,I.tok _,⟨_,rfl⟩,h⟩
noncomputable def Gl(X:Cx)(x:Str):Prop:=X.env.kindOf x=some .globalImplicit
def zc0{E:Z5}{pins:Z3}{s:Shared}{σ:St}{H:Hp}{x:Str}{u:Value}{pos:Pos}{Q:Z5}(I:Inv X pins σ H s)(J:Gl X x)(hm:X.mg x=some u)(h:Q u s)
  (hd:autoParam ((x==("__debug__":Str))=false) yAR):wpAny (model X.prog X.w) X.A (eval (.Name x pos) X.env) Q E s:=
 Calls.Name_function_global I.ok.kind J (Calls.loadGlobal_global (by rw[I.ok.glob];exact I.mod.glob.keeps I.bk) hm h) hd
def zhd{E:Z5}{pins:Z3}{s:Shared}{σ:St}{H:Hp}{x:Str}{u:Value}{pos:Pos}{Q:Z5}(I:Inv X pins σ H s)(U:Gl X x)(hm:X.mg x=none)(hv:bootBuiltins x=some u)(h:Q u s)
  (J:autoParam (x ≠ "__name__") yAR) (hd:autoParam ((x==("__debug__":Str))=false) yAR):wpAny (model X.prog X.w) X.A (eval (.Name x pos) X.env) Q E s:=by
 obtain⟨a,h1,h2⟩:=I.mod.blt;exact Calls.Name_function_global I.ok.kind U (Calls.loadGlobal_builtin (by rw[I.ok.glob];exact I.mod.glob.keeps I.bk) hm (by rw[I.ok.blt];exact h1.keeps I.bk) ((h2 x J).trans hv) h) hd
def zh2{x:Str}{v:V}{u:Value}{pos:Pos}(J:Gl X x)(hm:X.mg x=some u)(r:zaZ v u)(hd:autoParam ((x==("__debug__":Str))=false) yAR):PE X (.Name x pos) (tC v):=
 fun _ _ _ H _ I h=>zc0 I J hm ⟨v,H,I,r,h⟩ hd
def zlp{x:Str}{v:V}{u:Value}{pos:Pos}(U:Gl X x)(hm:X.mg x=none)(hv:bootBuiltins x=some u)(r:zaZ v u)(J:autoParam (x ≠ "__name__") yAR)(hd:autoParam ((x==("__debug__":Str))=false) yAR):PE X (.Name x pos) (tC v):=
 fun _ _ _ H _ I h=>zhd I U hm hv ⟨v,H,I,r,h⟩ J hd
variable{a b:Expr}{ta tb:TE}{pos:Pos}
noncomputable def PC(X:Cx)(op:CmpOp)(a b:Expr)(t:TE):Prop:=
 ∀(pins:Z3) (s:Shared) (σ:St) (H:Hp) (Q:VK),Inv X pins σ H s->t σ H Q →
  wpAny (model X.prog X.w) X.A (eval a X.env) (fun v d=>wpAny (model X.prog X.w) X.A (eval b X.env) (fun u c=>wpAny (model X.prog X.w) X.A (compareOp op v u) (EP X pins σ Q) X.xe c) X.xe d) X.xe s
def zuA(b:Expr){op:CmpOp}(h:op≠.In)(h2:op≠.NotIn):behindInMarks op b=false:=by
 have a:(op==CmpOp.In)=false:=by cases op<;>first|rfl|exact absurd rfl h
 have e2:(op==CmpOp.NotIn)=false:=by cases op<;>first|rfl|exact absurd rfl h2
 cases b<;>simp[behindInMarks,a,e2]
noncomputable def tB(t:TE):TT:=fun σ H Q=>t σ H fun x H1=>∃c,x=.bl c/\Q c H1
def zoP{op:CmpOp}{t:TE}(h:PC X op a b t)(h1:behindInMarks op b=false):PE X (.Compare a [op] [b] pos) t:=fun pins s σ H Q I c=>wpAny_Compare1 (h pins s σ H Q I c) h1
def zoH{op:CmpOp}{t:TE}(h:PC X op a b t)(h1:behindInMarks op b=false):PT X (.Compare a [op] [b] pos) (tB t):=by
 intro pins s σ H Q I g;refine wpAny_isTrue_Compare1 (thn (h pins s σ H _ I g) fun v s1 h1=>thn h1 fun u s2 h2=>thn h2 fun c j ⟨x,H1,i,e,f⟩=>?_) h1;obtain⟨d,rfl,q⟩:=f;cases e;exact ya3 ⟨H1,i,q⟩
def zsx{e:Expr}{t:TE}(h:PE X e t)(he:autoParam (∀whole,isTrue e X.env whole=(do let v ← whole;standAt e.pos;holding [v] (truthy v))) yAU):PT X e (tB t):=by
 intro pins s σ H Q I c;refine isTrue_plain (thn (h pins s σ H _ I c) fun v s1 ⟨x,H1,f,a,b⟩=>?_) (he _);obtain⟨d,rfl,q⟩:=b;cases a;exact ya3 ⟨H1,f,q⟩
variable{tA tB':TT}{zbG:List Expr}
noncomputable def zw6(t u:TT):TT:=fun σ H Q=>t σ H fun c H1=>if c=true then u σ H1 Q else Q false H1
noncomputable def tOr(t u:TT):TT:=fun σ H Q=>t σ H fun c H1=>if c=true then Q true H1 else u σ H1 Q
noncomputable def zw4(t:TT):TT:=fun σ H Q=>t σ H fun c H1=>Q (!c) H1
def zqe(J:PT X a tA):PW X (.BoolOp .And [a] pos) tA:=by
 intro b pins s σ H Q I h;refine isTrue_and (thn (J pins s σ H Q I h) fun c s1 e=>?_)
 cases c with
 |true=>exact isTrue_and_nil e|false=>exact e
def zoG(J:PT X a tA):PW X (.BoolOp .Or [a] pos) tA:=by
 intro b pins s σ H Q I h;refine isTrue_or (thn (J pins s σ H Q I h) fun c s1 e=>?_)
 cases c with
 |false=>exact isTrue_or_nil e|true=>exact e
def zsu(J:PT X a tA)(hb:PW X (.BoolOp .And (b::zbG) pos) tB'):PW X (.BoolOp .And (a::b::zbG) pos) (zw6 tA tB'):=by
 intro f pins s σ H Q I h;refine isTrue_and (thn (J pins s σ H _ I h) fun c s1 ⟨H1,e,d⟩=>?_)
 cases c with
 |true=>exact hb f pins s1 σ H1 Q e d|false=>exact⟨H1,e,d⟩
def zvt(J:PT X a tA)(hb:PW X (.BoolOp .Or (b::zbG) pos) tB'):PW X (.BoolOp .Or (a::b::zbG) pos) (tOr tA tB'):=by
 intro f pins s σ H Q I h;refine isTrue_or (thn (J pins s σ H _ I h) fun c s1 ⟨H1,e,d⟩=>?_)
 cases c with
 |true=>exact⟨H1,e,d⟩|false=>exact hb f pins s1 σ H1 Q e d
def zsy(J:PT X a tA):PT X (.UnaryOp .Not a pos) (zw4 tA):=by
 intro pins s σ H Q I h;exact isTrue_not (J pins s σ H (fun c H1=>Q (!c) H1) I h)
noncomputable def zvd(ta tb:TE):TE:=fun σ H Q=>ta σ H fun x H1=>∃c,x=.bl c/\if c=true then tb σ H1 Q else Q (.bl false) H1
noncomputable def zyv(ta tb:TE):TE:=fun σ H Q=>ta σ H fun x H1=>∃c,x=.bl c/\if c=true then Q (.bl true) H1 else tb σ H1 Q
noncomputable def zu5(ta:TE):TE:=fun σ H Q=>ta σ H fun x H1=>∃c,x=.bl c/\Q (.bl (!c)) H1
def zsG{op}(h:PE X a t):PE X (.BoolOp op [a] pos) t:=fun pins s σ H Q I b=>BoolOp_one (h pins s σ H Q I b)
def zsK(J:PE X a ta)(hb:PE X (.BoolOp .And (b::zbG) pos) tb):PE X (.BoolOp .And (a::b::zbG) pos) (zvd ta tb):=by
 intro pins s σ H Q I h;refine BoolOp_and (thn (J pins s σ H _ I h) fun v s1 ⟨x,H1,e,f,d⟩=>?_);obtain⟨c,rfl,d⟩:=d;cases f;refine ya3 ?_
 cases c with
 |true=>exact hb pins s1 σ H1 Q e d|false=>exact⟨.bl false,H1,e,rfl,d⟩
def zvw(J:PE X a ta)(hb:PE X (.BoolOp .Or (b::zbG) pos) tb):PE X (.BoolOp .Or (a::b::zbG) pos) (zyv ta tb):=by
 intro pins s σ H Q I h;refine BoolOp_or (thn (J pins s σ H _ I h) fun v s1 ⟨x,H1,e,f,d⟩=>?_);obtain⟨c,rfl,d⟩:=d;cases f;refine ya3 ?_
 cases c with
 |false=>exact hb pins s1 σ H1 Q e d|true=>exact⟨.bl true,H1,e,rfl,d⟩
def zsH(J:PE X a ta):PE X (.UnaryOp .Not a pos) (zu5 ta):=by
 intro pins s σ H Q I h;refine UnaryOp_ (thn (J pins s σ H _ I h) fun v s1 ⟨x,H1,e,d,b⟩=>?_);obtain⟨c,rfl,b⟩:=b;cases d;exact not_of (ya3 ⟨.bl (!c),H1,e,rfl,b⟩)
noncomputable def tIf(t:TT)(ta tb:TE):TE:=fun σ H Q=>t σ H fun c H1=>if c=true then ta σ H1 Q else tb σ H1 Q
def znl(J:PT X c tA)(U:PE X a ta)(hb:PE X b tb):PE X (.IfExp c a b pos) (tIf tA ta tb):=by
 intro pins s σ H Q I h;refine wpAny_IfExp (thn (J pins s σ H _ I h) fun d s1 ⟨H1,f,e⟩=>?_)
 cases d with
 |true=>exact U pins s1 σ H1 Q f e|false=>exact hb pins s1 σ H1 Q f e
end
noncomputable def SqL(K:PySem.W.Frag)(H:Hp)(a:Addr)(xs:List V):Prop:=
 Rd H a (.lst xs) ∨
  ∃(o:Obj) (aa:Array Value) (n:Nat),K.lookup a=some o/\o.cls=.type "list" /\ o.dict=none/\o.data=.seq aa n/\aa.size<=sizeLine/\Vals xs aa.toList
noncomputable def SqT(K:PySem.W.Frag)(H:Hp)(a:Addr)(xs:List V):Prop:=
 Rd H a (.tup xs) ∨
  ∃(o:Obj) (aa:Array Value) (n:Nat),K.lookup a=some o/\o.cls=.type "tuple" /\ o.data=.seq aa n/\aa.size<=sizeLine/\Vals xs aa.toList
noncomputable def zzT:Value->Option V
 |.none=>some .non|.bool b=>some (.bl b)|.int i _=>some (.int i)|.str x _=>some (.str x)|.bytes b _=>some (.byt b)|.float b _=>some (.flt b)|.ref a=>some (.ref a)|.type n=>some (.ty n)|_=>none
def zaZ.abs(r:zaZ x u):zzT u=some x:=by
 cases x with
 |non=>cases r;rfl|bl _=>cases r;rfl|int _=>obtain⟨t,rfl⟩:=r;rfl|str _=>obtain⟨t,rfl⟩:=r;rfl|byt _=>obtain⟨t,rfl⟩:=r;rfl|flt _=>obtain⟨t,rfl⟩:=r;rfl|ref _=>cases r;rfl|ty _=>cases r;rfl
theorem zaZ.inj(r:zaZ x u)(q:zaZ y u):x=y:=Option.some.inj (r.abs.symm.trans q.abs)
theorem Vals.inj:∀{xs ys:List V}{us:List Value},Vals xs us->Vals ys us->xs=ys
 |_,_,_,.nil,.nil=>rfl|_,_,_,.cons r t,.cons a t'=>by rw[r.inj a,Vals.inj t t']
section
variable{X:Cx}{pins:Z3}{σ:St}{H:Hp}{s:Shared}{a:Addr}{xs ys:List V}
def SqL.of{K:PySem.W.Frag}(h:H a=some (.lst xs)):SqL K H a xs:=.inl (.inl h)
def SqT.of{K:PySem.W.Frag}(h:H a=some (.tup xs)):SqT K H a xs:=.inl (.inl h)
theorem Inv.list(I:Inv X pins σ H s)(h:SqL X.K H a xs):∃aa:List Value,Vals xs aa/\PlainL s.heap a aa.toArray/\xs.length<=sizeLine:=by
 rcases h with h|⟨o,aa,n,hk,b,hd,hs,c,r⟩
 ·obtain⟨z,aa,n,r,e⟩:=h.ok I.hok;exact⟨aa,r,⟨_,n,e,rfl,rfl,rfl⟩,z⟩
 ·refine⟨aa.toList,r,⟨o,n,I.kIn a o hk,b,hd,by simpa using hs⟩,?_⟩;have e:=r.length;simp only[yba]at e;omega
def Inv.tuple(I:Inv X pins σ H s)(h:SqT X.K H a xs):∃aa:List Value,Vals xs aa/\IsTup s.heap a aa.toArray/\xs.length<=sizeLine:=by
 rcases h with h|⟨o,aa,n,hk,b,hs,c,r⟩
 ·obtain⟨z,aa,r,p⟩:=h.ok I.hok;exact⟨aa,r,p.t,z⟩
 ·refine⟨aa.toList,r,⟨o,I.kIn a o hk,b,n,by simpa using hs⟩,?_⟩;have e:=r.length;simp only[yba]at e;omega
def Inv.list_inj(I:Inv X pins σ H s)(h:SqL X.K H a xs)(h':SqL X.K H a ys):xs=ys:=by
 obtain⟨aa,r,⟨o,n,e,_,_,d⟩,_⟩:=I.list h;obtain⟨ay,c,⟨o',g,b,_,_,d'⟩,_⟩:=I.list h';rw[e]at b;cases b;rw[d]at d'
 injection d' with f _
 have:aa=ay:=by simpa using congrArg Array.toList f
 subst this;exact r.inj c
def Inv.tuple_inj(I:Inv X pins σ H s)(h:SqT X.K H a xs)(h':SqT X.K H a ys):xs=ys:=by
 obtain⟨aa,r,⟨o,e,_,n,d⟩,_⟩:=I.tuple h;obtain⟨ay,c,⟨o',b,_,g,d'⟩,_⟩:=I.tuple h';rw[e]at b;cases b;rw[d]at d'
 injection d' with f _
 have:aa=ay:=by simpa using congrArg Array.toList f
 subst this;exact r.inj c
end
section
variable{X:Cx}{st:Stmt}{zbG:List Stmt}{t u:TS}{e:Expr}{te:TE}{pos:Pos}
noncomputable def zu6:TS:=fun D σ H=>D.nx σ H
noncomputable def zyu(t u:TS):TS:=fun D σ H=>t {D with nx:=u D} σ H
def zqg:PSs X [] zu6:=fun _ _ σ H _ I h=>ycT ⟨σ,H,I,h⟩
def zna(h1:PS X st t)(h2:PSs X zbG u):PSs X (st::zbG) (zyu t u):=by
 intro pins s σ H D I h;refine wpAny_execs_cons (thn (h1 pins s σ H {D with nx:=u D} I h) fun f s1 q=>?_)
 cases f with
 |next=>
  obtain⟨a,H',b,q⟩:=q;exact h2 pins s1 a H' D b q
 |ret v=>exact q|brk=>exact q|cont=>exact q
def zh1(h1:PS X st t):PSs X [st] t:=by
 intro pins s σ H D I h;refine wpAny_execs_cons (thn (h1 pins s σ H D I h) fun f s1 q=>?_)
 cases f with
 |next=>exact ycT q|ret v=>exact q|brk=>exact q|cont=>exact q
def Inv.quiet(I:Inv X pins σ H s):interactive X.env=false:=by simp[interactive,I.ok.kind]
noncomputable def zva(te:TE):TS:=fun D σ H=>te σ H fun _ H1=>D.nx σ H1
def zd3(he:PE X e te)(hs:autoParam (swapsWith e none pos.line X.env=pure false) yAW):PS X (.Expr e pos) (zva te):=by
 intro pins s σ H D I h;exact wpAny_Expr_any (thn (he pins s σ H _ I h) fun v s1 ⟨x,H1,b,c,a⟩=>⟨σ,H1,b,a⟩) I.quiet hs
noncomputable def zrI(te:TE):TS:=fun D σ H=>te σ H D.rt
def zgZ(he:PE X e te):PS X (.Return (some e) pos) (zrI te):=by
 intro pins s σ H D I h;exact wpAny_Return_some (thn (he pins s σ H _ I h) fun v s1 ⟨x,H1,c,a,b⟩=>⟨x,σ,H1,c,a,b⟩)
noncomputable def zyy(c:TT)(t u:TS):TS:=fun D σ H=>c σ H fun b H1=>if b=true then t D σ H1 else u D σ H1
def zvu(J:PT X c tc)(U:PSs X a t)(hb:PSs X b u):PS X (.If c a b pos) (zyy tc t u):=by
 intro pins s σ H D I h;refine wpAny_If (thn (J pins s σ H _ I h) fun d s1 ⟨H1,f,e⟩=>?_)
 cases d with
 |true=>exact U pins s1 σ H1 D f e|false=>exact hb pins s1 σ H1 D f e
end
noncomputable abbrev TG:=V->St->Hp->(St->Hp->Prop)->Prop
noncomputable abbrev TGs:=List V->St->Hp->(St->Hp->Prop)->Prop
noncomputable def PG(X:Cx)(target:Expr)(t:TG):Prop:=
 ∀(pins:Z3) (s:Shared) (σ:St) (H:Hp) (v:V) (u:Value) (Q:St->Hp->Prop),Inv X pins σ H s->zaZ v u->t v σ H Q →
  wpAny (model X.prog X.w) X.A (assign target X.env u) (fun _ s'=>∃a H',Inv X pins a H' s'/\Q a H') X.xe s
noncomputable def PGs(X:Cx)(ts:List Expr)(t:TGs):Prop:=
 ∀(pins:Z3) (s:Shared) (σ:St) (H:Hp) (vs:List V) (us:List Value) (Q:St->Hp->Prop),Inv X pins σ H s->Vals vs us->t vs σ H Q →
  wpAny (model X.prog X.w) X.A (assignInOrder ((assignEach ts X.env).map (·.2)) us) (fun _ s'=>∃a H',Inv X pins a H' s'/\Q a H') X.xe s
noncomputable abbrev zki:=V->V->V->Hp->(Hp->Prop)->Prop
noncomputable def zxX(X:Cx)(t:zki):Prop:=
 ∀(pins:Z3) (s:Shared) (σ:St) (H:Hp) (o i v:V) (a b u:Value) (Q:Hp->Prop),Inv X pins σ H s->zaZ o a->zaZ i b->zaZ v u->t o i v H Q →
  wpAny (model X.prog X.w) X.A (setItem a b u) (fun _ s'=>∃H',Inv X pins σ H' s'/\Q H') X.xe s
section
variable{X:Cx}{pos:Pos}
noncomputable def zma(i:Nat):TG:=fun v σ H Q=>Q (σ.set i (some v)) H
def zlm{i:Nat}{x:Str}(hN:X.N.Nodup)(hi:X.N[i]?=some x)(J:Loc X.env.scope x)(hf:X.fn x=true\/X.env.scope.names.lookup x=some .local):PG X (.Name x pos) (zma i):=by
 intro pins s σ H v u Q I r h;exact wpAny_assign_Name (zdc I hN hi J r (fun s' a=>⟨_,H,a,h⟩) hf)
noncomputable def zzE:TGs:=fun vs σ H Q=>vs=[]/\Q σ H
noncomputable def zv3(t:TG)(u:TGs):TGs:=fun vs σ H Q=>∃v r,vs=v::r/\t v σ H fun a H'=>u r a H' Q
def zqr:PGs X [] zzE:=by
 intro pins s σ H vs us Q I r h;obtain⟨e,h⟩:=h;subst e;cases r;exact assignInOrder_nil ⟨σ,H,I,h⟩
def zng{e:Expr}{es:List Expr}{t:TG}{u:TGs}(h1:PG X e t)(h2:PGs X es u)
  (hs:autoParam ((assignEach (e::es) X.env).map (·.2)=assign e X.env::(assignEach es X.env).map (·.2)) yAW):PGs X (e::es) (zv3 t u):=by
 intro pins s σ H vs us Q I r h;obtain⟨v,g,d,h⟩:=h;subst d
 cases r with
 |cons r b=>
  rw[hs];refine yc0 (thn (h1 pins s σ H _ _ _ I r h) fun _ s1 ⟨a,H1,f,c⟩=>?_);exact h2 pins s1 a H1 _ _ Q f b c
noncomputable def zzC(K:PySem.W.Frag)(n:Nat)(t:TGs):TG:=fun v σ H Q=>∃a xs,v=.ref a/\SqT K H a xs/\xs.length=n/\t xs σ H Q
def zsD{es:List Expr}{k:Nat}{t:TGs}{n:Nat}(hc:X.calm=true)(h:PGs X es t)
  (U:autoParam ((assignEach es X.env).length=n) yAW) (J:autoParam ((assignEach es X.env).findIdx? (·.1)=none) yAW):PG X (.Tuple es k pos) (zzC X.K n t):=by
 intro pins s σ H v u Q I r c;obtain⟨a,xs,l,i,j,c⟩:=c;subst l;cases r;obtain⟨aa,d,g,p⟩:=I.tuple i;refine assign_Tuple_tuple (I.ok.hd hc) g (by simp[U,<-j,d.length]) J fun h' f=>?_
 have m:Inv X pins σ H {s with heap:=h'}:=I.kept (t':=s.toks) fun b o e=>f b o (yaB (yau e)) e
 exact h pins _ σ H xs _ Q m (by simpa using d) c
noncomputable def zzD(to ti:TE)(t:zki):TG:=fun v σ H Q=>to σ H fun o H1=>ti σ H1 fun i H2=>t o i v H2 fun a=>Q σ a
def zsE{o i:Expr}{to ti:TE}{t:zki}(ho:PE X o to)(hi:PE X i ti)(hs:zxX X t)
  (ha:autoParam (∀v,assign (.Subscript o i pos) X.env v=(do
   let J ← holding [v] (eval o X.env)
   let U ← holding [v,J] (eval i X.env)
   standAt pos
   holding [v,J,U] (setItem J U v)
   release [v,J,U] [])) yAU):PG X (.Subscript o i pos) (zzD to ti t):=by
 intro pins s σ H v u Q I r h;rw[ha];refine yac (ybr (thn (ho pins s σ H _ I h) fun J s1 ⟨x,H1,g,a,d⟩=>?_));refine yac (ybr (thn (hi pins s1 σ H1 _ g d) fun U s2 ⟨y,H2,f,r2,c⟩=>?_));refine yac (ydf (yac (ybr (thn (hs pins s2 σ H2 x y v J U u _ f a r2 r c) fun _ k ⟨j,e,b⟩=>?_))));exact wpAny_release ⟨σ,j,e,b⟩
noncomputable def zrv(te:TE)(g:TG):TS:=fun D σ H=>te σ H fun x H1=>g x σ H1 D.nx
def zoJ{tg e:Expr}{te:TE}{g:TG}(he:PE X e te)(J:PG X tg g)(hs:autoParam (swapsWithSole [tg] e pos.line X.env=pure false) yAW)(hw:autoParam (swappedStores [tg] e X.env=pure none) yAW)
  (h1:autoParam ((assignEach [tg] X.env).map (·.2)=[assign tg X.env]) yAW):PS X (.Assign [tg] e pos) (zrv te g):=by
 intro pins s σ H D I h;refine wpAny_Assign_stores (thn (he pins s σ H _ I h) fun v s1 ⟨x,H1,c,a,b⟩=>?_) hs hw;rw[h1];exact thn (J pins s1 σ H1 x v _ c a b) fun _ s2 q=>q
def zoI{i:Nat}{x:Str}{e:Expr}{te:TE}{pos':Pos}(hN:X.N.Nodup)(hi:X.N[i]?=some x)(J:Loc X.env.scope x)(he:PE X e te)(hs:autoParam (swapsWith e (some (.Name x pos')) pos.line X.env=pure false) yAW)(hf:X.fn x=true\/X.env.scope.names.lookup x=some .local):
  PS X (.Assign [.Name x pos'] e pos) (zrv te (zma i)):=by
 intro pins s σ H D I h;refine wpAny_Assign_Name (thn (he pins s σ H _ I h) fun v s1 ⟨y,H1,d,a,b⟩=>?_) hs;exact zdc d hN hi J a (fun s2 c=>⟨_,H1,c,b⟩) hf
noncomputable def zw3(i j:Nat)(ta:TA):TS:=fun D σ H=>ta σ H fun vs H1=>∃v w,vs=[v,w]/\D.nx ((σ.set i (some v)).set j (some w)) H1
def zsz{i j:Nat}{x y:Str}{a b:Expr}{ta:TA}{px py pt:Pos}{kt k2 pt2}(hc:X.calm=true)(hN:X.N.Nodup)(hi:X.N[i]?=some x)(hj:X.N[j]?=some y)(J:i≠j)
  (hx:X.env.scope.names.lookup x=some .local) (U:X.env.scope.names.lookup y=some .local) (ha:PA X [a,b] ta)
  (hw:swappedStores [.Tuple [.Name x px,.Name y py] kt pt] (.Tuple [a,b] k2 pt2) X.env=pure (some [x,y]))
  (hs:autoParam (swapsWithSole [.Tuple [.Name x px,.Name y py] kt pt] (.Tuple [a,b] k2 pt2) pos.line X.env=pure false) yAW):
  PS X (.Assign [.Tuple [.Name x px,.Name y py] kt pt] (.Tuple [a,b] k2 pt2) pos) (zw3 i j ta):=by
 intro pins s σ H D I h;rw[exec_Assign_arm];refine yac (ydf ?_);rw[hs];refine yac (yak ?_);rw[if_neg (by decide)];refine yac (Tuple_ (thn (ha _ pins s σ H _ I h) fun us s1 ⟨vs,H1,B,l,d⟩=>?_));obtain⟨v,w,r,d⟩:=d;subst r
 obtain⟨u1,u2,rfl,k,c⟩:∃u1 u2,us=[u1,u2]/\zaZ v u1/\zaZ w u2:=by
  cases l with
  |cons p q=>
   cases q with
   |cons n m=>
    cases m;exact⟨_,_,rfl,p,n⟩
 refine ybj ?_ (by show 2<=sizeLine;decide);have z:Inv X pins σ H1 {s1 with heap:=s1.heap.push {cls:=.type "tuple",data:=.seq [u1,u2].toArray}}:=B.kept (t':=s1.toks) fun b o e=>yag _ e
 rw[hw];refine yac (yak ?_);show wpAny (model X.prog X.w) X.A (do rule "assign.swapped-stores";let items ← unpackItems (.ref s1.heap.objs.size) 2 none;assignInOrder [fun v=>bindName X.env y v,fun v=>bindName X.env x v] items.reverse;pure Flow.next) _ _ _;refine yac (wpAny_rule (yac (unpackItems_tuple (items:=#[u1,u2]) (I.ok.hd hc) (IsTup.new s1.heap _) fun h' f=>?_)));have u:=z.kept (h':=h') (t':=s1.toks) fun b o e=>f b o (yaB (yau e)) e
 show wpAny _ _ (assignInOrder [fun v=>bindName X.env y v,fun v=>bindName X.env x v] [u2,u1] >>= fun _=>pure Flow.next) _ _ _;refine yac (yc0 (wpAny_bindName (zdc u hN hj (.inl U) c (fun s2 t=>?_) (.inr U))));refine yc0 (wpAny_bindName (zdc t hN hi (.inl hx) k (fun C g=>assignInOrder_nil (yak ?_)) (.inr hx)));rw[List.set_comm _ _ (Ne.symm J)]at g;exact⟨_,H1,g,d⟩
end
structure It where
 go:Nat->Hp->Prop
 yld:Nat->Hp->V->Hp->Prop
 stop:Nat->Hp->Prop
noncomputable def zmE(X:Cx)(pins:Z3)(H:Hp)(b:Addr):Prop:=
 H b=none/\b≠X.env.locals/\b ∉ X.fs/\(b∈X.ex\/X.s₀.heap.objs.size<=b)/\(∀x c,X.env.cells.lookup x=some c->c≠b)/\∀p∈X.pn++pins,p.1≠b
def Inv.fpOk(I:Inv X pins σ H s)(hb:s.heap.objs.size<=b)(J:H' b=none):zmE X pins H' b:=by
 refine⟨J,ya1 (yan I.lt hb),I.nofs hb,.inr (yav I.sz hb),fun x c e z=>?_,fun p a z=>?_⟩
 ·obtain⟨v,q⟩:=I.cell x c e;exact absurd (yan q.lt (by rw[z];exact hb)) (yaT _)
 ·exact absurd (yan (yau (I.pin p a).1) (by rw[z];exact hb)) (yaT _)
structure Turn(P:Program)(w:World)(K:PySem.W.Frag)(tg:Expr)(J:It)(fp:List Addr)(it:Addr)(tn:Nat->Heap->Prop):Prop where
 mem:it∈fp
 obj:∀i h,tn i h->∀b∈fp,∃o,h.get? b=some o/\∀v,o.data≠.cell v
 keep:∀i h h',tn i h->(∀b∈fp,∀o,h.get? b=some o->h'.get? b=some o)->tn i h'
 item:∀(X:Cx),X.prog=P->X.w=w->X.K=K->X.calm=true->∀(i:Nat) (pins:Z3) (s:Shared) (σ:St) (H:Hp) (E:Z5),Inv X pins σ H s->(∀b∈fp,zmE X pins H b)->tn i s.heap->J.go i H →
  wpAny (model P w) X.A (pyNext (.ref it)) (fun r s1=>∃u,r=some u ∧
   wpAny (model P w) X.A (letOwnedTupleGo tg (.ref it) u) (fun _ s2=>∃x H',Inv X pins σ H' s2/\zaZ x u/\J.yld i H x H'/\tn (i+1) s2.heap/\∀b∈fp,H' b=none) E s1) E s
 done:∀(X:Cx),X.prog=P->X.w=w->X.K=K->X.calm=true->∀(i:Nat) (pins:Z3) (s:Shared) (σ:St) (H:Hp) (E:Z5),Inv X pins σ H s->(∀b∈fp,zmE X pins H b)->tn i s.heap->J.stop i H →
  wpAny (model P w) X.A (pyNext (.ref it)) (fun r s1=>r=none/\Inv X pins σ H s1) E s
 self:∀(A:Around) (i:Nat) (s:Shared) (Q:Z5) (E:Z5),tn i s.heap->Q (.ref it) s->wpAny (model P w) A (pyIter (.ref it)) Q E s
noncomputable abbrev TI:=St->Hp->(It->Hp->Prop)->Prop
noncomputable def PIE(X:Cx)(pins:Z3)(σ:St)(tg:Expr)(R:It->Hp->Prop)(I:Value)(s2:Shared):Prop:=
 ∃(it:Addr) (fp:List Addr) (a:Nat->Heap->Prop) (J:It) (H':Hp),I=.ref it/\Inv X pins σ H' s2/\Turn X.prog X.w X.K tg J fp it a/\a 0 s2.heap/\(∀b∈fp,zmE X pins H' b)/\R J H'
noncomputable def PI(X:Cx)(tg iter:Expr)(wi:TI):Prop:=
 ∀(pins:Z3) (s:Shared) (σ:St) (H:Hp) (R:It->Hp->Prop),Inv X pins σ H s->wi σ H R →
  wpAny (model X.prog X.w) X.A (eval iter X.env) (fun v s1=>wpAny (model X.prog X.w) X.A (pyIter v) (PIE X pins σ tg R) X.xe s1) X.xe s
def znV (ho : s.heap.get? it=some o) (U : o.cls=.type n) (hd : o.data=.fields vs)
    (J : ["enumerate", "zip", "dict_itemiterator", "dict_reverseitemiterator", "odict_iterator", "itertools.zip_longest", "itertools.pairwise"].contains n=false) (I : Q () s): wpAny M A (letOwnedTupleGo tg (.ref it) u) Q E s:= by
  unfold letOwnedTupleGo
  cases tg <;> first
    |exact yak I
    | (cases u <;> first
        |exact yak I
        | (refine yac (wpAny_load ho ?_)
           rw[U, hd];show wpAny M A (if(["enumerate", "zip", "dict_itemiterator", "dict_reverseitemiterator", "odict_iterator", "itertools.zip_longest", "itertools.pairwise"].contains n && vs[0]?==some (rawInt _))=true then _ else _) Q E s;rw[if_neg (by intro h; rw[J, Bool.false_and]at h; cases h)]
           exact yak I))
noncomputable def Itl(K:PySem.W.Frag)(a:Addr):It:=
 ⟨fun i H=>∃xs x,SqL K H a xs/\xs[i]?=some x,fun i H x H'=>H'=H/\∀xs,SqL K H a xs->xs[i]?=some x,fun i H=>∃xs,SqL K H a xs/\xs.length<=i⟩
noncomputable def Itt(K:PySem.W.Frag)(a:Addr):It:=
 ⟨fun i H=>∃xs x,SqT K H a xs/\xs[i]?=some x,fun i H x H'=>H'=H/\∀xs,SqT K H a xs->xs[i]?=some x,fun i H=>∃xs,SqT K H a xs/\xs.length<=i⟩
noncomputable def Itr(lo:Int)(n:Nat):It:=⟨fun i _=>i<n,fun i H x H'=>H'=H/\x=.int (lo+i),fun i _=>n<=i⟩
theorem zkw{P:Program}{K:PySem.W.Frag}(a it:Addr):Turn P w K tg (Itl K a) [it] it (fun i h=>h.IsListIter it a i)where
 mem:=by simp
 obj:=fun i h st b hb=>by
  have e:b=it:=by simpa using hb
  subst e;obtain⟨o,e,c,d⟩:=st;exact⟨o,e,fun v z=>by rw[d]at z;cases z⟩
 keep:=fun i h h' st k=>st.at fun o e=>k it (by simp) o e
 item:=by
  intro X q m r C i pins s σ H E I hf st n;subst q m r;obtain⟨xs,x,g,l⟩:=n;obtain⟨aa,j,p,G⟩:=I.list g;obtain⟨u,L,F⟩:=j.get l;obtain⟨B,f1,f2,A,y,t⟩:=hf it (by simp);refine wpAny_pyNext_list_item st p.isList (x:=u) (by simpa using L) fun h' f D=>?_
  have N:Inv X pins σ H {s with heap:=h'}:=I.turned (t':=s.toks) (fun b o hb e=>(D.2 b hb).trans e) B f1 A y t;obtain⟨o,e,c,d⟩:=id f;exact⟨u,rfl,znV (s:={s with heap:=h'}) e c d (by decide) ⟨x,H,N,F,⟨rfl,fun ys J=>by rw[I.list_inj J g];exact l⟩,f,fun b hb=>(hf b hb).1⟩⟩
 done:=by
  intro X q m r C i pins s σ H E I hf st n;subst q m r;obtain⟨xs,g,l⟩:=n;obtain⟨aa,j,p,G⟩:=I.list g;obtain⟨B,f1,f2,A,y,t⟩:=hf it (by simp);have O:=j.length;exact wpAny_pyNext_list_end (I.ok.hd C) st p.isList (by simp;omega) fun h' M=>⟨rfl,I.turned (t':=s.toks) (fun b o hb e=>M b o hb e) B f1 A y t⟩
 self:=fun _ _ _ _ _ st h=>wpAny_pyIter_listiter st h
def zjF{P:Program}{K:PySem.W.Frag}(a it:Addr):Turn P w K tg (Itt K a) [it] it (fun i h=>h.IsTupleIter it a i)where
 mem:=by simp
 obj:=fun i h st b hb=>by
  have e:b=it:=by simpa using hb
  subst e;obtain⟨o,e,c,d⟩:=st;exact⟨o,e,fun v z=>by rw[d]at z;cases z⟩
 keep:=fun i h h' st k=>st.at fun o e=>k it (by simp) o e
 item:=by
  intro X q m r C i pins s σ H E I hf st n;subst q m r;obtain⟨xs,x,g,l⟩:=n;obtain⟨aa,j,p,G⟩:=I.tuple g;obtain⟨u,L,F⟩:=j.get l;obtain⟨B,f1,f2,A,y,t⟩:=hf it (by simp);refine wpAny_pyNext_tuple_item st (show s.heap.IsTuple a aa.toArray from p) (x:=u) (by simpa using L) fun h' f D=>?_
  have N:Inv X pins σ H {s with heap:=h'}:=I.turned (t':=s.toks) (fun b o hb e=>(D.2 b hb).trans e) B f1 A y t;obtain⟨o,e,c,d⟩:=id f;exact⟨u,rfl,znV (s:={s with heap:=h'}) e c d (by decide) ⟨x,H,N,F,⟨rfl,fun ys J=>by rw[I.tuple_inj J g];exact l⟩,f,fun b hb=>(hf b hb).1⟩⟩
 done:=by
  intro X q m r C i pins s σ H E I hf st n;subst q m r;obtain⟨xs,g,l⟩:=n;obtain⟨aa,j,p,G⟩:=I.tuple g;obtain⟨B,f1,f2,A,y,t⟩:=hf it (by simp);have O:=j.length;exact wpAny_pyNext_tuple_end (I.ok.hd C) st (show s.heap.IsTuple a aa.toArray from p) (by simp;omega) fun h' M=>⟨rfl,I.turned (t':=s.toks) (fun b o hb e=>M b o hb e) B f1 A y t⟩
 self:=fun _ _ _ _ _ st h=>wpAny_pyIter_tupleiter st h
theorem zjG{P:Program}{K:PySem.W.Frag}(it:Addr)(lo:Int)(n:Nat):Turn P w K tg (Itr lo n) [it] it (fun i h=>IsRangeIter h it (lo+(i:Nat)*1) ((n:Int)-(i:Nat)) 1)where
 mem:=by simp
 obj:=fun i h st b hb=>by
  have e:b=it:=by simpa using hb
  subst e
  exact⟨_,st,fun v z=>by
   have r:Data.fields _=Data.cell v:=z
   cases r⟩
 keep:=fun i h h' st k=>k it (by simp) _ st
 item:=by
  intro X g c j f i pins s σ H E I hf st d;subst g c j;obtain⟨q,f1,f2,p,m,l⟩:=hf it (by simp);have W:=Walks.range (prog:=X.prog) (w:=X.w) (I.ok.hd f) it lo 1 n;refine W.item i s _ _ d st fun v h' tk hv a kk=>?_
  obtain⟨t,rfl⟩:=hv;have x:Inv X pins σ H {s with heap:=h',toks:=tk}:=I.turned (fun b o hb e=>kk b o (by simpa using hb) e) q f1 p m l;refine⟨_,rfl,znV (s:={s with heap:=h',toks:=tk}) (n:="range_iterator") a rfl rfl (by decide) ⟨.int (lo+i),H,x,⟨t,?_⟩,⟨rfl,rfl⟩,a,fun b hb=>(hf b hb).1⟩⟩;rw[Int.mul_one]
 done:=by
  intro X g c j f i pins s σ H E I hf st d;subst g c j;obtain⟨q,f1,f2,p,m,l⟩:=hf it (by simp);exact wpAny_pyNext_range_end (I.ok.hd f) st (by have:n<=i:=d;omega) fun h' u=>⟨rfl,I.turned (t':=s.toks) (fun b o hb e=>u b o hb e) q f1 p m l⟩
 self:=fun _ _ _ _ _ st h=>wpAny_pyIter_rangeiter st h
section
variable{X:Cx}{tg:Expr}
noncomputable def zv2(K:PySem.W.Frag)(tl:TE):TI:=fun σ H R=>tl σ H fun x H1=>∃a,x=.ref a/\(∃xs,SqL K H1 a xs)/\R (Itl K a) H1
noncomputable def zzz(K:PySem.W.Frag)(tl:TE):TI:=fun σ H R=>tl σ H fun x H1=>∃a,x=.ref a/\(∃xs,SqT K H1 a xs)/\R (Itt K a) H1
def zqq(J:PE X l tl):PI X tg l (zv2 X.K tl):=by
 intro pins s σ H R I h;refine thn (J pins s σ H _ I h) fun v s1 ⟨x,H1,c,d,f⟩=>?_
 obtain⟨a,e,⟨xs,g⟩,q⟩:=f;subst e;cases d;obtain⟨aa,i,p,j⟩:=c.list g;refine wpAny_pyIter_list p.isList ?_;refine⟨s1.heap.objs.size,[s1.heap.objs.size],_,_,H1,rfl,c.kept (t':=s1.toks) fun b o e=>yag _ e,zkw a _,⟨_,yaw _ rfl,rfl,rfl⟩,fun b hb=>?_,q⟩
 have e:b=s1.heap.objs.size:=by simpa using hb
 subst e;exact c.fpOk (yai _) (c.hok.fresh (yai _))
def zsB(J:PE X l tl):PI X tg l (zzz X.K tl):=by
 intro pins s σ H R I h;refine thn (J pins s σ H _ I h) fun v s1 ⟨x,H1,c,d,f⟩=>?_
 obtain⟨a,e,⟨xs,g⟩,q⟩:=f;subst e;cases d;obtain⟨aa,i,p,j⟩:=c.tuple g;refine yco (show s1.heap.IsTuple a aa.toArray from p) ?_;refine⟨s1.heap.objs.size,[s1.heap.objs.size],_,_,H1,rfl,c.kept (t':=s1.toks) fun b o e=>yag _ e,zjF a _,⟨_,yaw _ rfl,rfl,rfl⟩,fun b hb=>?_,q⟩
 have e:b=s1.heap.objs.size:=by simpa using hb
 subst e;exact c.fpOk (yai _) (c.hok.fresh (yai _))
theorem zm5{pins:Z3}{σ:St}{H:Hp}{s:Shared}{R:It->Hp->Prop}{E:Z5}{lo hi:Int}{t u v:Tok}{tk:Nat}(I:Inv X pins σ H s)(h1:-(2 ^ 62)<=lo)(h2:lo<2 ^ 62)(U:-(2 ^ 62)<=hi)(J:hi<2 ^ 62)
  (q:R (Itr lo (hi-lo).toNat) H):wpAny (model X.prog X.w) X.A (pyIter (.ref s.heap.objs.size)) (PIE X pins σ tg R) E {s with heap:=s.heap.push {cls:=.type "range",data:=.fields #[.int lo t,.int hi u,.int 1 v]},toks:=tk}:=by
 refine wpAny_pyIter_range (IsRange.new ..) (small_one h1 h2 U J) ?_;have a:Inv X pins σ H {s with heap:=s.heap.push {cls:=.type "range",data:=.fields #[.int lo t,.int hi u,.int 1 v]},toks:=tk}:=I.kept fun b o e=>yag _ e
 refine⟨(s.heap.push {cls:=.type "range",data:=.fields #[.int lo t,.int hi u,.int 1 v]}).objs.size,[(s.heap.push {cls:=.type "range",data:=.fields #[.int lo t,.int hi u,.int 1 v]}).objs.size],_,_,H,rfl,
  a.kept (t':=tk) fun b o e=>yag _ e,zjG _ lo (hi-lo).toNat,?_,fun b hb=>?_,q⟩
 ·have c:lo+((0:Nat):Int)*1=lo:=by simp
  have e2:(((hi-lo).toNat:Nat):Int)-((0:Nat):Int)=Builtin.Range.rangeSize lo hi 1:=by rw[rangeSize_one];split<;>omega
  show IsRangeIter _ _ (lo+((0:Nat):Int)*1) ((((hi-lo).toNat:Nat):Int)-((0:Nat):Int)) 1;rw[c,e2];exact yaw _ rfl
 ·have e:b=(s.heap.push {cls:=.type "range",data:=.fields #[.int lo t,.int hi u,.int 1 v]}).objs.size:=by simpa using hb
  subst e;exact a.fpOk (yai _) (a.hok.fresh (yai _))
noncomputable def zv1(ta:TA):TI:=fun σ H R=>ta σ H fun vs H1=>∃j:Int,vs=[.int j]/\-(2 ^ 62)<=j/\j<2 ^ 62/\R (Itr 0 j.toNat) H1
theorem zll{a:Expr}{ta:TA}{p pos:Pos}(J:Gl X "range")(hm:X.mg "range"=none)(U:PA X [a] ta)(hs:autoParam (starEach [a] X.env=[(false,eval a X.env)]) yAW):PI X tg (.Call (.Name "range" p) [a] [] pos) (zv1 ta):=by
 intro pins s σ H R I h;refine Call_ (zhd I J hm boot_range (yb2 (thn (U pos pins s σ H _ I h) fun us s1 ⟨vs,H1,g,d,b⟩=>?_) hs rfl));obtain⟨j,e,b,f,q⟩:=b;subst e
 cases d with
 |cons r c=>
  cases c;obtain⟨t,rfl⟩:=r;exact call_range_1 (zm5 g (by omega) (by omega) b f (by simpa using q))
noncomputable def zyz(wi:TI)(g:TG)(tb:TS):TS:=fun D σ H=>wi σ H fun J H1=>∃W:Nat->Nat->St->Hp->Prop,(∃m,W 0 m σ H1)/\∀i m σ H,W i m σ H →
 (J.stop i H/\D.nx σ H)\/(J.go i H/\∃N:St->Hp->Prop,(∀a H',N a H'->∃c,c<m/\W (i+1) c a H')/\∀x H',J.yld i H x H'->g x σ H' fun b H2=>tb {D with nx:=N,ct:=N,bk:=D.nx} b H2)
noncomputable def zg1(fp:List Addr)(h:Heap):List (Addr×Obj):=fp.filterMap fun b=>(h.get? b).map fun o=>(b,o)
def zdi(hb:b∈fp)(e:h.get? b=some o):(b,o)∈zg1 fp h:=ybA.mpr ⟨b,hb,by rw[e];rfl⟩
def zlv(I:p∈zg1 fp h):p.1∈fp/\h.get? p.1=some p.2:=by
 obtain⟨b,hb,e⟩:=ybA.mp I
 cases q:h.get? b with
 |none=>rw[q]at e;cases e|some o=>
  rw[q]at e;have a:(b,o)=p:=Option.some.inj e;subst a;exact⟨hb,q⟩
def Inv.pinned(I:Inv X pins σ H s)(hf:∀b∈fp,zmE X pins H b)(ho:∀b∈fp,∃o,s.heap.get? b=some o/\∀v,o.data≠.cell v):Inv X (pins++zg1 fp s.heap) σ H s:=
 I.pins_of fun p c=>(yay.mp c).elim (fun z=>I.pin p (yaO _ z)) fun z=>by
  obtain⟨hb,e⟩:=zlv z;obtain⟨f,f1,f2,_⟩:=hf p.1 hb;obtain⟨o,a,d⟩:=ho p.1 hb;rw[e]at a;cases a;exact⟨e,f,f1,f2,d⟩
def Inv.unpinned(I:Inv X (pins++pl) σ H s):Inv X pins σ H s:=I.pins_of fun p a=>I.pin p (yaO _ (ycR _ a))
def zsA{iter:Expr}{body:List Stmt}{wi:TI}{g:TG}{tb:TS}{pos:Pos}(U:PassesOwn (model X.prog X.w) X.A X.env X.xe)(hc:X.calm=true)(hi:PI X tg iter wi)(hg:PG X tg g)(hb:PSs X body tb)
  (hs:autoParam (∀x,foldedSetIterable iter X.env x=pure x) yAU):PS X (.For tg iter body [] pos) (zyz wi g tb):=by
 intro pins s σ H D I h;refine wpAny_For (thn (hi pins s σ H _ I h) fun v s1 h1=>thn h1 fun a3 s2 h2=>?_) hs;obtain⟨it,fp,P,J,H2,e,I2,T,G,f2,W,⟨m0,w0⟩,y⟩:=h2;subst e;have k:∀{H':Hp},(∀b∈fp,H' b=none)->∀b∈fp,zmE X pins H' b:=fun hn b hb=>⟨hn b hb,(f2 b hb).2⟩
 refine codeAny_forLoop_any (fun n s'=>∃i j H',Inv X pins j H' s'/\P i s'.heap/\(∀b∈fp,H' b=none)/\W i n j H') ?_ m0 ⟨0,σ,H2,I2,G,fun b hb=>(f2 b hb).1,w0⟩;rintro n R ⟨i,c,E,S,z,C,Z⟩
 rcases y i n c E Z with⟨stop,qn⟩|⟨go,N,hN,step⟩
 ·refine ycp U (thn (T.done X rfl rfl rfl hc i pins R c E X.xe S (k C) z stop) fun r s4 ⟨L,I4⟩=>?_);subst L;exact ycT ⟨c,E,I4,qn⟩
 ·refine ycp U (thn (T.item X rfl rfl rfl hc i pins R c E X.xe S (k C) z go) fun r s4 ⟨u,L,h4⟩=>?_);subst L;refine ycp U (thn h4 fun _ Q ⟨x,V,I5,r5,y5,t,M⟩=>?_);have O:=I5.pinned (k M) (T.obj _ _ t);refine ycp U (thn (hg _ Q c V x u _ O r5 (step x V y5)) fun _ s6 ⟨F,H6,I6,q6⟩=>?_);refine ycp U (thn (hb _ s6 F H6 _ I6 q6) fun f K q=>?_)
  have again:∀{a:St}{p:Hp},Inv X (pins++zg1 fp Q.heap) a p K->N a p->∃m,m<n/\∃i j H',Inv X pins j H' K/\P i K.heap/\(∀b∈fp,H' b=none)/\W i m j H':=fun {a p} l B=>by
   obtain⟨m',hm,Y⟩:=hN a p B;refine⟨m',hm,i+1,a,p,l.unpinned,T.keep _ _ _ t fun b hb o e=>(l.pin (b,o) (yaO _ (yaO _ (zdi hb e)))).1,fun b hb=>?_,Y⟩;obtain⟨o,e,d⟩:=T.obj _ _ t b hb;exact(l.pin (b,o) (yaO _ (yaO _ (zdi hb e)))).2.1
  cases f with
  |next=>obtain⟨a,p,l,B⟩:=q;exact again l B|cont=>obtain⟨a,p,l,B⟩:=q;exact again l B|brk=>obtain⟨a,p,l,q⟩:=q;exact⟨a,p,l.unpinned,q⟩|ret v=>obtain⟨x7,a,p,l,r7,q⟩:=q;exact⟨x7,a,p,l.unpinned,r7,q⟩
end
noncomputable abbrev R2:=V->V->Hp->VK->Prop
noncomputable def OpR(X:Cx)(f:Value->Value->Sem Value)(r:R2):Prop:=
 ∀(pins:Z3) (s:Shared) (σ:St) (H:Hp) (x y:V) (v u:Value) (Q:VK),Inv X pins σ H s->zaZ x v->zaZ y u->r x y H Q →
  wpAny (model X.prog X.w) X.A (f v u) (EP X pins σ Q) X.xe s
noncomputable def UnR(X:Cx)(f:Value->Sem Value)(r:V->Hp->VK->Prop):Prop:=
 ∀(pins:Z3) (s:Shared) (σ:St) (H:Hp) (x:V) (v:Value) (Q:VK),Inv X pins σ H s->zaZ x v->r x H Q →
  wpAny (model X.prog X.w) X.A (f v) (EP X pins σ Q) X.xe s
noncomputable def zdY(X:Cx)(f:Value)(r:List V->Hp->VK->Prop):Prop:=
 ∀(pins:Z3) (s:Shared) (σ:St) (H:Hp) (xs:List V) (us:List Value) (Q:VK),Inv X pins σ H s->Vals xs us->r xs H Q →
  wpAny (model X.prog X.w) X.A (call f us) (EP X pins σ Q) X.xe s
noncomputable def tOp(r:R2)(ta tb:TE):TE:=fun σ H Q=>ta σ H fun x H1=>tb σ H1 fun y H2=>r x y H2 Q
noncomputable def tUn(r:V->Hp->VK->Prop)(ta:TE):TE:=fun σ H Q=>ta σ H fun x H1=>r x H1 Q
noncomputable def rI(C:Int->Int->Prop)(g:Int->Int->V):R2:=fun x y H Q=>∃i j,x=.int i/\y=.int j/\C i j/\Q (g i j) H
noncomputable def rI0(g:Int->Int->V):R2:=fun x y H Q=>∃i j,x=.int i/\y=.int j/\Q (g i j) H
noncomputable def rU(g:Int->V):V->Hp->VK->Prop:=fun x H Q=>∃i,x=.int i/\Q (g i) H
section
variable{X:Cx}{a b c:Expr}{ta tb tc:TE}{pos:Pos}
def zwp(ha:PE X a ta)(hb:PE X b tb){pins:Z3}{s:Shared}{σ:St}{H:Hp}{R:V->V->Hp->Prop}(I:Inv X pins σ H s)
  (h:ta σ H fun x H1=>tb σ H1 fun y H2=>R x y H2) {Q:Z5}{f:Value->Value->Sem Value}
  (hf:∀v u s2 x y H2,Inv X pins σ H2 s2->zaZ x v->zaZ y u->R x y H2->wpAny (model X.prog X.w) X.A (f v u) Q X.xe s2):
  wpAny (model X.prog X.w) X.A (eval a X.env) (fun v U=>wpAny (model X.prog X.w) X.A (eval b X.env) (fun u J=>wpAny (model X.prog X.w) X.A (f v u) Q X.xe J) X.xe U) X.xe s:=by
 refine thn (ha pins s σ H _ I h) fun v s1 ⟨x,H1,i,c,e⟩=>?_
 refine thn (hb pins s1 σ H1 _ i e) fun u s2 ⟨y,H2,g,r2,d⟩=>?_
 exact hf v u s2 x y H2 g c r2 d
def zsF(ho:OpR X (binaryOp op) r)(J:PE X a ta)(hb:PE X b tb):PE X (.BinOp a op b pos) (tOp r ta tb):=by
 intro pins s σ H Q I h;exact wpAny_BinOp (zwp J hb I h fun v u s2 x y H2 e d c q=>ho pins s2 σ H2 x y v u Q e d c q)
def zvv(ho:UnR X (unaryOp op) r)(J:PE X a ta):PE X (.UnaryOp op a pos) (tUn r ta):=by
 intro pins s σ H Q I h;exact UnaryOp_ (thn (J pins s σ H _ I h) fun v s1 ⟨x,H1,d,b,c⟩=>ho pins s1 σ H1 x v Q d b c)
def opI{f:Value->Value->Sem Value}{C:Int->Int->Prop}{g:Int->Int->Int}
  (rule:∀(i j:Int) (t u:Tok) (s:Shared) (Q:Z5) (E:Z5),C i j->Q (.int (g i j) s.toks) {s with toks:=s.toks+1}->wpAny (model X.prog X.w) X.A (f (.int i t) (.int j u)) Q E s):
  OpR X f (rI C fun i j=>.int (g i j)):=by
 intro pins s σ H x y v u Q I b a h;obtain⟨i,j,rfl,rfl,c,q⟩:=h;obtain⟨t,rfl⟩:=b;obtain⟨t',rfl⟩:=a;exact rule i j t t' s _ _ c ⟨.int (g i j),H,I.tok _,⟨_,rfl⟩,q⟩
def zyS{f:Value->Value->Sem Value}{g:Int->Int->Int}
  (rule:∀(i j:Int) (t u:Tok) (s:Shared) (Q:Z5) (E:Z5),Q (.int (g i j) s.toks) {s with toks:=s.toks+1}->wpAny (model X.prog X.w) X.A (f (.int i t) (.int j u)) Q E s):
  OpR X f (rI0 fun i j=>.int (g i j)):=by
 intro pins s σ H x y v u Q I b a h;obtain⟨i,j,rfl,rfl,q⟩:=h;obtain⟨t,rfl⟩:=b;obtain⟨t',rfl⟩:=a;exact rule i j t t' s _ _ ⟨.int (g i j),H,I.tok _,⟨_,rfl⟩,q⟩
def zvD{f:Value->Value->Sem Value}{g:Int->Int->Bool}
  (rule:∀(i j:Int) (t u:Tok) (s:Shared) (Q:Z5) (E:Z5),Q (.bool (g i j)) s->wpAny (model X.prog X.w) X.A (f (.int i t) (.int j u)) Q E s):
  OpR X f (rI0 fun i j=>.bl (g i j)):=by
 intro pins s σ H x y v u Q I b a h;obtain⟨i,j,rfl,rfl,q⟩:=h;obtain⟨t,rfl⟩:=b;obtain⟨t',rfl⟩:=a;exact rule i j t t' s _ _ ⟨.bl (g i j),H,I,rfl,q⟩
noncomputable def zzV(i j:Int):Prop:=0<j/\j<1073741824
noncomputable def zww(i j:Int):Prop:=(-(2 ^ 64)<i/\i<2 ^ 64)\/(-(2 ^ 64)<j/\j<2 ^ 64)
def zww.ok(h:zww i j):IntMulOk i j:=by
 rcases h with⟨h1,h2⟩|⟨h1,h2⟩
 ·exact .of_left (intBits_le_64 h1 h2)
 ·exact .of_right (intBits_le_64 h1 h2)
def zsX:OpR X (binaryOp .Add) (rI0 fun i j=>.int (i+j)):=zyS fun _ _ _ _ _ _ _ q=>add_int q
def zsS:OpR X (binaryOp .Mult) (rI zww fun i j=>.int (i*j)):=opI fun _ _ _ _ _ _ _ a q=>mul_int q a.ok
theorem zqw:OpR X (binaryOp .FloorDiv) (rI zzV fun i j=>.int (i / j)):=opI fun i j _ _ _ _ _ a q=>by
 have h1:(0:Int)<j:=a.1;have h2:j<1073741824:=a.2;exact floordiv_int (by omega) (by rw[Int.fdiv_eq_ediv_of_nonneg i (by omega)];exact q) (.inl (PyProof.noPylong_small (by omega)))
theorem zsT:OpR X (binaryOp .Mod) (rI (fun _ j=>0<j) fun i j=>.int (i % j)):=opI fun i j _ _ _ _ _ a q=>by
 have h1:(0:Int)<j:=a;exact mod_int' (by omega) (by rw[Int.fmod_eq_emod_of_nonneg i (by omega)];exact q)
def unI{f:Value->Sem Value}{g:Int->Int}
  (rule:∀(i:Int) (t:Tok) (s:Shared) (Q:Z5) (E:Z5),Q (.int (g i) s.toks) {s with toks:=s.toks+1}->wpAny (model X.prog X.w) X.A (f (.int i t)) Q E s):
  UnR X f (rU fun i=>.int (g i)):=by
 intro pins s σ H x v Q I a h;obtain⟨i,rfl,q⟩:=h;obtain⟨t,rfl⟩:=a;exact rule i t s _ _ ⟨.int (g i),H,I.tok _,⟨_,rfl⟩,q⟩
def zrE:UnR X (unaryOp .USub) (rU fun i=>.int (-i)):=unI fun _ _ _ _ _ q=>neg_int q
end
section
variable{X:Cx}{a b c:Expr}{ta tb tc:TE}{pos:Pos}
def zo5(I:Inv X pins σ H s)(q:Q (.bl k) H)(e:k=k'):EP X pins σ Q (.bool k') s:=by
 subst e;exact⟨.bl k,H,I,rfl,q⟩
def zvA:OpR X (compareOp .Lt) (rI0 fun i j=>.bl (decide (i<j))):=zvD fun _ _ _ _ _ _ _ q=>lt_int q
def zvB:OpR X (compareOp .LtE) (rI0 fun i j=>.bl (decide (i<=j))):=zvD fun _ _ _ _ _ _ _ q=>le_int q
def zvC:OpR X (compareOp .Gt) (rI0 fun i j=>.bl (decide (j<i))):=zvD fun _ _ _ _ _ _ _ q=>gt_int q
def zlu:OpR X (compareOp .In) (fun x y H Q=>∃i j,x=.str i/\y=.str j/\Q (.bl (!(Builtin.Str.occurrences j i 0 j.length 1).isEmpty)) H):=by
 intro pins s σ H x y v u Q I b a h;obtain⟨i,j,rfl,rfl,q⟩:=h;obtain⟨t,rfl⟩:=b;obtain⟨t',rfl⟩:=a;exact in_str (zo5 I q rfl)
def zsV:OpR X (compareOp .Is) (fun x y H Q=>y=.non/\Q (.bl (decide (x=.non))) H):=by
 intro pins s σ H x y v u Q I a b h;obtain⟨rfl,q⟩:=h;cases b;refine is_none_gen (zo5 I q ?_)
 cases x<;>first
  |(cases a;rfl)
  |(obtain⟨t,rfl⟩:=a;rfl)
def zqu(ho:OpR X (compareOp op) r)(J:PE X a ta)(hb:PE X b tb)(hm:behindInMarks op b=false):PE X (.Compare a [op] [b] pos) (tOp r ta tb):=by
 intro pins s σ H Q I h;exact wpAny_Compare1 (zwp J hb I h fun v u s2 x y H2 e d c q=>ho pins s2 σ H2 x y v u Q e d c q) hm
noncomputable def zpw(t:TE):TT:=fun σ H Q=>t σ H fun x H'=>∃k,x=.bl k/\Q k H'
def zqf(ho:OpR X (compareOp op) r)(J:PE X a ta)(hb:PE X b tb)(hm:behindInMarks op b=false):PT X (.Compare a [op] [b] pos) (zpw (tOp r ta tb)):=by
 intro pins s σ H Q I h
 refine wpAny_isTrue_Compare1 (thn (J pins s σ H _ I h) fun v s1 ⟨x,H1,n,f,j⟩=>thn (hb pins s1 σ H1 _ n j) fun u s2 ⟨y,H2,m,r2,i⟩=>
  thn (ho pins s2 σ H2 x y v u _ m f r2 i) fun c p ⟨z,o,l,d,k,e,g⟩=>?_) hm
 subst e;cases d;exact ya3 ⟨o,l,g⟩
noncomputable def zkK(r I:R2)(ta tb tc:TE):TE:=fun σ H Q=>ta σ H fun x H1=>tb σ H1 fun y H2=>r x y H2 fun z a=>∃k,z=.bl k ∧
 (if k=true then tc σ a fun w' b=>I y w' b Q else Q (.bl false) a)
def znr{op J:CmpOp}{r r':R2}(ho:OpR X (compareOp op) r)(U:OpR X (compareOp J) r')(ha:PE X a ta)(hb:PE X b tb)(hc:PE X c tc)
  (hm:autoParam (lastMarks [op,J] [b,c]=false) yAO):PE X (.Compare a [op,J] [b,c] pos) (zkK r r' ta tb tc):=by
 intro pins s σ H Q I h
 refine Compare_chain (thn (ha pins s σ H _ I h) fun v s1 ⟨x,H1,C,p,w⟩=>chain_link (thn (hb pins s1 σ H1 _ C w) fun u s2 ⟨y,H2,B,r2,t⟩=>
  thn (ho pins s2 σ H2 x y v u _ B p r2 t) fun d m ⟨z,i,g,o,k,e,f⟩=>?_)) hm
 subst e;cases o;refine ya3 ?_
 cases k with
 |false=>exact ite_ff ⟨.bl false,i,g,rfl,f⟩|true=>exact ite_tt (chain_last (thn (hc pins m σ i _ g f) fun w' l ⟨j,D,A,n,q⟩=>U pins l σ D y j u w' Q A r2 n q))
def zm9{op J:CmpOp}{r r':R2}(ho:OpR X (compareOp op) r)(U:OpR X (compareOp J) r')(ha:PE X a ta)(hb:PE X b tb)(hc:PE X c tc)
  (hm:autoParam (lastMarks [op,J] [b,c]=false) yAO):PT X (.Compare a [op,J] [b,c] pos) (zpw (zkK r r' ta tb tc)):=by
 intro pins s σ H Q I h
 refine isTrue_chain (thn (ha pins s σ H _ I h) fun v s1 ⟨x,H1,K,q,B⟩=>test_link (thn (hb pins s1 σ H1 _ K B) fun u s2 ⟨y,H2,G,r2,A⟩=>
  thn (ho pins s2 σ H2 x y v u _ G q r2 A) fun d m ⟨z,i,g,p,k,e,f⟩=>?_)) hm
 subst e;cases p;refine ya3 ?_
 cases k with
 |false=>
  obtain⟨k',D,C⟩:=f;cases D;exact ite_ff ⟨i,g,C⟩
 |true=>
  refine ite_tt (test_last (thn (hc pins m σ i _ g f) fun w' l ⟨j,M,F,o,w⟩=>thn (U pins l σ M y j u w' _ F r2 o w) fun d' O ⟨N,L,E,n,k2,e2,t⟩=>?_));subst e2;cases n;exact ya3 ⟨L,E,t⟩
def zhb:(sizeLine:Nat)<2 ^ 63:=by rw[ycU];decide
def zjY:OpR X (binaryOp .Add) (fun x y H Q=>∃i j,x=.str i/\y=.str j/\i.length+j.length<=sizeLine/\Q (.str (i++j)) H):=by
 intro pins s σ H x y v u Q I b a h;obtain⟨i,j,rfl,rfl,c,q⟩:=h;obtain⟨t,rfl⟩:=b;obtain⟨t',rfl⟩:=a;exact add_str (fun t' tk=>⟨.str (i++j),H,I.tok _,⟨_,rfl⟩,q⟩) c
def zgE(r:Vals [x] us):∃u,us=[u]/\zaZ x u:=by
 cases r with
 |cons a r2=>cases r2;exact⟨_,rfl,a⟩
def zhx:zdY X (.type "str") (fun xs H Q=>∃i,xs=[.int i]/\i.natAbs.log2<1920/\Q (.str (toString i)) H):=by
 intro pins s σ H xs us Q I r h;obtain⟨i,rfl,a,q⟩:=h;obtain⟨u,rfl,t,rfl⟩:=zgE r;exact PySem.P.str_of_int a ⟨.str _,H,I.tok _,⟨_,rfl⟩,q⟩
end
structure ObjM(h:Heap)(x dx C:Addr)(mA:Z6):Prop where
 obj:h.get? x=some (PySem.W.instObj C dx)
 ns:h.Ns1 dx mA
 ne:dx≠x
def zlF{h:Heap}{mA:Z6}(n:h.Ns1 dx mA):∃I,h.get? dx=some I/\∀name,PySem.W.lookIn name I=some (mA name):=by
 obtain⟨o,es,f,d,hd,hk,_,hm⟩:=n;refine⟨o,d,fun name=>?_⟩;have e:=hm name;unfold nsFind findBy at e;rw[<-Array.find?_toList]at e;unfold PySem.W.lookIn;rw[hd];dsimp only;split
 ·rename_i y q;rw[q]at e;exact congrArg some e
 ·rename_i q;rw[q]at e
  have a:es.toList.any (·.refKey)=false:=by
   rw[List.any_eq_false];intro y c;obtain⟨z,t,b⟩:=hk y (ybh.mp c);simp[DictEntry.refKey,b]
  have a':¬ es.toList.any (·.refKey)=true:=by rw[a];exact yaZ
  rw[if_neg a'];exact congrArg some e
def ObjM.look(I:ObjM h x dx C mA):∃J,PySem.W.InstAt h x (PySem.W.instObj C dx) C (some J)/\∀name,PySem.W.lookIn name J=some (mA name):=
 let ⟨J,a,b⟩:=zlF I.ns
 ⟨J,⟨I.obj,rfl,rfl,a⟩,b⟩
section
variable{prog:Program}{w:World}{A:Around}{E:Z5}{s:Shared}{K:PySem.W.Frag}{x dx C f:Addr}{mA:Z6}{name:Str}{v:Value}
def zq5{expr:Bool}{Q:Z5}(X:K.In s.heap)(I:ObjM s.heap x dx C mA)(hg:PySem.W.plainGet K C name=true)(hh:PySem.W.hasDictIn K C=true)
  (ha:PySem.W.findIn K (.ref C) name=some none) (hv:mA name=some v) (U:PySem.W.handedIn v=true) (h:Q v {s with toks:=s.toks+1}):
  wpAny (model prog w) A (getAttr (.ref x) name expr) Q E s:=by
 obtain⟨b,J,a⟩:=I.look;exact PySem.W.get_value X J (ycV hg).1 (PySem.W.findObj_own hh ha rfl (by rw[a,hv])) U h
def znW(X:K.In s.heap)(I:ObjM s.heap x dx C mA)(U:PySem.W.plainGet K C name=true)
  (hf:PySem.W.findIn K (.ref C) name=some (some (.ref f))) (ht:PySem.W.isFn K (.ref f)=true) (hv:mA name=none) (h:Q (.ref f,[.ref x]) s):
  wpAny (model prog w) A (getMethod (.ref x) name pl) Q E s:=by
 obtain⟨a,J,b⟩:=I.look;exact PySem.W.method_fn X J (ycV U).1 (ycV U).2 hf (ybT.mp ht) (by show(PySem.W.lookIn name a).map (·.isSome)=some false;rw[b,hv];rfl) h
theorem zpU{ns:List Str}{Q:Unit->Shared->Prop}(X:K.In s.heap)(I:ObjM s.heap x dx C mA)
  (hs:PySem.W.findIn K (.ref C) "__setattr__"=some (some (.builtin "object.__setattr__"))) (hp:PySem.W.plainOver K C=true) (U:PySem.W.takerIn K C name=some none) (hh:PySem.W.hasDictIn K C=true)
  (hw:PySem.Within mA ns) (hsz:ns.length<=sizeLine)
  (h:∀h',ObjM h' x dx C (fun y=>if y=name then some v else mA y)->Heap.SameBut dx s.heap h'->Q () {s with heap:=h',toks:=s.toks+2}):
  wpAny (model prog w) A (setAttr (.ref x) name v) Q E s:=by
 obtain⟨n,J,o⟩:=I.look;refine PySem.W.set_plain X J hs (PySem.W.osa_open (s:={s with toks:=s.toks+1}) (r:=none) X J hp U fun b=>?_);obtain⟨cd,k,g⟩:=PySem.W.any_some hh;have j:s.heap.get? x=some ⟨.ref C,some dx,.plain,#[]⟩:=I.obj;refine yac (yak (yac (yac (wpAny_loadPart j (yac (PySem.W.Looks.here (s:={s with toks:=s.toks+1}) (PySem.W.looks_clsIn X k) ?_))))));rw[g];refine yak (a:=some dx) (yac (yak (yac ?_)));refine wpAny_nsSet1 (s:={s with toks:=s.toks+1}) I.ns fun h' d c=>?_
 obtain⟨oD,l,m,e,f,i⟩:=d.count (PySem.Within.cons name v hw);refine yac (wpAny_lookBehind e (by rw[f];exact pastItsLine_dict (yav i (by rw[yad];omega))) ?_);exact yak (h _ ⟨(c.2 _ (Ne.symm I.ne)).trans I.obj,d,I.ne⟩ c)
def znG{R:Result->Shared->Prop}{vs:List Value}{kw:List (Str×Value)}(X:K.In s.heap)(hm:PySem.W.makesIn K C=true)
  (hi:PySem.W.findIn K (.ref C) "__init__"=some (some (.ref f))) (hf:PySem.W.typeIn K (.ref f)=some (.type "function"))
  (h:codeAny (model prog w) (A.under (.builtin "type.__call__" ⟨.ref C::vs,kw⟩)) (.call (.ref f) ⟨.ref (s.heap.objs.size+1)::vs,kw⟩) (PySem.W.InitBack (s.heap.objs.size+1) R)
   {s with heap:=(s.heap.push PySem.W.emptyDict).push (PySem.W.instObj C s.heap.objs.size)}):
  codeAny (model prog w) A (.call (.ref C) ⟨vs,kw⟩) R s:=by
 obtain⟨a,g,d,t,os⟩:=s;exact PySem.W.make_core (PySem.W.makes_of X hm) (PySem.W.looks_findIn X hi) (fun self=>PySem.W.bind_fn X self hf) (.inl rfl) h
end
noncomputable def zdh(f:Str)(v:V):List (Str×V)->List (Str×V)
 |[]=>[(f,v)]|(g,x)::r=>if g=f then(g,v)::r else(g,x)::zdh f v r
theorem zeS(f g:Str)(v:V):∀fs:List (Str×V),(zdh f v fs).lookup g=if g=f then some v else fs.lookup g
 |[]=>by
  show List.lookup g [(f,v)]=_
  by_cases h:g=f
  ·have hb:(g==f)=true:=ybT.mpr h;simp only[List.lookup,hb,if_pos h]
  ·have hb:(g==f)=false:=ybi.mpr h;simp only[List.lookup,hb,if_neg h]
 |(k,x)::r=>by
  have a:=zeS f g v r;rw[show zdh f v ((k,x)::r)=(if k=f then(k,v)::r else(k,x)::zdh f v r)from rfl]
  by_cases hk:k=f
  ·rw[if_pos hk]
   by_cases h:g=k
   ·have hb:(g==k)=true:=ybT.mpr h;simp only[List.lookup,hb,if_pos (h.trans hk)]
   ·have hb:(g==k)=false:=ybi.mpr h;simp only[List.lookup,hb,if_neg (fun e:g=f=>h (e.trans hk.symm))]
  ·rw[if_neg hk]
   by_cases h:g=k
   ·have hb:(g==k)=true:=ybT.mpr h;simp only[List.lookup,hb,if_neg (fun e:g=f=>hk (h.symm.trans e))]
   ·have hb:(g==k)=false:=ybi.mpr h;simp only[List.lookup,hb];exact a
theorem zeV(f:Str)(v:V):∀fs:List (Str×V),f∈(zdh f v fs).map (·.1)/\∀g,g∈fs.map (·.1)->g∈(zdh f v fs).map (·.1)
 |[]=>⟨by simp[zdh],fun g h=>by simp at h⟩
 |(k,x)::r=>by
  obtain⟨i1,i2⟩:=zeV f v r;rw[show zdh f v ((k,x)::r)=(if k=f then(k,v)::r else(k,x)::zdh f v r)from rfl]
  by_cases hk:k=f
  ·rw[if_pos hk];subst hk;exact⟨by simp,fun g h=>by simpa using h⟩
  ·rw[if_neg hk];refine⟨?_,fun g h=>?_⟩
   ·rw[yar];exact yaj _ i1
   ·rw[yar]at h ⊢
    rcases yaq.mp h with e|e
    ·exact yaq.mpr (.inl e)
    ·exact yaj _ (i2 g e)
theorem zeU(f:Str)(v:V):∀fs:List (Str×V),(zdh f v fs).length<=fs.length+1
 |[]=>by simp[zdh]
 |(k,x)::r=>by
  have a:=zeU f v r;rw[show zdh f v ((k,x)::r)=(if k=f then(k,v)::r else(k,x)::zdh f v r)from rfl]
  by_cases hk:k=f
  ·rw[if_pos hk,yad,yad];omega
  ·rw[if_neg hk,yad,yad];omega
def zfR.some_of(r:zfR (some v) o):∃u,o=some u/\zaZ v u:=by
 cases o with
 |none=>exact(show False from r).elim|some u=>exact⟨u,rfl,r⟩
def zfR.none_of(r:zfR none o):o=none:=by
 cases o with
 |none=>rfl|some u=>exact(show False from r).elim
def zl9(r:zaZ v u):PySem.W.handedIn u=true:=by
 cases v with
 |non=>cases (show u=Value.none from r);rfl|bl b=>cases (show u=Value.bool b from r);rfl|int i=>obtain⟨t,e⟩:=(show ∃t,u=Value.int i t from r);cases e;rfl|str x=>obtain⟨t,e⟩:=(show ∃t,u=Value.str x t from r);cases e;rfl|byt b=>obtain⟨t,e⟩:=(show ∃t,u=Value.bytes b t from r);cases e;rfl|flt b=>obtain⟨t,e⟩:=(show ∃t,u=Value.float b t from r);cases e;rfl|ref a=>cases (show u=Value.ref a from r);rfl|ty n=>cases (show u=Value.type n from r);rfl
section
variable{P:Program}{w:World}{H H':Hp}{h h':Heap}{a C dx:Addr}{fs fs':List (Str×V)}
def zgj(hok:HOk P w H h)(e:H a=some (.ins C dx fs)):∃mA,ObjM h a dx C mA/\(∀f,zfR (fs.lookup f) (mA f))/\PySem.Within mA (fs.map (·.1))/\fs.length<=1000/\H dx=some (.own a):=by
 obtain⟨d,z,ne,ob,mA,n,r,q⟩:=(show zbg P w H h a (.ins C dx fs)from hok a _ e);exact⟨mA,⟨ob,n,ne⟩,r,q,z,d⟩
end
structure Cls(K:PySem.W.Frag)(C:Addr):Prop where
 pg:PySem.W.plainGet K C Str.empty=true
 hd:PySem.W.hasDictIn K C=true
 po:PySem.W.plainOver K C=true
 sa:PySem.W.findIn K (.ref C) "__setattr__"=some (some (.builtin "object.__setattr__"))
def Cls.get{K:PySem.W.Frag}(c:Cls K C)(f:Str):PySem.W.plainGet K C f=true:=c.pg
noncomputable def zcp(K:PySem.W.Frag)(C:Addr)(f:Str):Prop:=PySem.W.findIn K (.ref C) f=some none
def zcp.taker{K:PySem.W.Frag}(n:zcp K C f):PySem.W.takerIn K C f=some none:=by
 unfold PySem.W.takerIn;rw[show PySem.W.findIn K (.ref C) f=some none from n];rfl
structure Meth(K:PySem.W.Frag)(C:Addr)(m:Str)(f:Addr):Prop where
 at_:PySem.W.findIn K (.ref C) m=some (some (.ref f))
 fn:PySem.W.isFn K (.ref f)=true
 kp:PySem.W.keepIn K (.ref f)=true
section
variable{X:Cx}{pins:Z3}{σ:St}{H:Hp}{s:Shared}{a C dx:Addr}{fs:List (Str×V)}{f:Str}{v:V}{A:Around}{E:Z5}
def zj5(I:Inv X pins σ H s)(e:H a=some (.ins C dx fs))(c:Cls X.K C)(n:zcp X.K C f)(l:fs.lookup f=some v)
  (h:∀u s',Inv X pins σ H s'->zaZ v u->Q u s'):wpAny (model X.prog X.w) A (getAttr (.ref a) f b) Q E s:=by
 obtain⟨mA,O,r,_,_,_⟩:=zgj I.hok e;obtain⟨u,g,d⟩:=zfR.some_of (v:=v) (o:=mA f) (by rw[<-l];exact r f);exact zq5 I.kIn O (c.get f) c.hd n g (zl9 d) (h u _ (I.tok _) d)
def zfG(I:Inv X pins σ H s)(e:H a=some (.ins C dx fs))(c:Cls X.K C)(k:Meth X.K C m g)(l:fs.lookup m=none)
  (h:Q (.ref g,[.ref a]) s):wpAny (model X.prog X.w) A (getMethod (.ref a) m pl) Q E s:=by
 obtain⟨mA,O,r,_,_,_⟩:=zgj I.hok e;have b:mA m=none:=zfR.none_of (by rw[<-l];exact r m);exact znW I.kIn O (c.get m) k.at_ k.fn b h
def zjK(I:Inv X pins σ H s)(e:H a=some (.ins C dx fs))(c:Cls X.K C)(n:zcp X.K C f)(U:fs.length<1000)(J:zaZ y u)
  (h:∀s',Inv X pins σ (upd H a (.ins C dx (zdh f y fs))) s'->Q () s'):wpAny (model X.prog X.w) A (setAttr (.ref a) f u) Q E s:=by
 obtain⟨mA,O,r,wi,_,i⟩:=zgj I.hok e
 have k:(fs.map (·.1)).length<=sizeLine:=by rw[yab,ycU];omega
 refine zpU I.kIn O c.sa c.po n.taker c.hd wi k fun h' d j=>h _ ?_
 have hd:∃o,h'.get? dx=some o:=let ⟨o,_,_,m,_⟩:=d.ns;⟨o,m⟩
 refine I.write (x:=a) (e:=dx) (by rw[e];exact True.intro) (.inr i) (fun b q hb z=>(j.2 b hb).trans z) hd ?_;refine⟨by rw[zab O.ne];exact i,?_,O.ne,d.obj,_,d.ns,fun g=>?_,fun g l=>?_⟩
 ·have:=zeU f y fs;omega
 ·show zfR ((zdh f y fs).lookup g) (if g=f then some u else mA g);rw[zeS]
  by_cases q:g=f
  ·rw[if_pos q,if_pos q];exact J
  ·rw[if_neg q,if_neg q];exact r g
 ·by_cases q:g=f
  ·rw[q];exact(zeV f y fs).1
  ·refine(zeV f y fs).2 g (wi g fun z=>l ?_);show(if g=f then some u else mA g)=none;rw[if_neg q];exact z
def Inv.made(I:Inv X pins σ H s):Inv X pins σ (upd (upd H s.heap.objs.size (.own (s.heap.objs.size+1))) (s.heap.objs.size+1) (.ins C s.heap.objs.size []))
  {s with heap:=(s.heap.push PySem.W.emptyDict).push (PySem.W.instObj C s.heap.objs.size)}:=by
 have c:(s.heap.push PySem.W.emptyDict).get? s.heap.objs.size=some PySem.W.emptyDict:=yaw s.heap rfl
 have e2:((s.heap.push PySem.W.emptyDict).push (PySem.W.instObj C s.heap.objs.size)).get? (s.heap.objs.size+1)=some (PySem.W.instObj C s.heap.objs.size):=by
  have:=yaw (s.heap.push PySem.W.emptyDict) (o:=PySem.W.instObj C s.heap.objs.size) rfl
  rwa[ya6]at this
 have f:(s.heap.push PySem.W.emptyDict).Ns s.heap.objs.size (fun _=>none):=⟨PySem.W.emptyDict,#[],_,c,rfl,(fun e he=>absurd he (by simp)),fun _=>rfl⟩;have g:=I.laid (a:=s.heap.objs.size) (o:=.own (s.heap.objs.size+1)) (h':=s.heap.push PySem.W.emptyDict) (t':=s.toks) (fun b u q=>yag _ q) (yai _) ⟨_,c⟩;refine g.laid (a:=s.heap.objs.size+1) (o:=.ins C s.heap.objs.size []) (t':=s.toks) (fun b u q=>yag _ q) (Nat.le_of_eq (ya6 _ _)) ?_;have ne:s.heap.objs.size≠s.heap.objs.size+1:=yaB (ycf _);refine⟨by rw[zab ne,zao],yaJ _,ne,e2,fun _=>none,(Heap.Ns1.of_empty f).at fun o q=>yag _ q,fun _=>True.intro,fun y d=>absurd rfl d⟩
def zrm(hb:attributeBase e f env (eval e env)=eval e env)
  (h:wpAny (model prog w) A (eval e env) (fun o I=>wpAny (model prog w) A (getAttr o f true) Q E I) E s):wpAny (model prog w) A (eval (.Attribute e f pos) env) Q E s:=
 Attribute_any_ h (by rw[arm_eval_Attribute,hb])
end
noncomputable def zu8(K:PySem.W.Frag)(ta:TE)(f:Str):TE:=fun σ H Q=>ta σ H fun x H1=>∃a C dx fs v,x=.ref a/\H1 a=some (.ins C dx fs)/\Cls K C/\zcp K C f/\fs.lookup f=some v/\Q v H1
noncomputable def zyD(K:PySem.W.Frag)(ta tv:TE)(f:Str):TS:=fun D σ H=>tv σ H fun y H1=>ta σ H1 fun x H2=>∃a C dx fs,x=.ref a/\H2 a=some (.ins C dx fs)/\Cls K C/\zcp K C f/\fs.length<1000 ∧
 D.nx σ (upd H2 a (.ins C dx (zdh f y fs)))
section
variable{X:Cx}{o e value:Expr}{f:Str}{pos pos' tpos:Pos}{ta tv:TE}
def zcg(he:PE X e ta)(hb:attributeBase e f X.env (eval e X.env)=eval e X.env):PE X (.Attribute e f pos) (zu8 X.K ta f):=by
 intro pins s σ H Q I h;refine zrm hb (thn (he pins s σ H _ I h) fun u s1 ⟨x,H1,j,b,a,C,dx,fs,v,ex,g,c,n,l,q⟩=>?_);subst ex;obtain rfl:u=Value.ref a:=b;exact zj5 j g c n l fun k s2 i d=>⟨v,H1,i,d,q⟩
def zi4(J:PE X o ta)(hv:PE X value tv)(hs:swapsWith value (some (.Attribute o f pos')) pos.line X.env=pure false):PS X (.Assign [.Attribute o f pos'] value pos) (zyD X.K ta tv f):=by
 intro pins s σ H D I h;refine plainObj_wpAny_Assign_Attribute (thn (hv pins s σ H _ I h) fun u s1 ⟨y,H1,m,b,q⟩=>thn (J pins s1 σ H1 _ m q) fun g s2 ⟨x,H2,k,d,a,C,dx,fs,ex,i,c,n,l,e⟩=>?_) hs;subst ex;obtain rfl:g=Value.ref a:=d;exact zjK k i c n l b fun p j=>⟨σ,_,j,e⟩
end
section
variable{X:Cx}{pins:Z3}{σ:St}{H:Hp}{s:Shared}{A:Around}{E:Z5}{Q:Z5}{c:Value}{b:Bool}
inductive TyOf(K:PySem.W.Frag)(H:Hp):V->Value->Prop where
 |non:TyOf K H .non (.type "NoneType")
 |bl (x:Bool):TyOf K H (.bl x) (.type "bool")
 |int (i:Int):TyOf K H (.int i) (.type "int")
 |str (x:Str):TyOf K H (.str x) (.type "str")
 |flt (x:UInt64):TyOf K H (.flt x) (.type "float")
 |lst {a:Addr}{xs:List V} (e:H a=some (.lst xs)):TyOf K H (.ref a) (.type "list")
 |frz {a:Addr}{o:Obj}{xs:List V} (e:H a=some (.frz o (.lst xs))):TyOf K H (.ref a) (.type "list")
 |tup {a:Addr}{xs:List V} (e:H a=some (.tup xs)):TyOf K H (.ref a) (.type "tuple")
 |dK {a:Addr}{kvs:List (Key×V)} (e:H a=some (.dK kvs)):TyOf K H (.ref a) (.type "dict")
 |dT {a:Addr}{kvs:List (List Key×V)} (e:H a=some (.dT kvs)):TyOf K H (.ref a) (.type "dict")
 |ins {a C dx:Addr}{fs:List (Str×V)} (e:H a=some (.ins C dx fs)) (cl:Cls K C) (ha:PySem.W.findIn K (.ref C) "__class__"=some (some (.builtin "object.__class__")))
   (hn:PySem.W.specialIn K (.builtin "object.__class__") "__get__"=some (some (.builtin "getset_descriptor.__get__"))) (htk:PySem.W.takesIn K (.builtin "object.__class__")=some true)
   (hm:PySem.W.mroIn K C (.type "object")=some true):TyOf K H (.ref a) (.ref C)
def zlX{x:V}{u t:Value}(I:Inv X pins σ H s)(U:zaZ x u)(ty:TyOf X.K H x t)(e:PySem.W.kitOne X.K t c=some b)(h:∀tk,Q (.bool b) {s with toks:=tk}):
  wpAny (model X.prog X.w) A (call (.builtin "isinstance") [u,c]) Q E s:=by
 cases ty with
 |non=>cases (show u=Value.none from U);exact ya2 PySem.W.kitx_none I.kIn True.intro e (fun z=>nomatch z) h|bl y=>cases (show u=Value.bool y from U);exact ya2 PySem.W.kitx_bool I.kIn True.intro e (fun z=>nomatch z) h|int i=>obtain⟨t,q⟩:=(show ∃t,u=Value.int i t from U);cases q;exact ya2 PySem.W.kitx_int I.kIn True.intro e (fun z=>nomatch z) h|str y=>obtain⟨t,q⟩:=(show ∃t,u=Value.str y t from U);cases q;exact ya2 PySem.W.kitx_str I.kIn True.intro e (fun z=>nomatch z) h|flt y=>obtain⟨t,q⟩:=(show ∃t,u=Value.float y t from U);cases q;exact ya2 PySem.W.kitx_float I.kIn True.intro e (fun z=>nomatch z) h| @lst a xs d=>
  cases (show u=Value.ref a from U);obtain⟨_,_,n,_,h1⟩:=(show zbg X.prog X.w H s.heap a (.lst xs)from I.hok a _ d);exact ya2 PySem.W.kitx_list I.kIn ⟨_,h1,rfl⟩ e (fun z=>nomatch z) h
 | @frz a ob xs d=>
  cases (show u=Value.ref a from U);obtain⟨_,_,_,n,_,h1⟩:=(show zbg X.prog X.w H s.heap a (.frz ob (.lst xs))from I.hok a _ d);exact ya2 PySem.W.kitx_list I.kIn ⟨_,h1,rfl⟩ e (fun z=>nomatch z) h
 | @tup a xs d=>
  cases (show u=Value.ref a from U);obtain⟨_,_,_,p⟩:=(show zbg X.prog X.w H s.heap a (.tup xs)from I.hok a _ d);obtain⟨o,h1,h2,_⟩:=p;exact ya2 PySem.W.kitx_tuple I.kIn ⟨o,h1,h2⟩ e (fun z=>nomatch z) h
 | @dK a kvs d=>
  cases (show u=Value.ref a from U);obtain⟨_,_,vs,_,p⟩:=(show zbg X.prog X.w H s.heap a (.dK kvs)from I.hok a _ d);obtain⟨o,es,k,h1,h2,_⟩:=p;exact ya2 PySem.W.kitx_dict I.kIn ⟨o,h1,h2.1⟩ e (fun z=>nomatch z) h
 | @dT a kvs d=>
  cases (show u=Value.ref a from U);obtain⟨_,_,xs,_,o,es,k,h1,h2,_⟩:=(show zbg X.prog X.w H s.heap a (.dT kvs)from I.hok a _ d);exact ya2 PySem.W.kitx_dict I.kIn ⟨o,h1,h2.1⟩ e (fun z=>nomatch z) h
 | @ins a C dx fs d cl j g f hm=>
  cases (show u=Value.ref a from U);obtain⟨mA,O,_⟩:=zgj I.hok d;obtain⟨l,J,_⟩:=O.look;exact ya2 (PySem.W.kitx_own (cl.get _) cl.hd j g f hm) I.kIn J e (fun z=>nomatch z) h
end
structure Room(k:Nat)(A:Around):Prop where
 hd:A.handled=none
 dp:A.depth+3*k+5<recursionLimit
 un:A.units+16*k+200<cLine
theorem Room.mono(r:Room k A)(h:j<=k):Room j A:=⟨r.hd,by have:=r.dp;omega,by have:=r.un;omega⟩
theorem Room.deeper(r:Room (k+1) A)(env:Env):Room k (A.deeper env):=
 ⟨r.hd,by have:=r.dp;show A.depth+1+3*k+5<_;omega,by have:=r.un;show A.units+3+16*k+200<_;omega⟩
def zj2{A:Around}:(A.under (.builtin "type.__call__" ⟨.ref C::us,kw⟩)).depth=A.depth+1:=by
 first|rfl|simp[Around.under,Code.weight,Code.isCreation,Code.isGuard,Code.isCaller,Code.frames,Code.isFrame,guardIds]
def zj1{A:Around}:(A.under (.builtin "type.__call__" ⟨.ref C::us,kw⟩)).units=A.units+1:=by
 first|rfl|simp[Around.under,Code.cUnits,Code.frames,Code.isFrame]
theorem Room.make(r:Room (k+1) A)(C:Addr)(us:List Value)(kw:List (Str×Value)):Room k (A.under (.builtin "type.__call__" ⟨.ref C::us,kw⟩)):=
 ⟨r.hd,by have:=r.dp;rw[zj2];omega,by have:=r.un;rw[zj1];omega⟩
theorem Room.depth(r:Room k A):A.depth<recursionLimit:=by have:=r.dp;omega
theorem Room.units(r:Room k A):A.units+64<cLine:=by have:=r.un;omega
noncomputable def zuy:TA:=fun _ H Q=>Q [] H
noncomputable def zpz(ta:TE)(I:TA):TA:=fun σ H Q=>ta σ H fun x H1=>I σ H1 fun xs H2=>Q (x::xs) H2
section
variable{X:Cx}{e:Expr}{es:List Expr}{te:TE}{t:TA}{pos:Pos}
def zbU:PA X [] zuy:=fun _ _ _ _ H Q I h=>ycC ⟨[],H,I,.nil,h⟩
def za2(U:PE X e te)(J:PA X es t)(hs:autoParam (starEach (e::es) X.env=(false,eval e X.env)::starEach es X.env) yAW):PA X (e::es) (zpz te t):=by
 intro pos pins s σ H Q I h;rw[hs];show wpAny _ _ (spliced ((false,eval e X.env)::backTo pos (starEach es X.env))) _ _ s;refine ybB (thn (U pins s σ H _ I h) fun u s1 ⟨x,H1,f,a,c⟩=>?_);exact thn (J pos pins s1 σ H1 _ f c) fun us s2 ⟨xs,H2,d,r2,b⟩=>⟨x::xs,H2,d,.cons a r2,b⟩
noncomputable def zyt(t:TA):TE:=fun σ H Q=>t σ H fun xs H1=>xs.length<=sizeLine/\∀p,H1 p=none->Q (.ref p) (upd H1 p (.tup xs))
noncomputable def zyw(t:TA):TE:=fun σ H Q=>t σ H fun xs H1=>xs.length<=sizeLine/\∀p,H1 p=none->Q (.ref p) (upd H1 p (.lst xs))
def zoK{J}(h:PA X es t):PE X (.Tuple es J pos) (zyt t):=by
 intro pins s σ H Q I c;refine wpAny_Tuple_spliced (thn (h pos pins s σ H _ I c) fun us s1 ⟨xs,H1,a,r,z,q⟩=>⟨by rw[<-r.length];exact z,?_⟩);have hf:H1 s1.heap.objs.size=none:=a.hok.fresh (yai _);refine⟨.ref s1.heap.objs.size,upd H1 s1.heap.objs.size (.tup xs),a.laid (t':=s1.toks) (fun b u e=>yag _ e) (yai _) ?_,rfl,q _ hf⟩;exact⟨z,us,r,⟨_,yaw _ rfl,rfl,_,rfl,rfl⟩⟩
def zoN(h:PA X es t):PE X (.List es pos) (zyw t):=by
 intro pins s σ H Q I c;refine wpAny_List_spliced (thn (h pos pins s σ H _ I c) fun us s1 ⟨xs,H1,a,r,z,q⟩=>⟨by rw[<-r.length];exact z,?_⟩);have hf:H1 s1.heap.objs.size=none:=a.hok.fresh (yai _);refine⟨.ref s1.heap.objs.size,upd H1 s1.heap.objs.size (.lst xs),a.laid (t':=s1.toks) (fun b u e=>yag _ e) (yai _) ?_,rfl,q _ hf⟩;exact⟨z,us,0,r,yaw _ rfl⟩
end
noncomputable abbrev Sp:=List V->Hp->VK->XK->Prop
noncomputable abbrev CXT:=List Env->Hp->Shared->XK->Value->Shared->Prop
structure Env0(P:Program)(w:World)(K:PySem.W.Frag)(mg:Z6)(base:Heap)(A:Around)(outer:List Env)(s:Shared)(H:Hp):Prop where
 frames:A.frames=some outer
 mod:Mod K mg base
 bs:∀b o,base.get? b=some o->s.heap.get? b=some o/\H b=none
 bsz:base.objs.size<=s.heap.objs.size
 funs:s.heap.FunFrames base outer
 frf:∀b∈frs outer,H b=none
 hok:HOk P w H s.heap
 bare:AllBare s.gens
noncomputable def CE(outer:List Env)(P:Program)(w:World)(H:Hp)(s:Shared)(Q:VK)(u:Value)(s':Shared):Prop:=
 ∃v H',s'.os=s.os/\AllBare s'.gens/\Un (frs outer) [] H H' s.heap s'.heap/\HOk P w H' s'.heap/\zaZ v u/\Q v H'
noncomputable def CR(CX:CXT)(outer:List Env)(P:Program)(w:World)(H:Hp)(s:Shared)(Q:VK)(E:XK)(r:Result)(s':Shared):Prop:=
 match r with
 |.ok (.ret u)=>CE outer P w H s Q u s'|.ok _=>False|.error e=>CX outer H s E e s'
structure FnOk(P:Program)(w:World)(K:PySem.W.Frag)(mg:Z6)(base:Heap)(CX:CXT)(k:Nat)(f:Addr)(fd:FuncData)(ps:List Str)(sp:Sp):Prop where
 len:∀vs H Q E,sp vs H Q E->vs.length=ps.length
 run:∀(A:Around) (outer:List Env) (s:Shared) (H:Hp) (args:Args) (us:List Value) (vs:List V) (Q:VK) (E:XK),Room k A->Env0 P w K mg base A outer s H->BindsTo s fd args (ps.zip us)->Vals vs us->sp vs H Q E →
  codeAny (model P w) A (.call (.ref f) args) (CR CX outer P w H s Q E) s
theorem FnOk.mono{P:Program}{K:PySem.W.Frag}{j k:Nat}(F:FnOk P w K mg base CX j f fd ps sp)(h:j<=k):
  FnOk P w K mg base CX k f fd ps sp:=⟨F.len,fun A outer s H args us vs Q E a=>F.run A outer s H args us vs Q E (a.mono h)⟩
def FnOk.imp{P:Program}{K:PySem.W.Frag}{k:Nat}(F:FnOk P w K mg base CX k f fd ps sp)
  (h:∀vs H Q E,I vs H Q E->sp vs H Q E):FnOk P w K mg base CX k f fd ps I:=
 ⟨fun vs H Q E q=>F.len vs H Q E (h _ _ _ _ q),fun A outer s H args us vs Q E a he hb hv hs=>F.run A outer s H args us vs Q E a he hb hv (h _ _ _ _ hs)⟩
def Env0.make{P:Program}{K:PySem.W.Frag}{A:Around}(e:Env0 P w K mg base A outer s H)(C:Addr)(us:List Value)(kw:List (Str×Value)):
  Env0 P w K mg base (A.under (.builtin "type.__call__" ⟨.ref C::us,kw⟩)) outer s H:=⟨by first|exact e.frames|(simpa[Around.under,Code.envs,Code.isFrame,pushEnvs]using e.frames),e.mod,e.bs,e.bsz,e.funs,e.frf,e.hok,e.bare⟩
section
variable{X:Cx}{pins:Z3}{σ:St}{H:Hp}{s s':Shared}
def Inv.env0(I:Inv X pins σ H s):Env0 X.prog X.w X.K X.mg X.base X.A X.stack s H:=
 ⟨I.ok.frames,I.ok.mod,I.bs,yav I.ok.bsz I.sz,I.stack,I.stkFree,I.hok,I.bare⟩
def Inv.after(I:Inv X pins σ H s)(h:CE X.stack X.prog X.w H s Q u s'):EP X pins σ Q u s':=by
 obtain⟨v,H',os,bare,un,hok,r,q⟩:=h;obtain⟨c,g,d,t,a⟩:=s';obtain rfl:a=s.os:=os;exact⟨v,H',I.call (h':=c) (g':=g) (d':=d) (t':=t) (ch:=[]) un hok bare (fun b z=>absurd z (by simp)),r,q⟩
end
noncomputable def zcR(K:PySem.W.Frag)(fd:FuncData)(ps:List Str)(ds:List Value):Prop:=
 ∀(s:Shared) (us:List Value),K.In s.heap->(us++ds).length=ps.length->BindsTo s fd ⟨us,[]⟩ (ps.zip (us++ds))
def zcR.all{K:PySem.W.Frag}{ps:List Str}(h:∀us:List Value,us.length=ps.length->bindArgs fd ⟨us,[]⟩=pure (ps.zip us)):zcR K fd ps []:=fun s us _ a=>by
 rw[yaQ]at a ⊢;exact .of_eq (h us a)
noncomputable def zpj(CX:CXT)(X:Cx)(E:XK):Prop:=∀(pins:Z3) (σ:St) (H:Hp) (s:Shared) (e:Value) (s':Shared),Inv X pins σ H s->CX X.stack H s E e s'->X.xe e s'
section
variable{X:Cx}{CX:CXT}{k:Nat}{f C:Addr}{fd:FuncData}{ps:List Str}{sp:Sp}{dvs:List V}{ds:List Value}{E:XK}{x m:Str}{p pos apos:Pos}{e o:Expr}{es:List Expr}{ta:TE}{t:TA}
structure Mk(K:PySem.W.Frag)(C f:Addr):Prop where
 makes:PySem.W.makesIn K C=true
 init:PySem.W.findIn K (.ref C) "__init__"=some (some (.ref f))
 fn:PySem.W.isFn K (.ref f)=true
 kp:PySem.W.keepIn K (.ref C)=true
end
structure FnScope(N P:List Str)(sc:Scope):Prop where
 kind:sc.kind=.function
 co:sc.isCoroutine=false
 gen:sc.isGenerator=false
 nd:N.Nodup
 pre:N.take P.length=P
 par:∀x∈P,sc.names.lookup x=some .local\/sc.names.lookup x=some .cell
 nofree:∀y∈sc.names,y.2≠.free
theorem zhC{kindOf:Str->Option NameKind}:∀{binds:List (Str×Value)}{m:Z6},(∀v,(x,v) ∉ binds)->bindL kindOf binds m x=m x
 |[],_,_=>rfl|(n,v)::r,m,h=>by
  unfold bindL;rw[zhC fun w a=>h w (yaj _ a)];split
  ·have:x≠n:=by rintro rfl;exact h v yao
   simp[this]
  ·rfl
theorem zhE{kindOf:Str->Option NameKind}:∀{binds:List (Str×Value)}{m:Z6},(∀v,(x,v) ∉ binds)->bindC kindOf binds m x=m x
 |[],_,_=>rfl|(n,v)::r,m,h=>by
  unfold bindC;rw[zhE fun w a=>h w (yaj _ a)];split
  ·rfl
  ·have:x≠n:=by rintro rfl;exact h v yao
   simp[this]
theorem zhD{kindOf:Str->Option NameKind}:∀{P:List Str}{vs:List Value}{i:Nat}{m:Z6},P.Nodup->P[i]?=some x->vs[i]?=some v->kindOf x=some .local →
  bindL kindOf (P.zip vs) m x=some v
 |[],_,_,_,_,h,_,_=>by simp at h
 |_::_,[],_,_,_,_,h,_=>by simp at h
 |p::P,w::vs,0,m,nd,h1,h2,hk=>by
  simp at h1 h2;subst h1;subst h2;show bindL kindOf ((p,w)::P.zip vs) m p=_;unfold bindL;rw[zhC fun v hv=>(ya7.mp nd).1 (ybl hv).1,if_pos hk];simp
 |p::P,w::vs,i+1,m,nd,h1,h2,hk=>by
  show bindL kindOf ((p,w)::P.zip vs) m x=_;unfold bindL;exact zhD (i:=i) (ya7.mp nd).2 (by simpa using h1) (by simpa using h2) hk
theorem zhF{kindOf:Str->Option NameKind}:∀{P:List Str}{vs:List Value}{i:Nat}{m:Z6},P.Nodup->P[i]?=some x->vs[i]?=some v->kindOf x≠some .local →
  bindC kindOf (P.zip vs) m x=some v
 |[],_,_,_,_,h,_,_=>by simp at h
 |_::_,[],_,_,_,_,h,_=>by simp at h
 |p::P,w::vs,0,m,nd,h1,h2,hk=>by
  simp at h1 h2;subst h1;subst h2;show bindC kindOf ((p,w)::P.zip vs) m p=_;unfold bindC;rw[zhE fun v hv=>(ya7.mp nd).1 (ybl hv).1,if_neg hk];simp
 |p::P,w::vs,i+1,m,nd,h1,h2,hk=>by
  show bindC kindOf ((p,w)::P.zip vs) m x=_;unfold bindC;exact zhF (i:=i) (ya7.mp nd).2 (by simpa using h1) (by simpa using h2) hk
noncomputable def zdn(N:List Str)(vs:List V):St:=vs.map some++List.replicate (N.length-vs.length) none
noncomputable def zik(CX:CXT)(P:Program)(w:World)(K:PySem.W.Frag)(mg:Z6)(base:Heap)(N:List Str)(qual:Str)(scope:Scope)(f:Addr)(cd:Value)(A:Around)(outer:List Env)(s:Shared)(H:Hp)(E:XK):Cx where
 prog:=P
 w:=w
 K:=K
 mg:=mg
 base:=base
 A:=A.deeper (envOfC qual scope s.heap.objs.size f cd)
 N:=N
 s₀:=s
 H₀:=H
 env:=envOfC qual scope s.heap.objs.size f cd
 outer:=outer
 stack:=envOfC qual scope s.heap.objs.size f cd::outer
 ex:=[]
 calm:=true
 fn:=fun _=>true
 pn:=[]
 xe:=fun e s'=>wpAny (model P w) (A.deeper (envOfC qual scope s.heap.objs.size f cd)) (leaving (envOfC qual scope s.heap.objs.size f cd) e) (fun _ a=>CX outer H s E e a) (fun b a=>CX outer H s E b a) s'
def zjz{sc:Scope}(h:sc.names.lookup x=some .cell):∃c,(cellsFrom n sc.names []).lookup x=some c:=by
 have q:=ybV sc.names n [] (.inl h);exact Option.isSome_iff_exists.mp q
theorem ze3{P:Program}{K:PySem.W.Frag}{N ps:List Str}{scope:Scope}{A:Around}{s s1:Shared}{vs:List V}
  (S:FnScope N ps scope) (hd:A.handled=none) (I:Env0 P w K mg base A outer s H) (J:vs.length=ps.length) (r:Vals vs us)
  (x:InCallC s s.heap.objs.size (bindL (envOfC qual scope s.heap.objs.size f cd).kindOf (ps.zip us) fun _=>none) (cellsFrom (s.heap.objs.size+1) scope.names []) (bindC (envOfC qual scope s.heap.objs.size f cd).kindOf (ps.zip us) fun _=>none) s1):
  Inv (zik CX P w K mg base N qual scope f cd A outer s H E) [] (zdn N vs) H s1:=by
 have af:ps.length<=N.length:=by have:=congrArg List.length S.pre;rw[yby]at this;omega
 obtain⟨h1,tk,rfl,hk⟩:=x.done;have d:∀b:Addr,b ∉ (zik CX P w K mg base N qual scope f cd A outer s H E).ex:=fun b z=>absurd (show b∈([]:List Addr)from z) (by simp)
 refine⟨⟨I.mod,S.kind,rfl,rfl,yai _,fun y z c h1 h2=>?_,fun y g=>?_,fun y c _ h=>?_,fun _=>hd,Around.frames_deeper I.frames,.inr ⟨rfl,rfl⟩,fun b z=>absurd z (d b),I.bs,I.bsz,fun b _ _=>d b,fun b z=>absurd z (d b),I.funs,I.frf⟩,
  rfl,I.bare,Un.kept hk,⟨_,x.toInCall.ns,fun i y v h1 h2 B=>?_⟩,fun y c h=>⟨_,x.cell y c h⟩,I.hok.fresh (yai _),fun y c h=>?_,fun p l=>absurd (show p∈([]:Z3)from l) (by simp),I.hok.kept hk,?_⟩
 ·exact name_of_addr x.apart (yaC h1) (yaC h2)
 ·have g:scope.names.lookup y=some .cell\/scope.names.lookup y=some .free:=g
  rcases g with g|g
  ·exact zjz g
  ·exact absurd rfl (S.nofree _ (yaC g))
 ·exact ycH (x.above y c (yaC h))
 ·have hi:i<vs.length:=by
   unfold zdn at h2
   by_cases hi:i<vs.length
   ·exact hi
   ·rw[yax (by simpa using hi)]at h2;rw[ybR]at h2
    split at h2<;>cases h2
  have t:vs[i]?=some v:=by
   unfold zdn at h2;rw[yaI (by simpa using hi),yaM]at h2
   cases e:vs[i]? with
   |none=>rw[e]at h2;cases h2|some a=>rw[e]at h2;cases h2;rfl
  obtain⟨u,m,o⟩:=r.get t
  have l:ps[i]?=some y:=by
   rw[<-S.pre,List.getElem?_take_of_lt (by omega)];exact h1
  have j:ps.Nodup:=by rw[<-S.pre];exact S.nd.sublist (yc9 _ _)
  refine⟨u,o,?_⟩
  rcases S.par y (ya4 l)with k|k
  ·exact .inl ⟨k,zhD j l m k⟩
  ·obtain⟨c,e⟩:=zjz (n:=s.heap.objs.size+1) k;refine .inr ⟨.inl k,c,e,?_⟩;have q:=x.cell y c e;rw[zhF j l m (by show scope.names.lookup y≠_;rw[k];decide)]at q;exact q
 ·exact I.hok.fresh (ycH (x.above y c (yaC h)))
 ·unfold zdn;show _=N.length;rw[yae,yab,yaU];omega
def ztN{CX:CXT}{P:Program}{w:World}{K:PySem.W.Frag}{mg:Z6}{base:Heap}{k:Nat}{f:Addr}{name qual:Str}{params:Arguments}{body:List Stmt}{scope:Scope}{dV kV doc pm U ct oc:Value}{an od:Option Addr}
  {a4:Array (Option Value)}{N ps:List Str}{sp:Sp} (lk:K.lookup f=some ⟨oc,od,.func (PySem.W.fnOf name qual params body scope dV kV doc pm an U ct),a4⟩) (hcd:PySem.W.codeIn K U qual=true) (S:FnScope N ps scope)
  (len:∀vs H Q E,sp vs H Q E->vs.length=ps.length)
  (a3:∀(A:Around) (outer:List Env) (s:Shared) (H:Hp) (vs:List V) (Q:VK) (E:XK),Room k (A.deeper (envOfC qual scope s.heap.objs.size f U))->sp vs H Q E →
   ∃t,PSs (zik CX P w K mg base N qual scope f U A outer s H E) body t/\t {nx:=fun _ H'=>Q .non H',rt:=Q} (zdn N vs) H):
  FnOk P w K mg base CX (k+1) f (PySem.W.fnOf name qual params body scope dV kV doc pm an U ct) ps sp:=by
 refine⟨len,fun A outer s H args us vs Q E i g hb r d=>?_⟩;have z:=len _ _ _ _ d;have j:K.In s.heap:=g.mod.kin.keeps fun b o e=>(g.bs b o e).1
 have lim:s.heap.NoLimit:=g.mod.nolimit.keeps fun b o e=>(g.bs b o e).1
 have c:∀y∈ps.zip us,scope.names.lookup y.1=some .local\/(scope.names.lookup y.1=some .cell/\((cellsFrom (s.heap.objs.size+1) scope.names []).lookup y.1).isSome=true):=fun⟨n,v⟩ l=>by
  rcases S.par n (ybl l).1 with q|q
  ·exact .inl q
  ·exact .inr ⟨q,ybV _ _ _ (.inl q)⟩
 refine ycI i.depth (j _ _ lk) rfl S.co S.gen rfl (yc1 j hcd) (hb _ _ _ _ ?_);refine ycc S.kind c fun env he s1 x=>?_
 subst he;refine⟨lim.keeps x.toInCall.keep,codeAny_func ?_⟩;obtain⟨t,m,p⟩:=a3 A outer s H vs Q E (i.deeper _) d;have I:Inv (zik CX P w K mg base N qual scope f U A outer s H E) [] (zdn N vs) H s1:=ze3 S i.hd g z r x;refine ya0 (m [] s1 (zdn N vs) H _ I p) (fun B s' hs=>?_) fun e s' hs=>hs
 have fin:∀{a:St}{H':Hp}{v:V}{u:Value},Inv (zik CX P w K mg base N qual scope f U A outer s H E) [] a H' s'->zaZ v u->Q v H'->CE outer P w H s Q u s':=
  fun {a H' v u} J h q=>⟨v,H',J.os,J.bare,J.base,J.hok,h,q⟩
 cases B with
 |ret u=>
  obtain⟨v,a,H',J,h,q⟩:=hs;exact fin J h q
 |next=>
  obtain⟨a,H',J,q⟩:=hs;exact fin (v:=V.non) (u:=Value.none) J rfl q
 |brk=>
  obtain⟨_,_,_,q⟩:=hs;exact False.elim q
 |cont=>
  obtain⟨_,_,_,q⟩:=hs;exact False.elim q
section
variable{X:Cx}{x:Str}{p pos:Pos}{e:Expr}{es:List Expr}{t:TA}{id T:String}{r:List V->Hp->VK->Prop}
noncomputable def tCB(r:List V->Hp->VK->Prop)(t:TA):TE:=fun σ H Q=>t σ H fun vs H1=>r vs H1 Q
def zcJ(hc:zdY X (.builtin id) r)(hg:Gl X x)(hm:X.mg x=none)(hv:bootBuiltins x=some (.builtin id))(ha:PA X (e::es) t)(U:autoParam (x ≠ "__name__") yAR)(J:autoParam ((x==("__debug__":Str))=false) yAR)
  (he:autoParam (starEach (e::es) X.env=(false,eval e X.env)::starEach es X.env) yAW) (af:autoParam ((backTo pos (starEach es X.env)).any (·.1)=false) yAW):PE X (.Call (.Name x p) (e::es) [] pos) (tCB r t):=by
 intro pins s σ H Q I h;refine ybe (zhd I hg hm hv ?_ U J);exact PyProof.Rows.callWith_builtin1 (thn (ha pos pins s σ H _ I h) fun us s1 ⟨vs,H1,c,a,b⟩=>hc pins s1 σ H1 vs us Q c a b) he af
def zeN(hc:zdY X (.type T) r)(hg:Gl X x)(hm:X.mg x=none)(hv:bootBuiltins x=some (.type T))(ha:PA X (e::es) t)(U:autoParam (x ≠ "__name__") yAR)(J:autoParam ((x==("__debug__":Str))=false) yAR)
  (he:autoParam (starEach (e::es) X.env=(false,eval e X.env)::starEach es X.env) yAW) (af:autoParam ((backTo pos (starEach es X.env)).any (·.1)=false) yAW):PE X (.Call (.Name x p) (e::es) [] pos) (tCB r t):=by
 intro pins s σ H Q I h;refine ybe (zhd I hg hm hv ?_ U J);exact yb2 (thn (ha pos pins s σ H _ I h) fun us s1 ⟨vs,H1,c,a,b⟩=>hc pins s1 σ H1 vs us Q c a b) he af
end
end L2
namespace HT
open PySem PyProof.Rows
section
open PySem.SeqAt
open PySem.AutoSeq1 (wpAny_loadPart')
open PySem.MeetsSeq PySem.MeetsSeq2 PySem.MeetsSeq3
end
section
variable{prog:Program}{w:World}{A:Around}{E:Z5}{s:Shared}
def zrl{t b:Addr}{vs I:List Value}{Q:Z5}(J:IsTup s.heap t vs.toArray)(hb:IsTup s.heap b I.toArray)(hv:vs≠[])
  (h1:I=[]->Q (.ref t) s) (h2:I≠[]->Q (.ref s.heap.objs.size) {s with heap:=s.heap.push {cls:=.type "tuple",data:=.seq (vs++I).toArray}})
  (hsz:vs.length+I.length<=sizeLine):wpAny (model prog w) A (binaryOp .Add (.ref t) (.ref b)) Q E s:=by
 obtain⟨⟨cls,dd,data,sl⟩,h,j,n,hd⟩:=id J;obtain⟨⟨k,g,data2,c⟩,a,f,i,d⟩:=id hb;simp only at j hd f d;subst j hd f d
 have e:vs.toArray++I.toArray=(vs++I).toArray:=by simp
 by_cases hw:I=[]
 ·exact concat_meets ⟨_,h,rfl⟩ ⟨_,a,rfl⟩ noFill_tuple_add seq_tuple_add ycA ycq (yck _ _)
   (tuple_addW1 t b vs.toArray I.toArray n i dd g sl c (by simpa using hv) (by simp[hw])) ⟨h,a,h1 hw⟩
 ·refine concat_meets ⟨_,h,rfl⟩ ⟨_,a,rfl⟩ noFill_tuple_add seq_tuple_add ycA ycq (yck _ _)
   (tuple_addW2 t b vs.toArray I.toArray n i dd g sl c (by simpa using hv) (by simpa using hw) (by rw[yam,yam];exact hsz)) ⟨h,a,?_⟩
  rw[e];exact h2 hw
noncomputable def sIx(n d:Nat):Option Int->Nat
 |none=>d|some v=>if v<0 then(v+(n:Int)).toNat else min v.toNat n
def zf0(n d:Nat):sIx n d none=d:=rfl
theorem zeI(n d k:Nat):sIx n d (some (k:Int))=min k n:=by
 show(if(k:Int)<0 then((k:Int)+(n:Int)).toNat else min (k:Int).toNat n)=min k n;rw[if_neg (by omega),ycD]
theorem zsh(n d:Nat)(hd:d<=n)(o:Option Int):sIx n d o<=n:=by
 cases o with
 |none=>exact hd|some v=>
  show(if v<0 then(v+(n:Int)).toNat else min v.toNat n)<=n
  by_cases hv:v<0
  ·rw[if_pos hv];omega
  ·rw[if_neg hv];exact Nat.min_le_right _ _
theorem zmv(v:Int)(n d:Nat):(if v<0 then max (v+(n:Int)) 0 else min v (n:Int))=((sIx n d (some v):Nat):Int):=by
 show(if v<0 then max (v+(n:Int)) 0 else min v (n:Int))=(((if v<0 then(v+(n:Int)).toNat else min v.toNat n):Nat):Int)
 by_cases hv:v<0
 ·simp only[if_pos hv];omega
 ·simp only[if_neg hv];omega
theorem zkg(lo hi:Option Int)(n:Nat):Builtin.Slice.sliceAdjust lo hi 1 (n:Int)=(((sIx n 0 lo:Nat):Int),((sIx n n hi:Nat):Int)):=by
 have h1:¬ ((1:Int)<0):=by omega
 unfold Builtin.Slice.sliceAdjust;simp only[h1,ydg];refine Prod.ext ?_ ?_
 ·cases lo with
  |none=>rfl|some v=>exact zmv v n 0
 ·cases hi with
  |none=>rfl|some v=>exact zmv v n n
theorem zjV(i j:Nat):Builtin.Slice.slicePlaces (i:Int) (j:Int) 1=j-i:=by
 unfold Builtin.Slice.slicePlaces
 have h1:(1:Int) > 0:=by omega
 simp only[h1,yci,Int.ediv_one]
 split<;>omega
def zfw(p:IsPart v o)(h:Q o s):wpAny (model prog w) A (Builtin.Slice.slicePartIndex v) Q E s:=by
 cases p with
 |none=>exact slicePart_none h|int i t=>exact slicePart_int h
def zcS{sl:Addr}{J I:Value}{lo hi:Option Int}{n:Nat}{Q:Int×Int×Nat->Shared->Prop}(hs:s.heap.IsSliceOf sl J I .none)(pl:IsPart J lo)(pu:IsPart I hi)
  (h:Q (((sIx n 0 lo:Nat):Int),1,sIx n n hi-sIx n 0 lo) s):wpAny (model prog w) A (Builtin.Slice.sliceApplied (.ref sl) (pure (n:Int))) Q E s:=by
 obtain⟨os,a,c,b⟩:=id hs;unfold Builtin.Slice.sliceApplied Builtin.Slice.sliceFields;refine yac (yac (ybG a b (x:=J) rfl (yac (ybG a b (x:=I) rfl (yac (ybG a b (x:=.none) rfl (yak ?_)))))));refine yac (slicePart_none ?_);show wpAny _ _ (if((1:Int)==0)=true then _ else _) _ _ s;rw[if_neg (by decide)];refine yac (zfw pl (yac (zfw pu (yac (yak ?_)))));show wpAny _ _ (match Builtin.Slice.sliceAdjust lo hi 1 (n:Int)with|(lo,hi)=>pure (lo,(1:Int),Builtin.Slice.slicePlaces lo hi 1)) _ _ s;rw[zkg lo hi n];show wpAny _ _ (pure (((sIx n 0 lo:Nat):Int),(1:Int),Builtin.Slice.slicePlaces ((sIx n 0 lo:Nat):Int) ((sIx n n hi:Nat):Int) 1)) _ _ s;rw[zjV];exact yak h
theorem znf(xs:Array Value)(i k:Nat):((List.range k).filterMap fun(m:Nat)=>xs[((i:Int)+(m:Int)*1).toNat]?).toArray=((xs.toList.drop i).take k).toArray:=by
 have e:(fun(m:Nat)=>xs[((i:Int)+(m:Int)*1).toNat]?)=fun m=>xs[i+m]?:=by
  funext m
  have:((i:Int)+(m:Int)*1).toNat=i+m:=by omega
  rw[this]
 rw[e];have:=pick_run xs i k;rw[yc2]at this;have e2:((fun x=>xs[x]?)∘fun x=>i+x)=fun m=>xs[i+m]?:=rfl
 rw[e2]at this;rw[this]
theorem zd8{t sl:Addr}{items:Array Value}{U J:Value}{lo hi:Option Int}{Q:Z5}(I:IsTup s.heap t items)(hs:s.heap.IsSliceOf sl U J .none)(pl:IsPart U lo)(pu:IsPart J hi)
  (hw:¬ (sIx items.size 0 lo=0/\sIx items.size items.size hi=items.size))
  (h:Q (.ref s.heap.objs.size) {s with heap:=s.heap.push {cls:=.type "tuple",data:=.seq ((items.toList.drop (sIx items.size 0 lo)).take (sIx items.size items.size hi-sIx items.size 0 lo)).toArray}})
  (hsz:items.size<=sizeLine):wpAny (model prog w) A (getItem (.ref t) (.ref sl)) Q E s:=by
 have a:sizeOk (.seq ((items.toList.drop (sIx items.size 0 lo)).take (sIx items.size items.size hi-sIx items.size 0 lo)).toArray):=by
  show((items.toList.drop (sIx items.size 0 lo)).take (sIx items.size items.size hi-sIx items.size 0 lo)).toArray.size<=sizeLine;rw[yam,yby,ybp,yba];omega
 have j:sIx items.size items.size hi<=items.size:=zsh _ _ (yai _) hi;obtain⟨os,b,d,f⟩:=id hs;have e:s.TypeIs (.ref sl) "slice":=⟨os,b,d⟩;unfold getItem
 try with_reducible refine ybr ?_
 first|refine yac (yak ?_)|skip
 refine yac (wpAny_sequenceKey I.typeIs (by decide) ?_)
 refine yac (ybf (name:=Str.ofString "__getitem__") I.typeIs yaW
  (ybz yaW I.typeIs entry_tuple_getitem ?_ (args_tuple_getitem _ _)))
 show wpAny _ _ (Builtin.Tuple.tupleItemsOf (.ref t) >>= _) _ _ s;refine yac (tupleItemsOf_ I ?_);refine yac (wpAny_typeOf e ?_);rw[if_pos (by decide)];refine yac (zcS hs pl pu ?_)
 have c:¬ ((((sIx items.size 0 lo:Nat):Int)==0&&(1:Int)==1&&(sIx items.size items.size hi-sIx items.size 0 lo)==items.size)=true):=by
  intro q;rw[yaa,yaa]at q;have i:((sIx items.size 0 lo:Nat):Int)=0:=eq_of_beq q.1.1;have g:sIx items.size items.size hi-sIx items.size 0 lo=items.size:=eq_of_beq q.2;exact hw ⟨by omega,by omega⟩
 show wpAny _ _ (if(((sIx items.size 0 lo:Nat):Int)==0&&(1:Int)==1&&(sIx items.size items.size hi-sIx items.size 0 lo)==items.size)=true then _ else _) _ _ s;rw[if_neg c,znf]
 first
  |exact yac (m:=Builtin.Tuple.tupleExact _) (ybj (yak ⟨_,rfl,yak h⟩) a)
  |exact yac (m:=Builtin.Tuple.tupleExact _) (ybj (yac (yak (yak ⟨_,rfl,yak h⟩))) a)
  |exact yac (yac (m:=Builtin.Tuple.tupleExact _) (ybj (yak (yak ⟨_,rfl,yak h⟩)) a))
  |exact yac (yac (m:=Builtin.Tuple.tupleExact _) (ybj (yak ⟨_,rfl,yak h⟩) a))
end
end HT
namespace L2
open PySem PySem.Spec PyProof.Rows
noncomputable abbrev TO:=St->Hp->(Option Int->Hp->Prop)->Prop
noncomputable def PO(X:Cx)(e:Option Expr)(t:TO):Prop:=
 ∀(pins:Z3) (s:Shared) (σ:St) (H:Hp) (Q:Option Int->Hp->Prop),Inv X pins σ H s->t σ H Q →
  wpAny (model X.prog X.w) X.A (evalPart e X.env) (fun u s'=>∃o H',Inv X pins σ H' s'/\IsPart u o/\Q o H') X.xe s
noncomputable def zkH:TO:=fun _ H Q=>Q none H
noncomputable def zrJ(t:TE):TO:=fun σ H Q=>t σ H fun x H1=>∃i,x=.int i/\Q (some i) H1
section
variable{X:Cx}{e:Expr}{te:TE}{lo hi:Option Expr}{tl th:TO}{pos p2:Pos}
def zqm:PO X none zkH:=by
 intro pins s σ H Q I h;rw[evalPart_none];exact yak ⟨none,H,I,.none,h⟩
def zql(h:PE X e te):PO X (some e) (zrJ te):=by
 intro pins s σ H Q I c;rw[evalPart_some];refine thn (h pins s σ H _ I c) fun u s1 ⟨x,H1,d,a,b⟩=>?_
 obtain⟨i,rfl,q⟩:=b;obtain⟨t,rfl⟩:=a;exact⟨some i,H1,d,.int i t,q⟩
noncomputable def SlR(X:Cx)(r:V->Option Int->Option Int->Hp->VK->Prop):Prop:=
 ∀(pins:Z3) (s:Shared) (σ:St) (H:Hp) (x:V) (v b a:Value) (lo hi:Option Int) (sl:Addr) (Q:VK),Inv X pins σ H s->zaZ x v->s.heap.IsSliceOf sl b a .none->IsPart b lo->IsPart a hi->r x lo hi H Q →
  ∃T id,typeLookup (.type T) "__getitem__"=pure (some (.builtin id))/\s.TypeIs v T/\wpAny (model X.prog X.w) X.A (getItem v (.ref sl)) (EP X pins σ Q) X.xe s
noncomputable def tSl(r:V->Option Int->Option Int->Hp->VK->Prop)(te:TE)(tl th:TO):TE:=fun σ H Q=>te σ H fun x H1=>tl σ H1 fun l H2=>th σ H2 fun u a=>r x l u a Q
def zni(U:SlR X r)(he:PE X e te)(hl:PO X lo tl)(J:PO X hi th):PE X (.Subscript e (.Slice lo hi none p2) pos) (tSl r te tl th):=by
 intro pins s σ H Q I h;refine Subscript_ (thn (he pins s σ H _ I h) fun v s1 ⟨x,H1,z,g,k⟩=>?_);refine wpAny_Slice (thn (hl pins s1 σ H1 _ z k) fun d s2 ⟨l,H2,y,pl,j⟩=>thn (J pins s2 σ H2 _ y j) fun c a ⟨u,f,t,pu,i⟩=>?_);rw[evalPart_none];refine yak ?_;have p:Inv X pins σ f {a with heap:=a.heap.push {cls:=.type "slice",data:=.fields #[d,c,.none]}}:=t.kept (t':=a.toks) fun b ob q=>yag _ q
 obtain⟨T,id,o,m,n⟩:=U pins {a with heap:=a.heap.push {cls:=.type "slice",data:=.fields #[d,c,.none]}} σ f x v d c l u a.heap.objs.size Q p g (Heap.IsSliceOf.new ..) pl pu i;show wpAny (model X.prog X.w) X.A (subscriptTail e (.Slice lo hi none p2) v (.ref a.heap.objs.size)) (EP X pins σ Q) X.xe {a with heap:=a.heap.push {cls:=.type "slice",data:=.fields #[d,c,.none]}};exact tail_any (ops:=[.ref a.heap.objs.size,v]) m o n (by with_unfolding_all rfl)
def zpb(xs:List V)(lo hi:Option Int):List V:=(xs.drop (HT.sIx xs.length 0 lo)).take (HT.sIx xs.length xs.length hi-HT.sIx xs.length 0 lo)
theorem zfh(xs:List V)(lo hi:Option Int):(zpb xs lo hi).length<=xs.length:=by
 unfold zpb;rw[yby,ybp];omega
noncomputable def zyH(K:PySem.W.Frag):V->Option Int->Option Int->Hp->VK->Prop:=fun x lo hi H Q=>∃a xs,x=.ref a/\SqT K H a xs ∧
 ¬ (HT.sIx xs.length 0 lo=0/\HT.sIx xs.length xs.length hi=xs.length)/\∀p,H p=none->Q (.ref p) (upd H p (.tup (zpb xs lo hi)))
def zr2:SlR X (zyH X.K):=by
 intro pins s σ H x v j i lo hi sl Q I e hs pl pu h;obtain⟨a,xs,rfl,f,g,q⟩:=h;cases e;obtain⟨aa,r,d,c⟩:=I.tuple f
 have hlen:aa.toArray.size=xs.length:=by rw[yam];exact r.length.symm
 refine⟨"tuple",_,yaW.lookup,d.typeIs,?_⟩;refine HT.zd8 d hs pl pu (by rw[hlen];exact g) ?_ (by rw[hlen];exact c);rw[hlen];refine⟨.ref s.heap.objs.size,_,I.laid (t':=s.toks) (o:=.tup (zpb xs lo hi)) (fun b ob q=>yag _ q) (yai _) ?_,rfl,q _ (I.hok.fresh (yai _))⟩;exact⟨yav (zfh xs lo hi) c,_,(r.drop (HT.sIx xs.length 0 lo)).take (HT.sIx xs.length xs.length hi-HT.sIx xs.length 0 lo),zop.new _ _⟩
noncomputable def zvs(K:PySem.W.Frag):R2:=fun x y H Q=>∃a b xs ys,x=.ref a/\y=.ref b/\SqT K H a xs/\SqT K H b ys/\xs≠[]/\xs.length+ys.length<=sizeLine ∧
 (ys=[]->Q (.ref a) H)/\(ys≠[]->∀p,H p=none->Q (.ref p) (upd H p (.tup (xs++ys))))
def Vals.nil_iff(r:Vals xs us):us=[]↔xs=[]:=by
 cases r with
 |nil=>simp|cons _ _=>simp
def zqx:OpR X (binaryOp .Add) (zvs X.K):=by
 intro pins s σ H x y v u Q I g f h;obtain⟨a,b,xs,ys,rfl,rfl,m,hb,l,e,j,i⟩:=h;cases g;cases f;obtain⟨aa,c,k,_⟩:=I.tuple m;obtain⟨d,r2,p2,_⟩:=I.tuple hb;refine HT.zrl k p2 (fun z=>l (c.nil_iff.mp z)) (fun z=>⟨.ref a,H,I,rfl,j (r2.nil_iff.mp z)⟩) (fun z=>?_) (by rw[<-c.length,<-r2.length];exact e);refine⟨.ref s.heap.objs.size,_,I.laid (t':=s.toks) (o:=.tup (xs++ys)) (fun b ob q=>yag _ q) (yai _) ?_,rfl,i (fun w=>z (r2.nil_iff.mpr w)) _ (I.hok.fresh (yai _))⟩;exact⟨by rw[yae];exact e,_,c.append r2,zop.new _ _⟩
end
noncomputable def ixN(n:Nat)(i:Int):Option Nat:=if 0<=i then(if i<n then some i.toNat else none)else if -(n:Int)<=i then some (i+n).toNat else none
def atI{α:Type}(xs:List α)(i:Int):Option α:=(ixN xs.length i).bind fun j=>xs[j]?
theorem zqW(h:ixN n i=some j):seqIndex? i n=some j/\j<n/\-(n:Int)<=i/\i<n:=by
 unfold ixN at h
 by_cases h0:0<=i
 ·rw[if_pos h0]at h
  by_cases h1:i<n
  ·rw[if_pos h1]at h;have e:i.toNat=j:=Option.some.inj h;exact⟨by rw[seqIndex_of h0 h1,e],by omega,by omega,h1⟩
  ·rw[if_neg h1]at h;cases h
 ·rw[if_neg h0]at h
  by_cases h1:-(n:Int)<=i
  ·rw[if_pos h1]at h;have e:(i+n).toNat=j:=Option.some.inj h;exact⟨by rw[seqIndex_neg (by omega) h1,e],by omega,h1,by omega⟩
  ·rw[if_neg h1]at h;cases h
def zit{α:Type}{xs:List α}{v:α}(h:atI xs i=some v):∃j,seqIndex? i xs.length=some j/\xs[j]?=some v/\j<xs.length/\-(xs.length:Int)<=i/\i<xs.length:=by
 unfold atI at h
 cases e:ixN xs.length i with
 |none=>rw[e]at h;cases h|some j=>
  rw[e]at h;obtain⟨h1,h2,b,a⟩:=zqW e;exact⟨j,h1,h,h2,b,a⟩
noncomputable def ziv(b:Expr):Prop:=∀o i,subscripted b false o i=operate [o,i] (getItem o i)
noncomputable def IxR(X:Cx)(r:R2):Prop:=
 ∀(value slice:Expr) (pins:Z3) (s:Shared) (σ:St) (H:Hp) (x y:V) (v u:Value) (Q:VK),Inv X pins σ H s->zaZ x v->zaZ y u->r x y H Q →
  subscripted slice false v u=operate [v,u] (getItem v u)->wpAny (model X.prog X.w) X.A (subscriptTail value slice v u) (EP X pins σ Q) X.xe s
noncomputable def MtR(X:Cx)(id:String)(r:V->List V->Hp->VK->Prop):Prop:=
 ∀(pins:Z3) (s:Shared) (σ:St) (H:Hp) (x:V) (xs:List V) (v:Value) (us:List Value) (Q:VK),Inv X pins σ H s->zaZ x v->Vals xs us->r x xs H Q →
  wpAny (model X.prog X.w) X.A (call (.builtin id) (v::us)) (EP X pins σ Q) X.xe s
section
variable{X:Cx}{a b:Expr}{ta tb:TE}{pos:Pos}
def zvx(J:IxR X r)(U:PE X a ta)(hb:PE X b tb)(hs:ziv b):PE X (.Subscript a b pos) (tOp r ta tb):=by
 intro pins s σ H Q I h;exact Subscript_ (zwp U hb I h fun v u s2 x y H2 e d c q=>J a b pins s2 σ H2 x y v u Q e d c q (hs _ _))
noncomputable def zyN(K:PySem.W.Frag):R2:=fun x y H Q=>∃p xs i v,x=.ref p/\y=.int i/\SqL K H p xs/\atI xs i=some v/\Q v H
noncomputable def zyL(K:PySem.W.Frag):R2:=fun x y H Q=>∃p xs i v,x=.ref p/\y=.int i/\SqT K H p xs/\atI xs i=some v/\Q v H
noncomputable def zyM:R2:=fun x y H Q=>∃z i c,x=.str z/\y=.int i/\z.length<=sizeLine/\atI z.cps.toList i=some c/\Q (.str ⟨#[c]⟩) H
theorem zlV:IxR X (zyN X.K):=by
 intro value slice pins s σ H x y v u Q I e d h hs;obtain⟨p,xs,i,z,rfl,rfl,f,he,q⟩:=h;cases e;obtain⟨t,rfl⟩:=d;obtain⟨aa,r,pl,m⟩:=I.list f;obtain⟨j,h1,h2,o,l,k⟩:=zit he;obtain⟨w,c,a⟩:=r.get h2;have g:=r.length;have n:=zhb;have fin:EP X pins σ Q w s:=⟨z,H,I,a,q⟩
 by_cases h0:0<=i
 ·have b:i.toNat=j:=by
   rw[seqIndex_of h0 k]at h1;exact Option.some.inj h1
  exact item_listR pl.isList h0 (by omega) (by rw[b];simpa using c) fin hs
 ·have b:(i+(aa.toArray.size:Int)).toNat=j:=by
   rw[seqIndex_neg (by omega) l]at h1;rw[yam,<-g];exact Option.some.inj h1
  exact subscriptTail_builtinR (x:=w) pl.isList.typeIs slot_list_getitem.lookup
   (wpAny_getItem_list_neg (Q:=fun r s'=>r=w/\EP X pins σ Q r s') pl.isList (by omega) (by rw[yam]<;>omega) (by omega) (by rw[b];simpa using c) ⟨rfl,fin⟩) hs
theorem ztE:IxR X (zyL X.K):=by
 intro value slice pins s σ H x y v u Q I c b h hs;obtain⟨p,xs,i,z,rfl,rfl,d,he,q⟩:=h;cases c;obtain⟨t,rfl⟩:=b;obtain⟨aa,r,pl,g⟩:=I.tuple d;obtain⟨j,h1,h2,n,m,l⟩:=zit he;obtain⟨w,f,a⟩:=r.get h2;have e:=r.length;have k:=zhb;have fin:EP X pins σ Q w s:=⟨z,H,I,a,q⟩
 exact subscriptTail_builtinR (x:=w) pl.typeIs slot_tuple_getitem.lookup
  (getItem_tuple (j:=j) (Q:=fun r s'=>r=w/\EP X pins σ Q r s') pl (by omega) (by omega) (by rw[yam,<-e];exact h1) (by simpa using f) ⟨rfl,fin⟩) hs
def ztF:IxR X zyM:=by
 intro value slice pins s σ H x y v u Q I b a h hs;obtain⟨z,i,c,rfl,rfl,k,he,q⟩:=h;obtain⟨t,rfl⟩:=b;obtain⟨t',rfl⟩:=a;obtain⟨j,h1,h2,m,f,e⟩:=zit he
 have d:z.cps.toList.length=z.length:=by simp[Str.length]
 rw[d]at h1 f e;have l:=zhb
 exact tail_any (yb8 s z t) slot_str_getitem.lookup (getItem_str (c:=c) (by
  have g:decide (i < -(2 ^ 63:Int))=false:=yaz (by omega);have e2:decide (i ≥ 2 ^ 63)=false:=yaz (by omega)
  rw[g,e2,Bool.or_false]) (by rw[h1];simpa using h2) ⟨.str ⟨#[c]⟩,H,I.tok _,⟨_,rfl⟩,q⟩) hs
theorem zgM(lo hi:Option Int)(n:Nat):(sliceBounds lo hi none n).1=((HT.sIx n 0 lo:Nat):Int)/\(sliceBounds lo hi none n).2.1=((HT.sIx n n hi:Nat):Int)/\(sliceBounds lo hi none n).2.2=1:=by
 refine⟨?_,?_,rfl⟩
 ·cases lo with
  |none=>simp[sliceBounds,HT.sIx]|some i=>
   simp only[sliceBounds,HT.sIx,Option.getD_none,show(1:Int) > 0 by decide,yci]
   by_cases h:i<0
   ·simp only[h,yci]<;>omega
   ·simp only[h,ydg]<;>omega
 ·cases hi with
  |none=>simp[sliceBounds,HT.sIx]|some i=>
   simp only[sliceBounds,HT.sIx,Option.getD_none,show(1:Int) > 0 by decide,yci]
   by_cases h:i<0
   ·simp only[h,yci]<;>omega
   ·simp only[h,ydg]<;>omega
def zfY(aa:List Value)(lo hi:Option Int):slicePick aa.toArray lo hi none=((aa.drop (HT.sIx aa.length 0 lo)).take (HT.sIx aa.length aa.length hi-HT.sIx aa.length 0 lo)).toArray:=by
 obtain⟨h1,h2,a⟩:=zgM lo hi aa.toArray.size;unfold slicePick;rw[h1,h2,a]
 simp only[sliceRange_one,pick_run,yam]<;>rfl
noncomputable def zyI(K:PySem.W.Frag):V->Option Int->Option Int->Hp->VK->Prop:=fun x lo hi H Q=>∃a xs,x=.ref a/\SqL K H a xs/\∀p,H p=none->Q (.ref p) (upd H p (.lst (zpb xs lo hi)))
theorem zpQ:SlR X (zyI X.K):=by
 intro pins s σ H x v i g lo hi sl Q I d hs pl pu h;obtain⟨a,xs,rfl,f,q⟩:=h;cases d;obtain⟨aa,r,c,e⟩:=I.list f;have hlen:=r.length;refine⟨"list",_,slot_list_getitem.lookup,c.isList.typeIs,?_⟩;refine wpAny_getItem_list_slice c.isList hs pl pu .none (by simp) ?_ (by rw[yam]<;>omega);rw[zfY,<-hlen];refine⟨.ref s.heap.objs.size,_,I.laid (t':=s.toks) (o:=.lst (zpb xs lo hi)) (fun b ob q=>yag _ q) (yai _) ?_,rfl,q _ (I.hok.fresh (yai _))⟩;exact⟨yav (zfh xs lo hi) e,_,0,(r.drop (HT.sIx xs.length 0 lo)).take (HT.sIx xs.length xs.length hi-HT.sIx xs.length 0 lo),yaw _ rfl⟩
theorem zco:zdY X (.builtin "len") (fun xs H Q=>∃p ys,xs=[.ref p]/\(SqL X.K H p ys\/SqT X.K H p ys)/\Q (.int ys.length) H):=by
 intro pins s σ H xs us Q I r h;obtain⟨p,ys,rfl,a,q⟩:=h;obtain⟨u,rfl,c⟩:=zgE r;cases c;have e:=zhb
 rcases a with a|a
 ·obtain⟨aa,b,pl,d⟩:=I.list a;have hlen:=b.length;exact Calls.call_len_list pl.isList (by simp only[yam]<;>omega) ⟨.int ys.length,H,I.tok _,⟨s.toks+1,by rw[yam,hlen]⟩,q⟩
 ·obtain⟨aa,b,pl,d⟩:=I.tuple a;have hlen:=b.length;exact len_tuple pl (by simp only[yam]<;>omega) ⟨.int ys.length,H,I.tok _,⟨s.toks+1,by rw[yam,hlen]⟩,q⟩
theorem zhy:zdY X (.builtin "len") (fun xs H Q=>∃z,xs=[.str z]/\z.length<=sizeLine/\Q (.int z.length) H):=by
 intro pins s σ H xs us Q I r h;obtain⟨z,rfl,a,q⟩:=h;obtain⟨u,rfl,t,rfl⟩:=zgE r;have b:=zhb;exact len_str (by omega) ⟨.int z.length,H,I.tok _,⟨_,rfl⟩,q⟩
theorem zdX:zdY X (.type "tuple") (fun xs H Q=>∃p ys,xs=[.ref p]/\((SqL X.K H p ys/\∀l,H l=none->Q (.ref l) (upd H l (.tup ys)))\/(SqT X.K H p ys/\Q (.ref p) H))):=by
 intro pins s σ H xs us Q I r h;obtain⟨p,ys,rfl,h⟩:=h;obtain⟨u,rfl,g⟩:=zgE r;cases g
 rcases h with⟨c,q⟩|⟨c,q⟩
 ·obtain⟨aa,a,pl,d⟩:=I.list c;have hlen:=a.length;refine call_tuple_list pl.isList (fun h' kp=>?_) (by simp only[yam]<;>omega);have f:Inv X pins σ H {s with heap:=h'}:=I.kept (t':=s.toks) kp
  have i:Inv X pins σ (upd H h'.objs.size (.tup ys)) {s with heap:=h'.push {cls:=.type "tuple",data:=.seq aa.toArray}}:=
   f.laid (t':=s.toks) (fun b o e=>yag _ e) (yai _) (show zbg X.prog X.w _ _ _ (.tup ys)from⟨d,aa,a,zop.new _ _⟩)
  exact⟨.ref h'.objs.size,_,i,rfl,q _ (f.hok.fresh (yai _))⟩
 ·obtain⟨aa,a,pl,d⟩:=I.tuple c;exact call_tuple_same pl ⟨.ref p,H,I,rfl,q⟩
noncomputable def tyV(K:PySem.W.Frag)(T:String)(x:V)(H:Hp):Prop:=match x with
 |.str _=>T="str"|.int _=>T="int"|.ref p=>(T="list" /\ ∃xs,SqL K H p xs)\/(T="tuple" /\ ∃o,K.lookup p=some o/\o.cls=.type "tuple" /\ o.dict=none) ∨
   (T="dict" /\ ((∃kvs,H p=some (.dK kvs))\/∃kvs,H p=some (.dT kvs)))\/(T="set" /\ ∃S n,H p=some (.set S n))
 |_=>False
def zos(I:Inv X pins σ H s)(r:zaZ x v)(ty:tyV X.K T x H):
  s.TypeIs v T/\∀a,v=.ref a->∃ob,s.heap.get? a=some ob/\ob.dict=none:=by
 cases x with
 |str z=>
  obtain⟨t,rfl⟩:=r;cases (show T="str"from ty);exact⟨yb8 s z t,fun _ e=>nomatch e⟩
 |int i=>
  obtain⟨t,rfl⟩:=r;cases (show T="int"from ty);exact⟨typeIs_int s i t,fun _ e=>nomatch e⟩
 |ref p=>
  cases r
  rcases ty with⟨rfl,xs,b⟩|⟨rfl,o,hk,d,hd⟩|⟨rfl,hk⟩|⟨rfl,S,n,hk⟩
  ·obtain⟨aa,_,pl,_⟩:=I.list b;refine⟨pl.isList.typeIs,fun a e=>?_⟩;cases e;obtain⟨o,n,e,c,hd,_⟩:=pl;exact⟨o,e,hd⟩
  ·refine⟨⟨o,I.kIn p o hk,d⟩,fun a e=>?_⟩;cases e;exact⟨o,I.kIn _ o hk,hd⟩
  ·have z:∃o,s.heap.get? p=some o/\o.ExactDict:=by
    rcases hk with⟨kvs,hk⟩|⟨kvs,hk⟩
    ·obtain⟨_,_,_,_,o,_,_,e,ex,_⟩:=I.hok p _ hk;exact⟨o,e,ex⟩
    ·obtain⟨_,_,_,_,o,_,_,e,ex,_⟩:=I.hok p _ hk;exact⟨o,e,ex⟩
   obtain⟨o,e,ex⟩:=z;refine⟨⟨o,e,ex.1⟩,fun a e2=>?_⟩;cases e2;exact⟨o,e,ex.2.1⟩
  ·obtain⟨o,_,_,_,e,ex,_⟩:=I.hok p _ hk;refine⟨⟨o,e,ex.1⟩,fun a e2=>?_⟩;cases e2;exact⟨o,e,ex.2.1⟩
 |_=>exact False.elim ty
noncomputable def zyA(K:PySem.W.Frag)(T:String)(r:V->List V->Hp->VK->Prop)(to:TE):TE:=fun σ H Q=>to σ H fun x H1=>tyV K T x H1/\r x [] H1 Q
noncomputable def tBM(K:PySem.W.Frag)(T:String)(r:V->List V->Hp->VK->Prop)(to:TE)(t:TA):TE:=fun σ H Q=>to σ H fun x H1=>tyV K T x H1/\t σ H1 fun xs H2=>r x xs H2 Q
variable{o e:Expr}{es:List Expr}{to:TE}{t:TA}{name:Str}{apos cpos:Pos}{T id:String}{r:V->List V->Hp->VK->Prop}
def zsJ(U:PlainAttrs T)(slot:Slot T name id)(J:typeOf (.builtin id)=pure (.type "method_descriptor"))(hm:MtR X id r)(ho:PE X o to)
  (ae:autoParam (attributeBase o name X.env (eval o X.env)=eval o X.env) yAW) (aj:autoParam ((apos.endLine==cpos.line)=true) yAW):PE X (.Call (.Attribute o name apos) [] [] cpos) (zyA X.K T r to):=by
 intro pins s σ H Q I h;refine wpAny_Call_method0_late ae aj (thn (ho pins s σ H _ I h) fun v s1 ⟨x,H1,b,a,ty,c⟩=>?_);obtain⟨h1,h2⟩:=zos b a ty;exact⟨T,id,U,slot,J,h1,h2,ybv rfl (PySem.evalArgs_none (hm pins s1 σ H1 x [] v [] Q b a .nil c))⟩
def zjW(U:PlainAttrs T)(slot:Slot T name id)(J:typeOf (.builtin id)=pure (.type "method_descriptor"))(hm:MtR X id r)(ho:PE X o to)(ha:PA X (e::es) t)
  (ae:autoParam (attributeBase o name X.env (eval o X.env)=eval o X.env) yAW)
  (hfew:autoParam (((backTo cpos (starEach (e::es) X.env)).all (fun x=>!x.1)&&(backToKw cpos (keywordEach [] X.env)).all (fun x=>x.1.isSome)
   && decide ((e::es).length+([]:List Keyword).length+(if([]:List Keyword).isEmpty then 0 else 1)<30))=true) yAW)
  (aj:autoParam ((apos.endLine==cpos.line)=true) yAW) (hs:autoParam (starEach (e::es) X.env=(false,eval e X.env)::starEach es X.env) yAW) (aq:autoParam ((backTo cpos (starEach es X.env)).any (·.1)=false) yAW):
  PE X (.Call (.Attribute o name apos) (e::es) [] cpos) (tBM X.K T r to t):=by
 intro pins s σ H Q I h;refine wpAny_Call_method_late ae hfew aj rfl (thn (ho pins s σ H _ I h) fun v s1 ⟨x,H1,c,a,ty,f⟩=>?_);obtain⟨h1,h2⟩:=zos c a ty;refine⟨T,id,U,slot,J,h1,h2,?_⟩;have b:=ha cpos pins s1 σ H1 _ c f;rw[hs]at b ⊢;refine ybv (by show(false||(backTo cpos (starEach es X.env)).any (·.1))=false;rw[aq]<;>rfl) (ybJ ?_);exact thn b fun us s2 ⟨vs,H2,g,r2,d⟩=>hm pins s2 σ H2 x vs v us Q g a r2 d
end
noncomputable def MtM(X:Cx)(id:String)(r:V->List V->Hp->VK->Prop):Prop:=
 ∀(pins:Z3) (s:Shared) (σ:St) (H:Hp) (x:V) (xs:List V) (v:Value) (us:List Value) (Q:VK),Inv X pins σ H s->zaZ x v->Vals xs us->r x xs H Q →
  wpAny (model X.prog X.w) X.A (call (.builtin id) (v::us)) (EP X pins σ Q) X.xe s
theorem Vals.one:∀{x:V}{us:List Value},Vals [x] us->∃u,us=[u]/\zaZ x u
 |_,_,.cons r .nil=>⟨_,rfl,r⟩
theorem Vals.zero:∀{us:List Value},Vals [] us->us=[]
 |_,.nil=>rfl
theorem Vals.dropLast{xs:List V}{us:List Value}(h:Vals xs us):Vals xs.dropLast us.dropLast:=by
 induction h with
 |nil=>exact .nil|cons r t a=>
  cases t with
  |nil=>exact .nil|cons q t'=>exact .cons r a
theorem Vals.reverse{xs:List V}{us:List Value}(h:Vals xs us):Vals xs.reverse us.reverse:=by
 induction h with
 |nil=>exact .nil|cons r t a=>rw[yb9,yb9];exact Vals.append a (.cons r .nil)
theorem Vals.rep(h:Vals xs us):∀k:Nat,Vals (List.replicate k xs).flatten (List.replicate k us).flatten
 |0=>.nil|k+1=>by
  rw[ybk,ybk,yaY,yaY];exact Vals.append h (Vals.rep h k)
def zj6{α:Type}(l:List α):l.eraseIdx (l.length-1)=l.dropLast:=by
 induction l with
 |nil=>rfl|cons a r c=>
  cases r with
  |nil=>rfl|cons b r=>
   have e:(a::b::r).length-1=((b::r).length-1)+1:=by
    have h1:(a::b::r).length=r.length+2:=rfl;have h2:(b::r).length=r.length+1:=rfl;omega
   rw[e,List.eraseIdx_cons_succ,c]
   all_goals rfl
theorem zhj(aa:List Value):∀(k:Nat) (acc:List Value),
  List.foldl (fun J I=>J++I) acc.toArray (List.replicate k aa.toArray)=(acc++(List.replicate k aa).flatten).toArray
 |0,acc=>by simp
 |k+1,acc=>by
  have e:acc.toArray++aa.toArray=(acc++aa).toArray:=by simp
  have e2:(acc++aa)++(List.replicate k aa).flatten=acc++(List.replicate (k+1) aa).flatten:=by
   rw[ybk,yaY,ybc]
  rw[<-e2,<-zhj aa k (acc++aa),<-e,ybk,List.foldl_cons]
section
variable{X:Cx}{pins:Z3}{σ:St}{H:Hp}{s:Shared}{l b:Addr}{xs ys zs:List V}
def Inv.lset{aa ay:List Value}{n:Nat}{f:Array Value->Array Value}{t':Nat}(I:Inv X pins σ H s)(U:H l=some (.lst xs))
  (e:s.heap.get? l=some {cls:=.type "list",data:=.seq aa.toArray n}) (hf:f aa.toArray=ay.toArray) (hv:Vals ys ay) (J:ys.length<=sizeLine):
  Inv X pins σ (upd H l (.lst ys)) {s with heap:=s.heap.update l (Obj.mapSeq f),toks:=t'}:=by
 have q:=PySem.IsL.update e f;rw[hf]at q;refine I.write (x:=l) (e:=l) (by rw[U];exact trivial) (.inl rfl) (fun b' u hb a=>(Heap.get?_update_other s.heap (Obj.mapSeq f) (Ne.symm hb)).trans a) ⟨_,q⟩ ?_;exact⟨J,ay,_,hv,q⟩
def Inv.lnew(I:Inv X pins σ H s)(hv:Vals ys aa)(J:ys.length<=sizeLine):
  Inv X pins σ (upd H s.heap.objs.size (.lst ys)) {s with heap:=s.heap.push {cls:=.type "list",data:=.seq aa.toArray},toks:=t'}:=
 I.laid (fun _ _ q=>yag _ q) (yai _) ⟨J,aa,0,hv,yaw _ rfl⟩
theorem Inv.fresh(I:Inv X pins σ H s):H s.heap.objs.size=none:=I.hok.fresh (yai _)
def Inv.lstM(I:Inv X pins σ H s)(J:H l=some (.lst xs)):xs.length<=sizeLine/\∃(aa:List Value) (n:Nat),Vals xs aa/\xs.length=aa.length/\s.heap.get? l=some {cls:=.type "list",data:=.seq aa.toArray n}:=by
 obtain⟨z,aa,n,r,e⟩:=I.hok l _ J;exact⟨z,aa,n,r,r.length,e⟩
theorem zi9(h:n<=sizeLine):Builtin.List.listTooLong n=false:=by
 unfold Builtin.List.listTooLong;exact yaz (by omega)
end
section
variable{X:Cx}
noncomputable def zp8:V->List V->Hp->VK->Prop:=fun x vs H Q=>∃l xs y,x=.ref l/\vs=[y]/\H l=some (.lst xs)/\xs.length<sizeLine/\Q .non (upd H l (.lst (xs++[y])))
theorem zeR:MtM X "list.append" zp8:=by
 intro pins s σ H x vs v us Q I b c h;obtain⟨l,xs,y,rfl,rfl,a,f,q⟩:=h;cases b;obtain⟨u,rfl,d⟩:=c.one;obtain⟨z,aa,n,r,g,e⟩:=I.lstM a;refine ybM F.slot_list_append ⟨_,e,rfl⟩ F.entry_list_append (F.args_list_append_2 _ _) (PySem.list_append l aa.toArray n u (by rw[yam];omega)) ⟨e,?_⟩;refine⟨.non,_,I.lset (ay:=aa++[u]) a e (by simp) (r.append (.cons d .nil)) ?_,rfl,q⟩;rw[yae,ycJ];omega
noncomputable def zp7:V->List V->Hp->VK->Prop:=fun x vs H Q=>∃l b xs zs,x=.ref l/\vs=[.ref b]/\H l=some (.lst xs)/\H b=some (.lst zs)/\xs.length+zs.length<=sizeLine/\Q .non (upd H l (.lst (xs++zs)))
theorem zly:MtM X "list.extend" zp7:=by
 intro pins s σ H x vs v us Q I f g h;obtain⟨l,b,xs,zs,rfl,rfl,d,m,p,q⟩:=h;cases f;obtain⟨u,rfl,i⟩:=g.one;cases i;obtain⟨z,aa,n,r,t,e⟩:=I.lstM d;obtain⟨o,a,j,r2,k,e2⟩:=I.lstM m
 have hsz:aa.toArray.size+a.toArray.size<=sizeLine:=by rw[yam,yam];omega
 have c:¬ (!aa.toArray.isEmpty&&Builtin.List.listTooLong (aa.toArray.size+a.toArray.size))=true:=by
  rw[zi9 hsz,Bool.and_false];exact yaZ
 refine ybM F.slot_list_extend ⟨_,e,rfl⟩ F.entry_list_extend (F.args_list_extend_2 _ _)
  (AutoSeq1.list_extend_list_list_0 l aa.toArray n b a.toArray j c (by rw[yam];omega) (by omega)) ⟨e,e2,?_⟩
 refine⟨.non,_,I.lset (ay:=aa++a) d e (by simp) (r.append r2) ?_,rfl,q⟩;rw[yae];omega
noncomputable def zyK:V->List V->Hp->VK->Prop:=fun x vs H Q=>∃l xs y,x=.ref l/\vs=[]/\H l=some (.lst xs)/\xs[xs.length-1]?=some y/\Q y (upd H l (.lst xs.dropLast))
theorem ztg:MtM X "list.pop" zyK:=by
 intro pins s σ H x vs v us Q I d f h;obtain⟨l,xs,y,rfl,rfl,c,i,q⟩:=h;cases d;have b:=f.zero;subst b;obtain⟨z,aa,n,r,k,e⟩:=I.lstM c;obtain⟨u,j,g⟩:=r.get i
 have a:aa.toArray[aa.toArray.size-1]?=some u:=by
  show aa.toArray[aa.length-1]?=some u;rw[<-ybC,<-k];exact j
 refine ybM F.slot_list_pop ⟨_,e,rfl⟩ F.entry_list_pop (F.args_list_pop_1 _) (MeetsSeq.list_pop_last l aa.toArray n u a (by rw[yam];omega)) ⟨e,?_⟩;refine⟨y,_,I.lset (ay:=aa.dropLast) c e ?_ r.dropLast ?_,g,q⟩
 ·show aa.toArray.eraseIdxIfInBounds (aa.toArray.size-1)=aa.dropLast.toArray;rw[yam,List.eraseIdxIfInBounds_toArray,zj6]
 ·rw[List.length_dropLast];omega
noncomputable def zyO:R2:=fun x y H Q=>∃l b xs zs,x=.ref l/\y=.ref b/\H l=some (.lst xs)/\H b=some (.lst zs)/\xs.length+zs.length<=sizeLine/\∀p,H p=none->Q (.ref p) (upd H p (.lst (xs++zs)))
theorem zsW:OpR X (binaryOp .Add) zyO:=by
 intro pins s σ H x y v u Q I d c h;obtain⟨l,b,xs,zs,rfl,rfl,g,i,o,q⟩:=h;cases d;cases c;obtain⟨z,aa,n,r,p,e⟩:=I.lstM g;obtain⟨k,a,m,r2,f,e2⟩:=I.lstM i;refine PySem.P.add_list e e2 ?_ (by rw[yam,yam];omega)
 have j:aa.toArray++a.toArray=(aa++a).toArray:=by simp
 rw[j];exact⟨.ref _,_,I.lnew (t':=s.toks) (r.append r2) (by rw[yae];omega),rfl,q _ I.fresh⟩
noncomputable def zyJ:R2:=fun x y H Q=>∃l k xs,x=.ref l/\y=.int k/\H l=some (.lst xs)/\-(2 ^ 63)<=k/\k<2 ^ 63/\xs.length*k.toNat<=sizeLine ∧
 ∀p,H p=none->Q (.ref p) (upd H p (.lst (List.replicate k.toNat xs).flatten))
def zqJ{α:Type}(xs:List α)(k:Nat):(List.replicate k xs).flatten.length=k*xs.length:=by
 induction k with
 |zero=>simp|succ k a=>rw[ybk,yaY,yae,a,Nat.succ_mul,Nat.add_comm]
theorem zsR:OpR X (binaryOp .Mult) zyJ:=by
 intro pins s σ H x y v u Q I p o h;obtain⟨l,k,xs,rfl,rfl,A,h1,h2,j,q⟩:=h;cases p;obtain⟨t,rfl⟩:=o;obtain⟨z,aa,n,r,w,e⟩:=I.lstM A
 have hlen:aa.toArray.size*k.toNat<=sizeLine:=by rw[yam,<-w];exact j
 have f:¬ aa.toArray.size*k.toNat > (2 ^ 63-1) / 8:=by
  have:(sizeLine:Nat)<=(2 ^ 63-1) / 8:=by decide
  omega
 have d:¬ (!Builtin.List.listFitsIndex k)=true:=by
  rw[fitsIndex_both h1 h2];exact yaZ
 have b:¬ Builtin.List.listTooLong (aa.toArray.size*k.toNat)=true:=by
  rw[zi9 hlen];exact yaZ
 have c:List.foldl (fun i g=>i++g) #[] (List.replicate (if aa.toArray.isEmpty=true then 0 else k.toNat) aa.toArray)=(List.replicate k.toNat aa).flatten.toArray:=by
  have B:∀m:Nat,List.foldl (fun i g=>i++g) #[] (List.replicate m aa.toArray)=(List.replicate m aa).flatten.toArray:=fun m=>by
   have:=zhj aa m [];rwa[List.nil_append]at this
  rw[B]
  cases aa with
  |nil=>simp|cons a C=>rw[if_neg (by simp)]
 refine wpAny_binaryOp_repeat_ref (T:="list") (U:="int") (by decide) ⟨_,e,rfl⟩ (fun s'=>typeIs_int s' k t) noFill_list_mul F.fills_int_mul F.slot_int_rmul repeat_list F.slot_int_index.lookup
  (ybM F.slot_int_rmul (typeIs_int s k t) F.entry_int_rmul (F.args_int_rmul_2 _ _) (int___rmul___int_list k t l aa.toArray n)
   ⟨e,rfl,⟨_,e,rfl⟩,ybM F.slot_list_mul ⟨_,e,rfl⟩ F.entry_list_mul (F.args_list_mul_2 _ _) (AutoListH.list___mul___list_int_3 l aa.toArray n k t d f b) ⟨e,?_⟩⟩)
 rw[c];exact⟨.ref _,_,I.lnew (t':=s.toks) (r.rep k.toNat) (by rw[zqJ,Nat.mul_comm];exact j),rfl,q _ I.fresh⟩
end
end L2
namespace Att
open PySem PySem.W PySem.Calls PyProof.Rows
def ze4:∀(ns:List Int) (vs:List Value),WellAll P h vs (ns.map WData.int)->IntsAre vs ns:=by
 intro ns
 induction ns with
 |nil=>
  intro vs w;rw[List.map_nil]at w;cases w;exact .nil
 |cons n ns c=>
  intro vs w;rw[yar]at w
  cases w with
  |cons a b=>
   cases a;exact .cons _ _ (c _ b)
theorem zkX{l:OpenLaw}(U:l.most=some n){P:Params}{h:Heap}
  (I:l.row.toRowW.claim.pre args=true) (J:WellAll P h vals args):
  ∃a vs ns,vals=[Value.ref a]/\args=[WData.list (ns.map WData.int)]/\h.get? a=some {cls:=.type "list",data:=.seq vs.toArray}/\IntsAre vs ns/\ns.length<=n:=by
 have e:WShape.hasAll [] args [.list .int]=true:=(pre_splitW I).1;have g:l.pre.holds [] {args:=args}=true:=(pre_splitW I).2;obtain⟨d,r,rfl,h1,h2⟩:=hasAllW_cons e;obtain rfl:=hasAllW_nil h2;obtain⟨xs,rfl,o⟩:=hasW_list h1;obtain⟨ns,rfl⟩:=items_int o
 have hlen:ns.length<=n:=by
  unfold OpenLaw.pre at g
  have f:(WTm.not (.lt (.lit (.int (n:Int))) (.len (.arg 0)))).holds [] {args:=[.list (ns.map .int)]}=true:=by
   have f:=(holds_andW g).1;rwa[U]at f
  have c:=condW_of f (w_not (w_lt w_lit (w_len_list (w_arg rfl))));rw[yab]at c;refine Nat.le_of_not_lt fun q=>?_
  have k:(n:Int)<((ns.length:Nat):Int):=by omega
  first
   |(rw[yap k]at c;exact absurd c (by decide))
   |(simp at c;omega)
 cases J with
 |cons j i=>
  cases i
  cases j with
  |list m b=>exact⟨_,_,ns,rfl,rfl,m,ze4 ns _ b,hlen⟩
def zlj(l:OpenLaw)(args:List WData):l.row.toRowW.claim.post args (.bool true) args=true:=
 postW_of (r:=l.row.toRowW) (X:=(true==true))
  (show WShape.has [] (.bool true) .bool=true by first|rfl|decide|simp[WShape.has,WShape.arms,WShape.armsAll])
  (show(WTm.eq .res (.lit (.bool true))).value [] {args:=args,res:=some (.bool true),after:=args}=some (.bool (true==true))from w_eq_bool (w_res rfl) w_lit) rfl
def zis{l:OpenLaw}{n:Nat}{q:Program}{loose:List Str}{XP:(Str->Option Value)->Heap->Prop}{YP:World->Heap->Prop}{d:DefRec}
  (hn:l.most=some n) (U:d.params.defaults=[])
  (call:∀(w:World) (s₀ I:Shared) (mg J:Z6) (fa:Addr) (o:Obj) (pm cd doc:Value) (a:Addr) (vs:List Value) (ns:List Int),
   Ground q loose [] XP w s₀ mg J I.heap->YP w I.heap →
   I.heap.get? fa=some o->o.data=.func (docDef d.name d.params d.body d.scope pm cd doc)->I.heap.CodeRec cd d.name->mg d.name=some (.ref fa) →
   I.heap.get? a=some {cls:=.type "list",data:=.seq vs.toArray}->IntsAre vs ns->ns.length<=n->I.gens=#[] →
   codeAny (model l.prog w) callerA (.call (.ref fa) ⟨[.ref a],[]⟩) (fun r s'=>r=.ok (.ret (.bool true))/\OldK I.heap s'.heap/\s'.os=I.os/\AllBare s'.gens) I):
  WalkO q loose XP YP l.row.toRowW d [] (fun f vs=>PySem.call f vs):=by
 intro w s₀ I mg J G Y fa o pm cd doc v kV m hd hcd i g s args vals as b h j e p;obtain rfl:v=.none:=Dflts.none i U;obtain rfl:kV=.none:=Dflts.noKw i;obtain⟨a,vs,ns,rfl,rfl,c,hints,hlen⟩:=zkX hn b e;refine enter_call (ybQ (call w s₀ I mg J fa o pm cd doc a vs ns G Y m (fd_plain hd) hcd g c hints hlen s) fun r s' k=>?_);obtain⟨rfl,h2,u,t⟩:=k;exact⟨.inl ⟨.bool true,.bool true,[],rfl,fun _=>rfl,.bool true,zlj l _,fun _=>⟨List.Pairwise.nil,fun _ hm=>(nomatch hm)⟩⟩,h2,u,t⟩
end Att
namespace L2
open PySem PySem.Spec PyProof.Rows
theorem zgD:∀{vs:List Value}{ns:List Int},IntsAre vs ns->Vals (ns.map V.int) vs
 |_,_,.nil=>.nil|_,_,.cons n t h=>.cons ⟨t,rfl⟩ (zgD h)
noncomputable def za8(s:Stmt):Arguments:=match s with
 |.FunctionDef _ a _ _ _ _ _ _ _ _=>a|_=>{posonlyargs:=[],args:=[],vararg:=none,kwonlyargs:=[],kw_defaults:=[],kwarg:=none,defaults:=[]}
noncomputable def zaQ(s:Stmt):List Stmt:=match s with
 |.FunctionDef _ _ b _ _ _ _ _ _ _=>b|_=>[]
noncomputable def zah(s:Stmt):Scope:=match s with
 |.FunctionDef _ _ _ _ _ _ sc _ _ _=>sc|_=>{kind:=.function,names:=[],isGenerator:=false,isCoroutine:=false}
structure Fun(K:PySem.W.Frag)(x qual:Str)(st:Stmt)(f:Addr)(fd:FuncData):Prop where
 ex:∃(oc:Value) (od:Option Addr) (kV doc pm:Value) (an:Option Addr) (cdv ct:Value) (osl:Array (Option Value)),
  fd=PySem.W.fnOf x qual (za8 st) (zaQ st) (zah st) .none kV doc pm an cdv ct/\K.lookup f=some ⟨oc,od,.func fd,osl⟩/\PySem.W.codeIn K cdv qual=true
 kp:PySem.W.keepIn K (.ref f)=true
section
variable{P:Program}{w:World}{K:PySem.W.Frag}{mg:Z6}{base:Heap}
def Fun.binds{x qual:Str}{st:Stmt}{f:Addr}{fd:FuncData}{ps:List Str}(F:Fun K x qual st f fd)
  (h:∀(kV doc pm:Value) (an:Option Addr) (I ct:Value) (us:List Value),us.length=ps.length->bindArgs (PySem.W.fnOf x qual (za8 st) (zaQ st) (zah st) .none kV doc pm an I ct) ⟨us,[]⟩=pure (ps.zip us)):zcR K fd ps []:=by
 obtain⟨oc,b,kV,doc,pm,an,I,ct,a,rfl,c,hcd⟩:=F.ex;exact .all (h kV doc pm an I ct)
def zjo{x qual:Str}{st:Stmt}{f:Addr}{oc:Value}{U an:Option Addr}{J:Array (Option Value)}{kV doc pm I ct:Value}(l:K.lookup f=some ⟨oc,U,.func (PySem.W.fnOf x qual (za8 st) (zaQ st) (zah st) .none kV doc pm an I ct),J⟩)
  (c:PySem.W.codeIn K I qual=true) (k:PySem.W.keepIn K (.ref f)=true):Fun K x qual st f (PySem.W.fnOf x qual (za8 st) (zaQ st) (zah st) .none kV doc pm an I ct):=⟨⟨oc,U,kV,doc,pm,an,I,ct,J,rfl,l,c⟩,k⟩
end
def zo1{A B:Prop}(h:B):if false=true then A else B:=by
 rw[if_neg yaZ];exact h
def zo0{A B:Prop}(h:A):if true=true then A else B:=by
 rw[if_pos rfl];exact h
noncomputable def Its(x:Str):It:=⟨fun i _=>i<x.cps.size,fun i H v H'=>H'=H/\∃c,x.cps[i]?=some c/\v=.str ⟨#[c]⟩,fun i _=>i=x.cps.size⟩
def ziG{P:Program}{w:World}{K:PySem.W.Frag}{tg:Expr}(it:Addr)(x:Str)(t:Tok)(ty:String)(J:["enumerate","zip","dict_itemiterator","dict_reverseitemiterator","odict_iterator","itertools.zip_longest","itertools.pairwise"].contains ty=false)
  (W:∀A:Around,A.handled=none->Walks P w A it [it] [it] x.cps.size (SignAt x) (fun i h=>h.IsStrIter it ty x t i))
  (U:∀(A:Around) (i:Nat) (s:Shared) (Q:Z5) (E:Z5),s.heap.IsStrIter it ty x t i->Q (.ref it) s->wpAny (model P w) A (pyIter (.ref it)) Q E s):Turn P w K tg (Its x) [it] it (fun i h=>h.IsStrIter it ty x t i)where
 mem:=by simp
 obj:=fun i h st b hb=>by
  have e:b=it:=by simpa using hb
  subst e;obtain⟨o,e,c,d⟩:=st;exact⟨o,e,fun v z=>by rw[d]at z;cases z⟩
 keep:=fun i h h' st k=>by
  obtain⟨o,e,r⟩:=st;exact⟨o,k it (by simp) o e,r⟩
 item:=by
  intro X l f m j i pins s σ H E I hf st g;subst l f m;obtain⟨y,f1,f2,q,p,n⟩:=hf it (by simp);refine(W X.A (I.ok.hd j)).item i s _ _ g st fun v h' tk hv a kk=>?_
  obtain⟨c,u,B,rfl⟩:=hv;have C:Inv X pins σ H {s with heap:=h',toks:=tk}:=I.turned (fun b o hb e=>kk b o (by simpa using hb) e) y f1 q p n;obtain⟨o,e,c',d⟩:=id a;exact⟨_,rfl,znV (s:={s with heap:=h',toks:=tk}) e c' d J ⟨.str ⟨#[c]⟩,H,C,⟨u,rfl⟩,⟨rfl,c,B,rfl⟩,a,fun b hb=>(hf b hb).1⟩⟩
 done:=by
  intro X l f m j i pins s σ H E I hf st g;subst l f m;obtain⟨y,f1,f2,q,p,n⟩:=hf it (by simp);have hi:i=x.cps.size:=g;subst hi;exact(W X.A (I.ok.hd j)).done s _ _ st fun h' tk kk=>⟨rfl,I.turned (fun b o hb e=>kk b o (by simpa using hb) e) y f1 q p n⟩
 self:=fun A i s Q E st h=>U A i s Q E st h
noncomputable def zzA(tl:TE):TI:=fun σ H R=>tl σ H fun v H1=>∃x,v=.str x/\R (Its x) H1
def zsC{X:Cx}{tg l:Expr}{tl:TE}(J:PE X l tl):PI X tg l (zzA tl):=by
 intro pins s σ H R I h;refine thn (J pins s σ H _ I h) fun v s1 ⟨x,H1,a,f,g⟩=>?_
 obtain⟨z,e,q⟩:=g;subst e;obtain⟨t,rfl⟩:=f
 have fp:∀b∈[s1.heap.objs.size],zmE X pins H1 b:=fun b hb=>by
  have e:b=s1.heap.objs.size:=by simpa using hb
  subst e;exact a.fpOk (yai _) (a.hok.fresh (yai _))
 cases d:z.cps.all (·<128)
 ·exact wpAny_pyIter_wide d ⟨s1.heap.objs.size,[s1.heap.objs.size],_,_,H1,rfl,a.kept (t':=s1.toks) fun b o e=>yag _ e,ziG _ z t "str_iterator" (by decide) (fun A c=>Walks.strWide c _ z t) (fun A i s Q E st h=>wpAny_pyIter_striter_wide st h),⟨_,yaw _ rfl,rfl,rfl⟩,fp,q⟩
 ·exact wpAny_pyIter_ascii d ⟨s1.heap.objs.size,[s1.heap.objs.size],_,_,H1,rfl,a.kept (t':=s1.toks) fun b o e=>yag _ e,ziG _ z t "str_ascii_iterator" (by decide) (fun A c=>Walks.strAscii c _ z t) (fun A i s Q E st h=>wpAny_pyIter_striter_ascii st h),⟨_,yaw _ rfl,rfl,rfl⟩,fp,q⟩
def zsU{X:Cx}:OpR X (compareOp .LtE) (fun x y H Q=>∃a b,x=.str a/\y=.str b/\Q (.bl (!decide (b.cps.toList<a.cps.toList))) H):=by
 intro pins s σ H x y v u Q I d c h;obtain⟨a,b,rfl,rfl,q⟩:=h;obtain⟨t,rfl⟩:=d;obtain⟨t',rfl⟩:=c;exact PySem.P.le_str ⟨.bl (!decide (b.cps.toList<a.cps.toList)),H,I,rfl,q⟩
def zfM(h:∀y∈scope.names,y.2=.free->∃c,env.cells.lookup y.1=some c):
  ∃cl,closureFor scope env=pure cl/\(∀y c,cl.lookup y=some c->env.cells.lookup y=some c)/\∀y,(y,NameKind.free)∈scope.names->∃c,cl.lookup y=some c:=by
 unfold closureFor
 have key:∀(l:List (Str×NameKind)) (cs:List (Str×Addr)),(∀y∈l,y.2=.free->∃c,env.cells.lookup y.1=some c)->(∀y c,cs.lookup y=some c->env.cells.lookup y=some c) →
   ∃cl,(forIn l cs fun(x:Str×NameKind) (r:List (Str×Addr))=>(if(x.2==NameKind.free)=true then(do let c ← cellOf env x.1;pure (ForInStep.yield ((x.1,c)::r)))else pure (ForInStep.yield r):Sem (ForInStep (List (Str×Addr)))))=pure cl ∧
    (∀y c,cl.lookup y=some c->env.cells.lookup y=some c)/\(∀y,(y,NameKind.free)∈l->∃c,cl.lookup y=some c)/\(∀y c,cs.lookup y=some c->∃c',cl.lookup y=some c'):=by
  intro l
  induction l with
  |nil=>intro cs _ j;exact⟨cs,rfl,j,fun y a=>by simp at a,fun y c e=>⟨c,e⟩⟩
  |cons p l q=>
   intro cs o j;obtain⟨n,k⟩:=p
   by_cases hk:(k==NameKind.free)=true
   ·have t:k=.free:=eq_of_beq hk;obtain⟨c,s⟩:=o (n,k) yao t
    obtain⟨cl,f,e2,i,g⟩:=q ((n,c)::cs) (fun y a=>o y (yaj _ a)) (fun y c' e=>by
     rw[yaD]at e
     cases d:y==n with
     |true=>rw[d]at e;cases e;rw[eq_of_beq d];exact s|false=>rw[d]at e;exact j y c' e)
    refine⟨cl,?_,e2,fun y a=>?_,fun y c' e=>?_⟩
    ·rw[yb3];show((if(k==NameKind.free)=true then _ else _) >>= _)=_;rw[if_pos hk]
     have b:cellOf env n=pure c:=by unfold cellOf;rw[s]
     show(cellOf env n >>= _) >>= _=_;rw[b];simpa using f
    ·rcases yaq.mp a with z|a
     ·cases z;exact g n c (by rw[yaD];simp)
     ·exact i y a
    ·cases d:y==n with
     |true=>exact g y c (by rw[yaD,d])
     |false=>exact g y c' (by rw[yaD,d];exact e)
   ·obtain⟨cl,f,e2,i,g⟩:=q cs (fun y a=>o y (yaj _ a)) j;refine⟨cl,?_,e2,fun y a=>?_,g⟩
    ·rw[yb3];show((if(k==NameKind.free)=true then _ else _) >>= _)=_;rw[if_neg hk];simpa using f
    ·rcases yaq.mp a with z|a
     ·cases z;exact absurd rfl hk
     ·exact i y a
 obtain⟨cl,f,e2,i,_⟩:=key scope.names [] h (fun y c e=>by simp at e);refine⟨cl,?_,e2,i⟩;show((forIn scope.names [] _:Sem (List (Str×Addr))) >>= _)=_;have u:=congrArg (fun m=>m >>= (pure:List (Str×Addr)->Sem (List (Str×Addr)))) f;simpa using f
noncomputable def PIf(X:Cx)(ifs:List Expr)(t:TT):Prop:=
 ∀(pins:Z3) (s:Shared) (σ:St) (H:Hp) (Q:Bool->Hp->Prop),Inv X pins σ H s->t σ H Q →
  wpAny (model X.prog X.w) X.A (forIn ifs true fun c r=>if r=true then do let ok ← isTrue c X.env (eval c X.env);pure (ForInStep.yield ok)else pure (ForInStep.yield r)) (TP X pins σ Q) X.xe s
noncomputable def zys:TT:=fun _ H Q=>Q true H
def zqp:PIf X [] zys:=fun _ _ _ H _ I h=>wpAny_tests_nil ⟨H,I,h⟩
def zqo(h:PT X c t):PIf X [c] t:=fun pins s σ H Q I a=>wpAny_tests_one (h pins s σ H Q I a)
theorem zel{scope:Scope}{env:Env}:∀{names:List (Str×NameKind)}{y:Str},(y,NameKind.free)∈names->(∀z∈names,z.1=y->z.2=.free) →
  (names.map fun(n,k)=>if(k==NameKind.free&&env.scope.kind==.function&&env.kindOf n==some .cell)then(n,NameKind.cell)else(n,k)).lookup y=some .cell ∨
  (names.map fun(n,k)=>if(k==NameKind.free&&env.scope.kind==.function&&env.kindOf n==some .cell)then(n,NameKind.cell)else(n,k)).lookup y=some .free
 |[],_,h,_=>by simp at h
 |(n,k)::r,y,h,u=>by
  rw[yar];show List.lookup y ((if(k==NameKind.free&&env.scope.kind==.function&&env.kindOf n==some .cell)=true then(n,NameKind.cell)else(n,k))::_)=_\/List.lookup y ((if(k==NameKind.free&&env.scope.kind==.function&&env.kindOf n==some .cell)=true then(n,NameKind.cell)else(n,k))::_)=_
  cases a:y==n with
  |true=>
   have e:n=y:=(eq_of_beq a).symm;have g:k=.free:=u (n,k) yao e
   by_cases b:(k==NameKind.free&&env.scope.kind==.function&&env.kindOf n==some .cell)=true
   ·rw[if_pos b];left;simp[yaD,a]
   ·rw[if_neg b];right;simp[yaD,a,g]
  |false=>
   have f:(y,NameKind.free)∈r:=by
    rcases yaq.mp h with z|z
    ·cases z;simp at a
    ·exact z
   have c:=zel (scope:=scope) (env:=env) f fun z d=>u z (yaj _ d)
   by_cases b:(k==NameKind.free&&env.scope.kind==.function&&env.kindOf n==some .cell)=true
   ·rw[if_pos b];simpa[yaD,a]using c
   ·rw[if_neg b];simpa[yaD,a]using c
def Inv.track(I:Inv X pins σ H s)(J:H D=none)(h1:X.s₀.heap.objs.size<=D)(h2:D≠X.env.locals)(h3:∀x c,X.env.cells.lookup x=some c->c≠D)(U:∀p∈X.pn++pins,p.1≠D)
  (new:zbg X.prog X.w (upd H D o) s.heap D o):Inv X pins σ (upd H D o) s:=by
 have a:∀b u,H b=some u->b≠D:=fun b u e=>zat e J
 obtain⟨h',g',d',t',o'⟩:=s;refine I.step (h':=h') (g':=g') (d':=d') (t':=t') (ch:=[D]) (fun b hb=>?_) (fun b o _ _ _ e _=>e) (fun b o _ _ _ e _=>⟨o.slots,e⟩) (fun b o d e n=>?_) (fun b o _ e=>⟨o,e⟩) (fun b xs e=>?_) (fun b o u e=>?_) (fun b ps e=>?_) (fun m hm=>hm) (fun b u e=>?_) I.bare
 ·have e:b=D:=by simpa using hb
  subst e;exact⟨.inr h1,h2,h3,U⟩
 ·rw[zab (fun z=>d (by simp[z]))];exact n
 ·rw[zab (a _ _ e)];exact e
 ·rw[zab (a _ _ e)];exact e
 ·exact⟨#[],by rw[zab (a _ _ e),e];simp⟩
 ·by_cases hb:b=D
  ·subst hb;rw[zao]at e;cases e;exact new
  ·rw[zab hb]at e
   exact(I.hok b u e).stay (fun _ _ _ q=>q) (fun c q=>by rw[zab (a _ _ q)];exact q) fun c xs q=>by rw[zab (a _ _ q)];exact q
section
variable{X:Cx}{elt iter:Expr}{x:Str}{px pos:Pos}{ifs:List Expr}{scope:Scope}{caps:List (Str×Nat)}{wi:TI}{tt:TT}{te:TE}
noncomputable abbrev lob(aa:List Value)(k:Nat):Obj:={cls:=.type "list",data:=.seq aa.toArray k}
end
section
variable{prog:Program}{w:World}{A:Around}{R:Result->Shared->Prop}{s:Shared}
theorem znH(I:Nat->Shared->Prop)
  (a6:∀n s,I n s->wpAny (model prog w) A (pyNext it) (fun r U=>match r with
   |none=>R (.ok .next) U|some v=>wpAny (model prog w) A (letOwnedTupleGo target it v) (fun _ s₀=>wpAny (model prog w) A (assign target env v) (fun _ a5=>
     wpAny (model prog w) A (forIn ifs true fun c r=>if r=true then do let ok ← isTrue c env (eval c env);pure (ForInStep.yield ok)else pure (ForInStep.yield r)) (fun ok J=>
      if ok=true then wpAny (model prog w) A (eval elt env) (fun x a4=>
       wpAny (model prog w) A (call (.builtin "list.append") [acc,x]) (fun _ a3=>∃m,m<n/\I m a3) (notedBy (model prog w) A env fun e s'=>R (.error e) s') a4) (notedBy (model prog w) A env fun e s'=>R (.error e) s') J
      else ∃m,m<n/\I m J) (notedBy (model prog w) A env fun e s'=>R (.error e) s') a5) (notedBy (model prog w) A env fun e s'=>R (.error e) s') s₀) (notedBy (model prog w) A env fun e s'=>R (.error e) s') U) (notedBy (model prog w) A env fun e s'=>R (.error e) s') s)
  (n:Nat) (h:I n s):codeAny (model prog w) A (.compLoop (.ListComp elt [⟨target,iter,ifs,0⟩] scope pos) 0 it acc env) R s:=by
 refine codeAny_loop rfl I (fun n s i=>?_) n h;show wpAny _ A ((compTurn (.ListComp elt [⟨target,iter,ifs,0⟩] scope pos) 0 it acc env).onRaise (fun x=>do noteFrame x env;theTreesLotGoes x)) _ _ s;refine wpAny_noted ?_;rw[compTurn_list];refine yac (ydf (yac (ya0 (a6 n s i) (fun r U b=>?_) fun _ _ h'=>h')))
 cases r with
 |none=>exact yak b|some v=>
  refine yac (ya0 b (fun _ s₀ h₀=>?_) fun _ _ h'=>h');refine yac (ya0 h₀ (fun _ a5 g=>yac (ya0 g (fun ok J a=>?_) fun _ _ h'=>h')) fun _ _ h'=>h')
  cases ok with
  |false=>exact yak ⟨rfl,a⟩|true=>
   exact yac (yac (ya0 a (fun x a4 f=>yac (ya0 f (fun _ a3 d=>yak (yak ⟨rfl,d⟩)) fun _ _ h'=>h')) fun _ _ h'=>h'))
end
theorem zbc:∀(names:List (Str×NameKind)) (n:Nat) (acc:List (Str×Addr)),cellsFrom n names acc=cellsFrom n names []++acc
 |[],_,_=>rfl|(x,k)::r,n,acc=>by
  unfold cellsFrom;split
  ·rw[zbc r (n+1) ((x,n)::acc),zbc r (n+1) [(x,n)]];simp
  ·exact zbc r n acc
theorem zcN:∀(names:List (Str×NameKind)) (n:Nat) {x:Str}{c:Addr},(x,c)∈cellsFrom n names []->(x,NameKind.cell)∈names
 |[],_,_,_,h=>by cases h
 |(y,k)::r,n,x,c,h=>by
  unfold cellsFrom at h;split at h
  ·rename_i hk;rw[zbc]at h
   rcases yay.mp h with h|h
   ·exact yaj _ (zcN r _ h)
   ·rw[yaE]at h;cases h;rw[ybT.mp hk];exact yao
  ·exact yaj _ (zcN r _ h)
theorem zb5{α:Type}:∀{l m:List (Str×α)},(l++m).lookup x=(l.lookup x).or (m.lookup x)
 |[],m=>rfl|(y,a)::l,m=>by
  rw[List.cons_append,yaD,yaD]
  cases x==y with
  |true=>rfl|false=>exact zb5
theorem zb0:∀(names:List (Str×NameKind)) (n:Nat) {x:Str},(x,NameKind.cell)∈names->∃c,(cellsFrom n names []).lookup x=some c
 |[],_,_,h=>by cases h
 |(y,k)::r,n,x,h=>by
  unfold cellsFrom;split
  ·rename_i hk;rw[zbc,zb5]
   rcases yaq.mp h with e|h
   ·cases e
    cases a:(cellsFrom (n+1) r []).lookup y with
    |some c=>exact⟨c,rfl⟩|none=>exact⟨n,by simp[yaD]⟩
   ·obtain⟨c,e⟩:=zb0 r (n+1) h;rw[e];exact⟨c,rfl⟩
  ·rename_i hk
   rcases yaq.mp h with e|h
   ·cases e;exact absurd rfl hk
   ·exact zb0 r n h
def zcq{M:Model}{A:Around}{E:Z5}{s:Shared}{scope:Scope}{globals:Addr}{closure:List (Str×Addr)}{qual:Str}{func:Option Addr}{code:Value}{outer:Env}{builtins:Addr}{Q:Env->Shared->Prop}
  (I:∀h',h'.Ns s.heap.objs.size (fun _=>none)->(∀b o,s.heap.get? b=some o->h'.get? b=some o)->CellsOk h' (s.heap.objs.size+1) (cellsFrom (s.heap.objs.size+1) scope.names []) →
   Q (newEnv scope s.heap.objs.size globals (cellsFrom (s.heap.objs.size+1) scope.names []++closure) qual func code (some outer) builtins) {s with heap:=h'}):
  wpAny M A (newFunctionEnv scope globals closure [] qual func code (some outer) builtins) Q E s:=by
 simp only[newFunctionEnv,yc3,yci];refine yac (wpAny_alloc ?_);refine yac (wpAny_layCells _ (fun name kind cells=>by cases a:kind==NameKind.cell<;>simp[a]) _ _ _ _ ?_);have ok:=cellsFrom_ok scope.names (s.heap.push {cls:=.type "dict",data:=.dict #[]}) (s.heap.objs.size+1) [] ⟨fun _ _ hm=>(nomatch hm),List.Pairwise.nil⟩ (by rw[ya6];exact yai _);rw[ya6]at ok;rw[show({s with heap:=s.heap.push {cls:=.type "dict",data:=.dict #[]}}:Shared).heap.objs.size=s.heap.objs.size+1 from ya6 ..];rw[zbc];simp only[List.forIn_nil];refine yac (yak (yak ?_));exact I _ ((Heap.Ns.new s.heap (.type "dict")).keeps (pushCells_keeps _ _)) (fun b o e=>pushCells_keeps _ _ b o (yag _ e)) ok
structure CompScopeG(sc scope:Scope)(N:List Str)(xs:List Str)(caps:List (Str×Nat)):Prop where
 nd:(scope.names.map (·.1)).Nodup
 kind:scope.kind=.function
 names:∀y∈scope.names,y.2=.local->scope.names.lookup y.1=some .local
 free:∀y∈scope.names,y.2=.free->sc.names.lookup y.1=some .cell\/sc.names.lookup y.1=some .free
 cap:∀p∈caps,N[p.2]?=some p.1/\(p.1,NameKind.free)∈scope.names/\sc.names.lookup p.1≠some .local
 uniq:∀p∈caps,∀z∈scope.names,z.1=p.1->z.2=.free
noncomputable def zbe(X:Cx)(xs:List Str)(caps:List (Str×Nat))(scope:Scope)(cl:List (Str×Addr))(C:Addr)(s:Shared)(H:Hp)(ex:List Addr):Cx:=
 {X with N:=xs++caps.map (·.1),s₀:=s,H₀:=H,env:=compEnvC scope cl C X.env,outer:=X.stack,ex:=ex,fn:=fun x=>decide (scope.names.lookup x=some .cell),pn:=[],xe:=fun _ _=>False}
noncomputable abbrev capσ(σ:St)(n:Nat)(caps:List (Str×Nat)):St:=List.replicate n none++caps.map fun p=>(σ[p.2]?).join
noncomputable def ziS(wi:TI)(g:TG)(tt:TT)(te:TE)(n:Nat)(caps:List (Str×Nat)):TE:=fun σ H Q=>wi σ H fun J H1=>∃W:Nat->Nat->List V->St->Hp->Prop,(∃m,W 0 m [] (capσ σ n caps) H1)/\∀i m ys b H,W i m ys b H →
 ys.length<=sizeLine/\((J.stop i H/\∀p,H p=none->Q (.ref p) (upd H p (.lst ys))) ∨
 (J.go i H/\∀x H',J.yld i H x H'->g x b H' fun a H2=>tt a H2 fun ok d=>if ok=true then te a d fun y e=>∃c,c<m/\W (i+1) c (ys++[y]) a e else ∃c,c<m/\W (i+1) c ys a d))
section
variable{X:Cx}{elt iter tg:Expr}{xs:List Str}{pos:Pos}{ifs:List Expr}{scope:Scope}{caps:List (Str×Nat)}{wi:TI}{g:TG}{tt:TT}{te:TE}
structure OwnC(X:Cx)(scope:Scope)(lo:Nat)(h:Heap)(cl:List (Str×Addr)):Prop where
 sort:∀y c,cl.lookup y=some c->X.env.cells.lookup y=some c\/(h.IsCell c none/\lo<=c)
 inj:∀y z c,cl.lookup y=some c->cl.lookup z=some c->y=z
 has:∀y,((y,NameKind.free)∈scope.names\/(y,NameKind.cell)∈scope.names)->∃c,cl.lookup y=some c
 own:∀y c,scope.names.lookup y=some .cell->cl.lookup y=some c->lo<=c
 free:∀y,(y,NameKind.free)∈scope.names->∃c,cl.lookup y=some c/\X.env.cells.lookup y=some c
def zgX(h:(relabel scope env).names.lookup y=some .cell\/(relabel scope env).names.lookup y=some .free):(y,NameKind.free)∈scope.names\/(y,NameKind.cell)∈scope.names:=by
 have go:∀k,(relabel scope env).names.lookup y=some k->(k=.cell\/k=.free)->(y,NameKind.free)∈scope.names\/(y,NameKind.cell)∈scope.names:=fun k e hk=>by
  have hm:=yaC e;obtain⟨⟨n,k0⟩,b,e2⟩:=yaf.mp hm
  by_cases a:(k0==.free&&env.scope.kind==.function&&env.kindOf n==some .cell)=true
  ·have c:(n,NameKind.cell)=(y,k):=by rw[<-e2];show _=if _ then _ else _;rw[if_pos a]
   cases c
   have:k0=.free:=by simp only[yaa]at a;exact eq_of_beq a.1.1
   subst this;exact .inl b
  ·have c:(n,k0)=(y,k):=by rw[<-e2];show _=if _ then _ else _;rw[if_neg a]
   cases c
   rcases hk with rfl|rfl
   ·exact .inr b
   ·exact .inl b
 rcases h with h|h
 ·exact go _ h (.inl rfl)
 ·exact go _ h (.inr rfl)
theorem zg6:∀{l:List (Str×NameKind)},(l.map (·.1)).Nodup->∀{x:Str}{a b:NameKind},(x,a)∈l->(x,b)∈l->a=b
 |[],_,_,_,_,h,_=>by cases h
 |p::l,nd,x,a,b,h,h'=>by
  rw[yar,ya7]at nd
  rcases yaq.mp h with h|h<;>rcases yaq.mp h' with h'|h'
  ·rw[<-h']at h;exact(Prod.mk.inj h).2
  ·exact absurd (yaf.mpr ⟨_,h',by rw[<-h]⟩) nd.1
  ·exact absurd (yaf.mpr ⟨_,h,by rw[<-h']⟩) nd.1
  ·exact zg6 nd.2 h h'
def zls{X:Cx}{scope:Scope}{lo n:Nat}{h:Heap}{cl:List (Str×Addr)}(nd:(scope.names.map (·.1)).Nodup)(hn:lo<=n)(a3:∀x y c,X.env.cells.lookup x=some c->X.env.cells.lookup y=some c->x=y)
  (I:∀y c,cl.lookup y=some c->X.env.cells.lookup y=some c) (U:∀y c,X.env.cells.lookup y=some c->c<lo) (J:∀y,(y,NameKind.free)∈scope.names->∃c,cl.lookup y=some c) (ok:CellsOk h n (cellsFrom n scope.names [])):
  OwnC X scope lo h (cellsFrom n scope.names []++cl):=by
 have sort:∀y c,(cellsFrom n scope.names []++cl).lookup y=some c->((cellsFrom n scope.names []).lookup y=some c)\/((cellsFrom n scope.names []).lookup y=none/\cl.lookup y=some c):=fun y c e=>by
  rw[zb5]at e
  cases f:(cellsFrom n scope.names []).lookup y with
  |some c'=>rw[f]at e;exact .inl e|none=>rw[f]at e;exact .inr ⟨rfl,e⟩
 refine⟨fun y c e=>?_,fun y z c e g=>?_,fun y d=>?_,fun y c d e=>?_,fun y d=>?_⟩
 ·rcases sort y c e with z|⟨_,z⟩
  ·have:=ok.empty y c (yaC z);exact .inr ⟨this.1,yav hn this.2⟩
  ·exact .inl (I y c z)
 ·rcases sort y c e with a|⟨_,a⟩<;>rcases sort z c g with b|⟨_,b⟩
  ·exact name_of_addr ok.apart (yaC a) (yaC b)
  ·have h1:=(ok.empty y c (yaC a)).2;have h2:=U z c (I z c b);exact absurd (yan h2 (yav hn h1)) (yaT _)
  ·have h1:=(ok.empty z c (yaC b)).2;have h2:=U y c (I y c a);exact absurd (yan h2 (yav hn h1)) (yaT _)
  ·exact a3 y z c (I y c a) (I z c b)
 ·rw[zb5]
  cases f:(cellsFrom n scope.names []).lookup y with
  |some c=>exact⟨c,rfl⟩|none=>
   rcases d with d|d
   ·exact J y d
   ·obtain⟨c,e⟩:=zb0 scope.names n d;rw[f]at e;cases e
 ·obtain⟨c',g⟩:=zb0 scope.names n (yaC d);rw[zb5,g]at e;have:c'=c:=Option.some.inj e;subst this;exact yav hn (ok.empty y c' (yaC g)).2
 ·obtain⟨c,e⟩:=J y d;refine⟨c,?_,I y c e⟩;rw[zb5]
  cases f:(cellsFrom n scope.names []).lookup y with
  |some c'=>
   have:=zcN scope.names n (yaC f);cases zg6 nd d this
  |none=>exact e
theorem zmp(S:CompScopeG X.env.scope scope X.N xs caps)(hu:∀p∈caps,∀z∈scope.names,z.1=p.1->z.2=.free)
  (I:Inv X pins σ H s) (J:OwnC X scope s.heap.objs.size s'.heap cl)
  (hf:∀b∈fp,zmE X pins H b) (U:∀b∈fp,b<s.heap.objs.size) (hC:s.heap.objs.size<=C) (ho:s'.os=s.os) (hg:s'.gens=s.gens) (hk:∀b o,s.heap.get? b=some o->s'.heap.get? b=some o) (hn:s'.heap.Ns C (fun _=>none)):
  Inv (zbe X xs caps scope cl C s H fp) [] (capσ σ xs.length caps) H s':=by
 have j:∀y c,cl.lookup y=some c->∃v,s'.heap.IsCell c v:=fun y c e=>by
  rcases J.sort y c e with z|z
  ·obtain⟨v,o,q,d⟩:=I.cell y c z;exact⟨v,o,hk _ _ q,d⟩
  ·exact⟨none,z.1⟩
 refine⟨⟨I.ok.mod,S.kind,I.ok.glob,I.ok.blt,hC,J.inj,fun y B=>J.has y (zgX B),fun y c z e=>J.own y c (yah z) e,I.ok.hd,I.ok.frames,.inl rfl,fun b hb=>⟨yaB (yan (U b hb) hC),fun y c e=>(J.sort y c e).elim (fun z=>(hf b hb).2.2.2.2.1 y c z) fun z=>ya1 (yan (U b hb) z.2)⟩,
  I.bs,yav I.ok.bsz I.sz,fun b o e hb=>?_,fun b hb hm=>?_,I.stack,I.stkFree⟩,ho,by rw[hg];exact I.bare,Un.kept hk,⟨_,hn,fun i y v h1 h2 K=>?_⟩,fun y c e=>j y c e,I.hok.fresh hC,fun y c e=>(J.sort y c e).elim (I.freeC y c) fun z=>I.hok.fresh z.2,fun p k=>absurd (show p∈([]:Z3)from k) (by simp),I.hok.kept hk,?_⟩
 ·rcases(hf b hb).2.2.2.1 with z|z
  ·exact I.ok.noex b o e z
  ·exact absurd (yan (yau e) (yav I.ok.bsz z)) (yaT _)
 ·rcases yaq.mp (I.stkSub b hm)with z|z
  ·exact(hf b hb).2.1 z
  ·exact(hf b hb).2.2.1 z
 ·have hi:¬ i<xs.length:=fun hi=>by
   have a:(capσ σ xs.length caps)[i]?=some (some v):=h2;rw[yaI (by rw[yaU];exact hi),ybR]at a
   split at a<;>cases a
  ·have f:(caps.map (·.1))[i-xs.length]?=some y:=by
    have f:(xs++caps.map (·.1))[i]?=some y:=h1;rwa[yax (by omega)]at f
   rw[yaM]at f
   have a:(caps.map fun p=>(σ[p.2]?).join)[i-xs.length]?=some (some v):=by
    have a:(capσ σ xs.length caps)[i]?=some (some v):=h2;rw[yax (by rw[yaU];omega),yaU]at a;exact a
   rw[yaM]at a
   cases k:caps[i-xs.length]? with
   |none=>rw[k]at f;cases f|some p=>
    rw[k]at f a;have E:p.1=y:=Option.some.inj f;have ev:(σ[p.2]?).join=some v:=Option.some.inj a;subst E;have g:p∈caps:=ya4 k;obtain⟨c1,c2,G⟩:=S.cap p g
    have x:σ[p.2]?=some (some v):=by
     cases q:σ[p.2]? with
     |none=>rw[q]at ev;cases ev|some w=>rw[q]at ev;have:w=some v:=ev;rw[this]
    have t:=S.free _ c2 rfl;have hv:Vis X.env.scope p.1:=t.elim (fun z=>.inr (.inl z)) (fun z=>.inr (.inr z));obtain⟨m,_,D⟩:=I.loc;obtain⟨u,r,l⟩:=D p.2 p.1 v c1 x hv;refine⟨u,r,.inr ⟨zel (scope:=scope) (env:=X.env) c2 (hu p g),?_⟩⟩;obtain⟨c,F,A⟩:=J.free p.1 c2;refine⟨c,F,?_⟩
    rcases l with⟨z,_⟩|⟨_,c',n,h⟩
    ·exact absurd z G
    ·have:c'=c:=by rw[A]at n;exact(Option.some.inj n).symm
     subst this;obtain⟨o,q,d⟩:=h;exact⟨o,hk _ _ q,d⟩
 ·simp[zbe,capσ]
theorem zhu{use:Option (Value->Sem Unit)}{Qf:Z5}{R:VK}{pins:Z3}{s:Shared}{σ:St}{H:Hp}(hc:X.calm=true)(S:CompScopeG X.env.scope scope X.N xs caps)(hi:PI X tg iter wi)(hg:∀cl C s H fp,PG (zbe X xs caps scope cl C s H fp) tg g)
  (ht:∀cl C s H fp,PIf (zbe X xs caps scope cl C s H fp) ifs tt) (he:∀cl C s H fp,PE (zbe X xs caps scope cl C s H fp) elt te)
  (hs:∀v,foldedSetIterable iter X.env v=pure v) (I:Inv X pins σ H s) (h:ziS wi g tt te xs.length caps σ H R)
  (fin:∀(D C:Addr) (s4:Shared) (m4:Z6) (H6:Hp) (r:Flow),s4.heap.Ns C m4->(∀{U:St}{H7:Hp}{s5:Shared}{h':Heap},Inv X pins U H7 s5->Heap.SameBut C s5.heap h'->H7 C=none->Inv X pins U H7 {s5 with heap:=h'})->H6 C=none->C≠X.env.locals->(∀y c,X.env.cells.lookup y=some c->C≠c)->Inv X pins σ H6 s4->R (.ref D) H6->compPost (model X.prog X.w) X.A X.xe use Qf (.ref D) C (.ok r) s4):
  wpAny (model X.prog X.w) X.A (comprehension (.ListComp elt [⟨tg,iter,ifs,0⟩] scope pos) scope X.env (firstIterPos [⟨tg,iter,ifs,0⟩] pos) (newList []) false (eval iter X.env) use) Qf X.xe s:=by
 obtain⟨cl,aq,aV,aH⟩:=zfM (scope:=scope) (env:=X.env) fun y hy hf=>I.ok.has y.1 (S.free y hy hf)
 refine wpAny_comprehension_free (use:=use) rfl hs aq S.kind S.names (thn (hi pins s σ H _ I h) fun v s1 h1=>thn h1 fun ba s2 h2=>?_);obtain⟨it,fp,tn,J,H2,rfl,V,T,ah,f2,W,⟨m0,w0⟩,aB⟩:=h2;refine ybj (zcq (fun G B j x=>?_));dsimp only at B j x ⊢;generalize aw:s2.heap.push {cls:=.type "list",dict:=none,data:=.seq ([]:List Value).toArray}=F at B j x ⊢
 have ay:F.objs.size=s2.heap.objs.size+1:=by rw[<-aw,ya6]
 have ax:s2.heap.objs.size≠F.objs.size:=by rw[ay];exact yaB (ycf _)
 have hC:s2.heap.objs.size<=F.objs.size:=by rw[ay];exact ybH _
 have old:∀b o,s2.heap.get? b=some o->G.get? b=some o:=fun b o e=>j b o (aw ▸ yag _ e)
 have aJ:G.get? s2.heap.objs.size=some (lob [] 0):=j _ _ (aw ▸ yaw _ rfl)
 have t:∀y c,X.env.cells.lookup y=some c->c<s2.heap.objs.size:=fun y c e=>by obtain⟨v,q⟩:=V.cell y c e;exact q.lt
 have oc:=zls (X:=X) (lo:=s2.heap.objs.size+1) S.nd (by rw[ay];exact ybH _) I.ok.inj aV (fun y c e=>ybN (t y c e)) aH x;generalize b9:cellsFrom (F.objs.size+1) scope.names []++cl=E at oc ⊢;have aR:OwnC X scope s2.heap.objs.size G E:=⟨fun y c e=>(oc.sort y c e).imp id fun z=>⟨z.1,yda z.2⟩,oc.inj,oc.has,fun y c a e=>yda (oc.own y c a e),oc.free⟩
 have a3:∀b∈fp,b<s2.heap.objs.size:=fun b hb=>by obtain⟨o,e,_⟩:=T.obj 0 _ ah b hb;exact yau e
 generalize L:zbe X xs caps scope E F.objs.size s2 H2 fp=Y;have b5:PE Y elt te:=L ▸ he E _ s2 H2 fp;have b3:PIf Y ifs tt:=L ▸ ht E _ s2 H2 fp;have b4:PG Y tg g:=L ▸ hg E _ s2 H2 fp
 have I3:Inv Y [] (capσ σ xs.length caps) H2 {s2 with heap:=G}:=by
  rw[<-L];exact zmp S S.uniq V aR f2 a3 hC rfl rfl old B
 have m:Y.env=compEnvC scope E F.objs.size X.env:=by rw[<-L];rfl
 have l:Y.env.locals=F.objs.size:=by rw[m];rfl
 have a6:Y.fs=frs X.stack:=by rw[<-L];rfl
 have f:Y.prog=X.prog:=by rw[<-L];rfl
 have Q:Y.w=X.w:=by rw[<-L];rfl
 have aN:Y.K=X.K:=by rw[<-L];rfl
 have a7:Y.A=X.A:=by rw[<-L];rfl
 have aM:Y.calm=true:=by rw[<-L];exact hc
 have ae:Y.ex=fp:=by rw[<-L];rfl
 have aA:Y.s₀=s2:=by rw[<-L];rfl
 have b0:Y.H₀=H2:=by rw[<-L];rfl
 have ab:Y.pn=[]:=by rw[<-L];rfl
 have O:∀y c,Y.env.cells.lookup y=some c->X.env.cells.lookup y=some c\/s2.heap.objs.size+1<=c:=fun y c e=>(oc.sort y c (by rwa[m]at e)).imp id (·.2)
 have a5:∀e s',¬ Y.xe e s':=fun e s' z=>by rwa[<-L]at z
 have aC:∀b∈frs X.stack,b<s2.heap.objs.size:=fun b hb=>by
  rcases yaq.mp (V.stkSub b hb)with z|z
  ·rw[z];exact V.lt
  ·refine Nat.not_le.mp fun hle=>V.nofs hle z
 have a8:∀p∈X.pn++pins,p.1<s2.heap.objs.size:=fun p M=>yau (V.pin p M).1
 have az:∀{H':Hp}{aa:List Value}{k:Nat},(∀b∈fp,H' b=none)->∀b∈fp,zmE Y [(s2.heap.objs.size,lob aa k)] H' b:=fun {H' aa k} hn b hb=>by
  refine⟨hn b hb,by rw[l];exact yaB (yan (a3 b hb) hC),?_,.inl (by rw[ae];exact hb),fun y c e=>(O y c e).elim (fun z=>(f2 b hb).2.2.2.2.1 y c z) fun z=>ya1 (yan (a3 b hb) (yda z)),fun p M=>?_⟩
  ·rw[a6];intro hm
   rcases yaq.mp (V.stkSub b hm)with z|z
   ·exact(f2 b hb).2.1 z
   ·exact(f2 b hb).2.2.1 z
  ·rw[ab]at M
   have e:p=(s2.heap.objs.size,lob aa k):=by simpa using M
   rw[e];exact ya1 (a3 b hb)
 have a9:∀{H':Hp}{U:St}{s':Shared}{aa:List Value}{k:Nat},Inv Y [] U H' s'->s'.heap.get? s2.heap.objs.size=some (lob aa k)->H' s2.heap.objs.size=none->Inv Y [(s2.heap.objs.size,lob aa k)] U H' s':=fun {H' U s' aa k} I' e n=>
  I'.pins_of fun p M=>by
   have ep:p=(s2.heap.objs.size,lob aa k):=by simpa using M
   subst ep;refine⟨e,n,by rw[l];exact ax,?_,fun v z=>?_⟩
   ·rw[a6];exact fun hm=>yaT _ (aC _ hm)
   ·have z':Data.seq aa.toArray k=Data.cell v:=z;cases z'
 have loop:codeAny (model X.prog X.w) X.A (.compLoop (.ListComp elt [⟨tg,iter,ifs,0⟩] scope pos) 0 (.ref it) (.ref s2.heap.objs.size) (compEnvC scope E F.objs.size X.env))
   (compPost (model X.prog X.w) X.A X.xe use Qf (.ref s2.heap.objs.size) F.objs.size) {s2 with heap:=G}:=by
  refine znH (fun n s'=>∃i Z H' ys aa k,Inv Y [(s2.heap.objs.size,lob aa k)] Z H' s'/\tn i s'.heap/\(∀b∈fp,H' b=none)/\Vals ys aa/\W i n ys Z H') ?_ m0
   ⟨0,capσ σ xs.length caps,H2,[],[],0,a9 I3 aJ (V.hok.fresh (yai _)),T.keep _ _ _ ah fun b hb o e=>old b o e,fun b hb=>(f2 b hb).1,.nil,w0⟩
  rintro n s3 ⟨i,Z,H3,ys,aa,k,J3,aD,aL,rv,w3⟩;obtain⟨hz,au⟩:=aB i n ys Z H3 w3
  rcases au with⟨stop,q⟩|⟨go,step⟩
  ·have hd:=T.done Y f Q aN aM i _ s3 _ H3 (notedBy (model X.prog X.w) X.A (compEnvC scope E F.objs.size X.env) fun e s'=>compPost (model X.prog X.w) X.A X.xe use Qf (.ref s2.heap.objs.size) F.objs.size (.error e) s') J3 (az aL) aD stop;rw[a7]at hd;refine thn hd fun r s4 ⟨hr,J4⟩=>?_
   subst hr;obtain⟨m4,aT,_⟩:=J4.loc
   have aG:s4.heap.Ns F.objs.size m4:=by rw[<-l];exact aT
   have aS:H3 F.objs.size=none:=by rw[<-l];exact J4.free
   have aU:HOk X.prog X.w H3 s4.heap:=by rw[<-f,<-Q];exact J4.hok
   have u5:Un (frs X.stack) fp H2 H3 s2.heap s4.heap:=by
    have ub:=J4.base;rwa[a6,ae,b0,aA]at ub
   have J5:Inv X pins σ H3 s4:=V.call' (s':=s4) (ch:=fp) (by have:=J4.os;rwa[aA]at this) u5 aU J4.bare fun b hb=>⟨(f2 b hb).2.2.2.1,(f2 b hb).2.1,(f2 b hb).2.2.2.2.1,(f2 b hb).2.2.2.2.2⟩
   have aj:=J4.pin (s2.heap.objs.size,lob aa k) (yaO _ yao);have aX:s4.heap.get? s2.heap.objs.size=some (lob aa k):=aj.1;have J6:Inv X pins σ (upd H3 s2.heap.objs.size (.lst ys)) s4:=J5.track aj.2.1 V.sz (ya1 V.lt) (fun y c e=>yaB (t y c e)) (fun p M=>yaB (a8 p M)) (show zbg X.prog X.w _ s4.heap _ (.lst ys)from⟨hz,aa,k,rv,aX⟩);have a4:F.objs.size≠X.env.locals:=ya1 (yan V.lt hC);exact fin _ F.objs.size s4 m4 _ _ aG (fun {U}{H7}{s5}{h'} J aP hn=>J.turned (t':=s5.toks) (it:=F.objs.size) (fun b o hb e=>(aP.2 b hb).trans e) hn a4 (.inr (yav V.sz hC)) (fun y c e=>yaB (yan (t y c e) hC)) (fun p M=>yaB (yan (a8 p M) hC))) (by rw[zab (Ne.symm ax)];exact aS) a4 (fun y c e=>ya1 (yan (t y c e) hC)) J6 (q _ aj.2.1)
  ·have hd:=T.item Y f Q aN aM i _ s3 _ H3 (notedBy (model X.prog X.w) X.A (compEnvC scope E F.objs.size X.env) fun e s'=>compPost (model X.prog X.w) X.A X.xe use Qf (.ref s2.heap.objs.size) F.objs.size (.error e) s') J3 (az aL) aD go;rw[a7]at hd;refine thn hd fun r s4 ⟨u,hr,h4⟩=>?_
   subst hr;refine thn h4 fun _ s5 ⟨v4,H4,J4,r4,y4,af,aZ⟩=>?_
   have b8:=J4.pinned (fp:=fp) (az aZ) (T.obj _ _ af);have ha:=b4 _ s5 Z H4 v4 u _ b8 r4 (step v4 H4 y4);rw[f,Q,a7,m]at ha;refine ya0 ha (fun _ aQ ⟨P,H5,b7,q5⟩=>?_) fun e s' z=>(a5 _ _ z).elim
   have aF:=b3 _ aQ P H5 _ b7 q5;rw[f,Q,a7,m]at aF;refine ya0 aF (fun ok s6 ⟨H6,J6,q6⟩=>?_) fun e s' z=>(a5 _ _ z).elim
   have back:∀{H7:Hp}{s7:Shared},Inv Y ([(s2.heap.objs.size,lob aa k)]++zg1 fp s5.heap) P H7 s7->tn (i+1) s7.heap/\∀b∈fp,H7 b=none:=fun {H7 s7} J7=>
    ⟨T.keep _ _ _ af fun b hb o e=>(J7.pin (b,o) (yaO _ (yaO _ (zdi hb e)))).1,fun b hb=>by
     obtain⟨o,e,d⟩:=T.obj _ _ af b hb
     exact(J7.pin (b,o) (yaO _ (yaO _ (zdi hb e)))).2.1⟩
   cases ok with
   |false=>
    rw[if_neg yaZ]at q6;rw[if_neg yaZ];obtain⟨m',ao,w6⟩:=q6;exact⟨m',ao,i+1,P,H6,ys,aa,k,J6.unpinned,(back J6).1,(back J6).2,rv,w6⟩
   |true=>
    rw[if_pos rfl]at q6;rw[if_pos rfl];have aI:=b5 _ s6 _ H6 _ J6 q6;rw[f,Q,a7,m]at aI;refine ya0 aI (fun u7 s7 ⟨v7,H7,J7,r7,m',ao,w7⟩=>?_) fun e s' z=>(a5 _ _ z).elim
    obtain⟨aO,aY⟩:=back J7;have ai:=(J7.unpinned).pin (s2.heap.objs.size,lob aa k) (yaO _ yao);have hl:=rv.length;refine append_at (hsz:=by show aa.toArray.size<=sizeLine;rw[yam];omega) ai.1 fun h8 aE aW=>?_
    have b6:Inv Y [] P H7 s7:=J7.unpinned.pins_of fun p M=>absurd M (by simp)
    have J8:Inv Y [] P H7 {s7 with heap:=h8}:=b6.turned (t':=s7.toks) (it:=s2.heap.objs.size) (fun b o hb e=>(aE.2 b hb).trans e) ai.2.1 (by rw[l];exact ax) (.inr (by rw[aA];exact yai _)) (fun y c e=>(O y c e).elim (fun z=>yaB (t y c z)) fun z=>ya1 z) (fun p M=>by rw[ab]at M;simp at M)
    have aK:h8.get? s2.heap.objs.size=some (lob (aa++[u7]) (k+1)):=by rw[aW];simp[lob]
    exact⟨m',ao,i+1,P,H7,ys++[v7],aa++[u7],k+1,a9 J8 aK ai.2.1,T.keep _ _ _ aO fun b hb o e=>(aE.2 b (yaB (a3 b hb))).trans e,aY,rv.append (.cons r7 .nil),w7⟩
 exact codeAny_compStart_list loop (T.self X.A 0 _ _ _ (T.keep _ _ _ ah fun b hb o e=>old b o e) loop)
def znq(hc:X.calm=true)(S:CompScopeG X.env.scope scope X.N xs caps)(hi:PI X tg iter wi)(U:∀cl C s H fp,PG (zbe X xs caps scope cl C s H fp) tg g)
  (J:∀cl C s H fp,PIf (zbe X xs caps scope cl C s H fp) ifs tt) (he:∀cl C s H fp,PE (zbe X xs caps scope cl C s H fp) elt te)
  (hs:autoParam (∀v,foldedSetIterable iter X.env v=pure v) yAU):PE X (.ListComp elt [⟨tg,iter,ifs,0⟩] scope pos) (ziS wi g tt te xs.length caps):=by
 intro pins s σ H Q I h;rw[eval_ListComp];exact zhu (use:=none) hc S hi U J he hs I h fun D C j c i r d a e _ _ f q=>⟨c,d,fun k b=>⟨.ref D,i,a f b e,rfl,q⟩⟩
def znb(hc:X.calm=true)(S:CompScopeG X.env.scope scope X.N xs caps)(a7:X.N.Nodup)(a5:X.N[k0]?=some J)(a3:Loc X.env.scope J)(hi:PI X tg iter wi)(hg:∀cl C s H fp,PG (zbe X xs caps scope cl C s H fp) tg g)
  (ht:∀cl C s H fp,PIf (zbe X xs caps scope cl C s H fp) ifs tt) (he:∀cl C s H fp,PE (zbe X xs caps scope cl C s H fp) elt te)
  (a4:swapsWith (.ListComp elt [⟨tg,iter,ifs,0⟩] scope pos) (some (.Name J py)) U.line X.env=pure true)
  (a6:X.fn J=true\/X.env.scope.names.lookup J=some .local)
  (hs:∀v,foldedSetIterable iter X.env v=pure v):PS X (.Assign [.Name J py] (.ListComp elt [⟨tg,iter,ifs,0⟩] scope pos) U) (zrv (ziS wi g tt te xs.length caps) (zma k0)):=by
 intro pins s σ H x I h;rw[exec_Assign_Name_used _ _ _ _ a4];refine yac (ydf (yac ?_));show wpAny _ X.A (do let _ ← comprehension (.ListComp elt [⟨tg,iter,ifs,0⟩] scope pos) scope X.env _ (newList []) false (eval iter X.env) (some (assign (.Name J py) X.env))) _ _ s;refine yac (ya0 (zhu (use:=some (assign (.Name J py) X.env)) (Qf:=fun _ s'=>SP X pins x .next s') hc S hi hg ht he hs I h fun D C k l B r n f t o c w q=>?_) (fun _ s' m=>yak (yak m)) fun _ _ e=>e);show wpAny _ X.A (assign (.Name J py) X.env (.ref D)) _ X.xe k;refine wpAny_assign_Name (zgK (i:=k0) w a7 a5 a3 (v:=.ref D) rfl (fun y u ⟨a,j,p⟩=>?_) a6);have d:C≠a:=p.elim (fun z=>by rw[z];exact o) fun z=>c _ _ z
 exact⟨l,n.sameBut j d,fun h' b=>⟨_,_,f u b t,q⟩⟩
end
section
variable{κ:Type}[DecidableEq κ]
noncomputable def zeD(kvs:List (κ×V))(k:κ):Option V:=(kvs.find? fun a=>decide (a.1=k)).map (·.2)
noncomputable def zf7(kvs:List (κ×V))(k:κ)(v:V):List (κ×V):=
 if(kvs.any fun a=>decide (a.1=k))=true then kvs.map (fun a=>if a.1=k then(a.1,v)else a)else kvs++[(k,v)]
noncomputable def zfg(kvs:List (κ×V))(k:κ):List (κ×V):=kvs.filter fun a=>decide (a.1≠k)
def zda{p:κ×V}{r:List (κ×V)}{k:κ}(e:p.1=k):zeD (p::r) k=some p.2:=by simp[zeD,yb4,e]
def zdb{p:κ×V}{r:List (κ×V)}{k:κ}(e:¬ p.1=k):zeD (p::r) k=zeD r k:=by simp[zeD,yb4,e]
theorem zew(k:κ):∀kvs:List (κ×V),(kvs.any fun I=>decide (I.1=k))=(zeD kvs k).isSome
 |[]=>rfl|p::r=>by
  rw[ydh]
  by_cases e:p.1=k
  ·simp only[zda e,yap e,Bool.true_or,yc3]
  ·rw[zdb e,yaz e,Bool.false_or];exact zew k r
theorem zds(kvs:List (κ×V))(k:κ)(v:V):(zf7 kvs k v).length<=kvs.length+1:=by
 unfold zf7;split
 ·rw[yab];omega
 ·rw[yae,yad,yb5];omega
def zm8{kvs:List (κ×V)}{k:κ}(v:V)(h:zeD kvs k=none):zf7 kvs k v=kvs++[(k,v)]:=by
 unfold zf7;rw[zew,h];exact if_neg (by decide)
def zfR.isSome_eq{o:Option V}{u:Option Value}(r:zfR o u):o.isSome=u.isSome:=by
 cases o with
 |none=>cases u with
  |none=>rfl|some _=>exact(show False from r).elim
 |some _=>cases u with
  |none=>exact(show False from r).elim|some _=>rfl
theorem zfR.getD{o:Option V}{u:Option Value}{d:V}{d':Value}(r:zfR o u)(rd:zaZ d d'):zaZ (o.getD d) (u.getD d'):=by
 cases o with
 |none=>cases u with
  |none=>exact rd|some _=>exact(show False from r).elim
 |some _=>cases u with
  |none=>exact(show False from r).elim|some _=>exact r
def KV.val{kvs:List (κ×V)}{vs:List (κ×Value)}(r:KV kvs vs)(k:κ):zfR (zeD kvs k) (valueAt vs k):=by
 unfold KV at r
 induction r with
 |nil=>exact True.intro| @cons p q ps qs h t c=>
  obtain⟨h1,h2⟩:=h
  by_cases e:p.1=k
  ·have a:q.1=k:=h1.symm.trans e
   have b:valueAt (q::qs) k=some q.2:=by simp[valueAt,yb4,a]
   rw[zda e,b];exact h2
  ·have a:¬ q.1=k:=fun z=>e (h1.trans z)
   have b:valueAt (q::qs) k=valueAt qs k:=by simp[valueAt,yb4,a]
   rw[zdb e,b];exact c
theorem KV.any{kvs:List (κ×V)}{vs:List (κ×Value)}(r:KV kvs vs)(k:κ):(kvs.any fun I=>decide (I.1=k))=vs.any fun I=>decide (I.1=k):=by
 unfold KV at r
 induction r with
 |nil=>rfl|cons h t a=>rw[ydh,ydh,a,h.1]
def KV.repl{kvs:List (κ×V)}{vs:List (κ×Value)}(r:KV kvs vs)(k:κ){y:V}{u:Value}(J:zaZ y u):
  KV (kvs.map fun I=>if I.1=k then(I.1,y)else I) (vs.map fun I=>if I.1=k then(I.1,u)else I):=by
 unfold KV at r ⊢
 induction r with
 |nil=>exact .nil| @cons p q ps qs h t a=>
  rw[yar,yar];refine .cons ?_ a;obtain⟨h1,h2⟩:=h
  by_cases e:p.1=k
  ·rw[if_pos e,if_pos (h1.symm.trans e)];exact⟨h1,J⟩
  ·rw[if_neg e,if_neg (fun z=>e (h1.trans z))];exact⟨h1,h2⟩
def KV.put{kvs:List (κ×V)}{vs:List (κ×Value)}(r:KV kvs vs)(k:κ){y:V}{u:Value}(I:zaZ y u):KV (zf7 kvs k y) (stored vs k u):=by
 unfold zf7 stored;rw[r.any k]
 by_cases e:(vs.any fun a=>decide (a.1=k))=true
 ·rw[if_pos e,if_pos e];exact r.repl k I
 ·rw[if_neg e,if_neg e];exact Paired.snoc r ⟨rfl,I⟩
def KV.drop{kvs:List (κ×V)}{vs:List (κ×Value)}(r:KV kvs vs)(k:κ):KV (zfg kvs k) (without vs k):=by
 unfold KV at r ⊢;unfold zfg without
 induction r with
 |nil=>exact .nil| @cons p q ps qs h t c=>
  obtain⟨h1,h2⟩:=h;rw[ycg,ycg]
  by_cases e:p.1=k
  ·have a:¬ decide (p.1≠k)=true:=by simp[e]
   have b:¬ decide (q.1≠k)=true:=by simp[h1.symm.trans e]
   rw[if_neg a,if_neg b];exact c
  ·have d:¬ q.1=k:=fun z=>e (h1.trans z)
   have a:decide (p.1≠k)=true:=by simp[e]
   have b:decide (q.1≠k)=true:=by simp[d]
   rw[if_pos a,if_pos b];exact .cons ⟨h1,h2⟩ c
theorem KV.length{kvs:List (κ×V)}{vs:List (κ×Value)}(r:KV kvs vs):kvs.length=vs.length:=Paired.length r
def zn6(kvs:List (κ×V))(k:κ):(zfg kvs k).length<=kvs.length:=List.length_filter_le _ _
end
def zfp{P:Program}{w:World}{k:Key}{u:Value}(r:zaZ (kV k) u):(zaH P w).is k u=true:=by
 cases k with
 |inl i=>obtain⟨t,e⟩:=(show ∃t,u=Value.int i t from r);subst e;exact zh9 P w i t|inr x=>obtain⟨t,e⟩:=(show ∃t,u=Value.str x t from r);subst e;exact zh8 P w x t
theorem zhf{P:Program}{w:World}:∀{ks:List Key}{us:List Value},Vals (ks.map kV) us->ItemsAre (zaH P w) ks us
 |[],_,r=>by rw[List.map_nil]at r;cases r;exact .nil
 |k::ks,_,r=>by
  rw[yar]at r
  cases r with
  |cons h t=>exact .cons (zfp h) (zhf t)
noncomputable abbrev KT(H:Hp):List (List Key×V)->List (List Key×Addr×Value)->Prop:=Paired fun p q=>p.1=q.1/\H q.2.1=some (.tup (p.1.map kV))/\zaZ p.2 q.2.2
def KT.val{H:Hp}{kvs:List (List Key×V)}{xs:List (List Key×Addr×Value)}(r:KT H kvs xs)(k:List Key):zfR (zeD kvs k) ((atKey xs k).map (·.2)):=by
 induction r with
 |nil=>exact True.intro| @cons p q ps qs h t c=>
  obtain⟨h1,_,h2⟩:=h
  by_cases e:p.1=k
  ·have a:q.1=k:=h1.symm.trans e
   have b:atKey (q::qs) k=some q.2:=by simp[atKey,yb4,a]
   rw[zda e,b];exact h2
  ·have a:¬ q.1=k:=fun z=>e (h1.trans z)
   have b:atKey (q::qs) k=atKey qs k:=by simp[atKey,yb4,a]
   rw[zdb e,b];exact c
def KT.repl{H:Hp}{kvs:List (List Key×V)}{xs:List (List Key×Addr×Value)}(r:KT H kvs xs)(k:List Key){y:V}{u:Value}(J:zaZ y u):
  KT H (kvs.map fun I=>if I.1=k then(I.1,y)else I) (xs.map (putAt k u)):=by
 induction r with
 |nil=>exact .nil| @cons p q ps qs h t a=>
  rw[yar,yar];refine .cons ?_ a;obtain⟨h1,h2,b⟩:=h;unfold putAt
  by_cases e:p.1=k
  ·rw[if_pos e,if_pos (h1.symm.trans e)];exact⟨h1,h2,J⟩
  ·rw[if_neg e,if_neg (fun z=>e (h1.trans z))];exact⟨h1,h2,b⟩
def KT.put{H:Hp}{kvs:List (List Key×V)}{xs:List (List Key×Addr×Value)}(r:KT H kvs xs)(k:List Key){b:Addr}{y:V}{u:Value}(hb:H b=some (.tup (k.map kV)))(I:zaZ y u):
  KT H (zf7 kvs k y) (storedH xs k b u):=by
 have e:(kvs.any fun a=>decide (a.1=k))=(atKey xs k).isSome:=by
  rw[zew,(r.val k).isSome_eq,ydb]
 unfold zf7 storedH;rw[e]
 by_cases q:(atKey xs k).isSome=true
 ·rw[if_pos q,if_pos q];exact r.repl k I
 ·rw[if_neg q,if_neg q];exact Paired.snoc r ⟨rfl,hb,I⟩
def KT.keeps{H H':Hp}{kvs:List (List Key×V)}{xs:List (List Key×Addr×Value)}(r:KT H kvs xs)(I:∀b ys,H b=some (.tup ys)->H' b=some (.tup ys)):KT H' kvs xs:=
 Paired.mapP r fun _ _ z=>⟨z.1,I _ _ z.2.1,z.2.2⟩
section
variable{P:Program}{w:World}{H:Hp}{h:Heap}{a:Addr}
def zsm{u:HO}(ok:HOk P w H h)(e:Rd H a u):zbg P w H h a u:=e.ok ok
def zgs{kvs:List (Key×V)}(ok:HOk P w H h)(e:Rd H a (.dK kvs)):kvs.length<=sizeLine/\(a==sysModules)=false/\∃vs,KV kvs vs/\h.DictOf (zaH P w) a vs:=
 show zbg P w H h a (.dK kvs)from zsm ok e
def zn7{kvs:List (Key×V)}(ok:HOk P w H h)(e:H a=some (.dK kvs)):kvs.length<=sizeLine/\(a==sysModules)=false/\∃vs,KV kvs vs/\h.DictOf (zaH P w) a vs:=zgs ok (.inl e)
def zeW{ks:List Key}(ok:HOk P w H h)(e:H a=some (.tup (ks.map kV))):(tupleKind (zaH P w)).is h ks a:=by
 obtain⟨_,aa,r,o,h1,h2,n,b,_⟩:=(show zbg P w H h a (.tup (ks.map kV))from ok a _ e);exact⟨o,aa.toArray,n,h1,h2,b,by simpa using zhf r⟩
def zho{kvs:List (List Key×V)}(ok:HOk P w H h)(e:Rd H a (.dT kvs)):kvs.length<=sizeLine/\(a==sysModules)=false ∧
  ∃xs,KT H kvs xs/\h.DictOfH (tupleKind (zaH P w)) a xs:=by
 obtain⟨z,y,xs,r,o,es,j,h1,h2,i,g,f⟩:=(show zbg P w H h a (.dT kvs)from zsm ok e);refine⟨z,y,xs,r,o,es,j,h1,h2,i,g,fun x b=>?_,f⟩
 have all:∀{l:List (List Key×V)}{m:List (List Key×Addr×Value)},KT H l m->∀x∈m,(tupleKind (zaH P w)).is h x.1 x.2.1:=by
  intro l m q
  induction q with
  |nil=>intro x b;exact nomatch b| @cons p q ps qs c t d=>
   intro x b
   rcases yaq.mp b with e|b
   ·subst e;exact zeW ok (by rw[<-c.1];exact c.2.1)
   ·exact d x b
 exact all r x b
def zwd{kvs:List (List Key×V)}(ok:HOk P w H h)(e:H a=some (.dT kvs)):kvs.length<=sizeLine/\(a==sysModules)=false ∧
  ∃xs,KT H kvs xs/\h.DictOfH (tupleKind (zaH P w)) a xs:=zho ok (.inl e)
end
noncomputable def zix(H:Hp)(a:Addr)(y:V)(r:Option V):Prop:=
 (∃kvs k,Rd H a (.dK kvs)/\y=kV k/\r=zeD kvs k)\/∃kvs k b,Rd H a (.dT kvs)/\y=.ref b/\H b=some (.tup (k.map kV))/\r=zeD kvs k
noncomputable def zru(H:Hp)(a:Addr)(y v:V)(H':Hp):Prop:=
 (∃kvs k,H a=some (.dK kvs)/\y=kV k/\kvs.length<sizeLine/\H'=upd H a (.dK (zf7 kvs k v))) ∨
 ∃kvs k b,H a=some (.dT kvs)/\y=.ref b/\H b=some (.tup (k.map kV))/\kvs.length<sizeLine/\H'=upd H a (.dT (zf7 kvs k v))
theorem zix.k{H:Hp}{a:Addr}{kvs:List (Key×V)}{k:Key}(e:H a=some (.dK kvs)):zix H a (kV k) (zeD kvs k):=.inl ⟨kvs,k,.inl e,rfl,rfl⟩
theorem zru.k{H:Hp}{a:Addr}{kvs:List (Key×V)}{k:Key}{v:V}(e:H a=some (.dK kvs))(I:kvs.length<sizeLine):zru H a (kV k) v (upd H a (.dK (zf7 kvs k v))):=.inl ⟨kvs,k,e,rfl,I,rfl⟩
section
variable{X:Cx}{pins:Z3}{σ:St}{H:Hp}{s:Shared}{a:Addr}{y v:V}{u r:Value}{o:Option V}{A:Around}{E:Z5}
def Inv.big(I:Inv X pins σ H s):sysModules<s.heap.objs.size:=by
 have h:mainGlobals<s.heap.objs.size:=(I.mod.glob.keeps I.bk).lt;exact Nat.lt_trans (by decide) h
def zmm{Q:Z5}(U:A.units+1<cLine)(I:Inv X pins σ H s)(g:zix H a y (some v))(J:zaZ y u)(h:∀w' s',Inv X pins σ H s'->zaZ v w'->Q w' s'):
  wpAny (model X.prog X.w) A (getItem (.ref a) u) Q E s:=by
 rcases g with⟨kvs,k,e,i,l⟩|⟨kvs,k,b,e,i,m,l⟩
 ·subst i;obtain⟨z,hd,vs,rel,dd⟩:=zgs I.hok e;obtain⟨w',d,c⟩:=zfR.some_of (v:=v) (o:=valueAt vs k) (by rw[l];exact rel.val k);exact wpAny_getItem_of (zfp J) dd.mapOf d (h w' _ (I.tok _) c)
 ·subst i;cases (show u=Value.ref b from J);obtain⟨z,hd,xs,rel,dd⟩:=zho I.hok e;obtain⟨w',d,c⟩:=zfR.some_of (v:=v) (o:=(atKey xs k).map (·.2)) (by rw[l];exact rel.val k);obtain⟨p,j,f⟩:=ya5.mp d;refine wpAny_getItem_heap (ybD U) (zeW I.hok m) dd j ?_;rw[f];exact h w' _ (I.tok _) c
def zzK{Q:Z5}(U:A.units+1<cLine)(I:Inv X pins σ H s)(g:zix H a y o)(J:zaZ y u)(h:∀s',Inv X pins σ H s'->Q (.bool o.isSome) s'):
  wpAny (model X.prog X.w) A (compareOp .In u (.ref a)) Q E s:=by
 rcases g with⟨kvs,k,e,c,l⟩|⟨kvs,k,b,e,c,d,l⟩
 ·subst c;obtain⟨z,hd,vs,rel,dd⟩:=zgs I.hok e;refine wpAny_in_of (zfp J) hd dd.mapOf ?_;rw[<-(rel.val k).isSome_eq,<-l];exact h _ (I.tok _)
 ·subst c;cases (show u=Value.ref b from J);obtain⟨z,hd,xs,rel,dd⟩:=zho I.hok e;refine wpAny_in_heap (ybD U) (zeW I.hok d) hd dd ?_;have q:=(rel.val k).isSome_eq;rw[ydb]at q;rw[<-q,<-l];exact h _ (I.tok _)
def zri{Q:Z5}(U:A.units+1<cLine)(I:Inv X pins σ H s)(g:zix H a y o)(J:zaZ y u)(h:∀s',Inv X pins σ H s'->Q (.bool (!o.isSome)) s'):
  wpAny (model X.prog X.w) A (compareOp .NotIn u (.ref a)) Q E s:=by
 rcases g with⟨kvs,k,e,c,l⟩|⟨kvs,k,b,e,c,d,l⟩
 ·subst c;obtain⟨z,hd,vs,rel,dd⟩:=zgs I.hok e;refine wpAny_notIn_of (zfp J) hd dd.mapOf ?_;rw[<-(rel.val k).isSome_eq,<-l];exact h _ (I.tok _)
 ·subst c;cases (show u=Value.ref b from J);obtain⟨z,hd,xs,rel,dd⟩:=zho I.hok e;refine wpAny_notIn_heap (ybD U) (zeW I.hok d) hd dd ?_;have q:=(rel.val k).isSome_eq;rw[ydb]at q;rw[<-q,<-l];exact h _ (I.tok _)
def zgu{h':Heap}{t':Nat}{ob:HO}(I:Inv X pins σ H s)(mu:Mut (H a))(hs:Heap.SameBut a s.heap h')(he:∃q,h'.get? a=some q)(new:zbg X.prog X.w (upd H a ob) h' a ob):
  Inv X pins σ (upd H a ob) {s with heap:=h',toks:=t'}:=
 I.write (x:=a) (e:=a) mu (.inl rfl) (fun b q hb z=>(hs.2 b hb).trans z) he new
def zmj{P:Program}{w:World}{H':Hp}{h':Heap}{kvs:List (Key×V)}{vs:List (Key×Value)}(z:kvs.length<=sizeLine)(hd:(a==sysModules)=false)(rel:KV kvs vs)(dd:h'.DictOf (zaH P w) a vs):
  zbg P w H' h' a (.dK kvs):=⟨z,hd,vs,rel,dd⟩
def zhr{H':Hp}{Q:Unit->Shared->Prop}(hu:A.units+1<cLine)(I:Inv X pins σ H s)(g:zru H a y v H')(J:zaZ y u)(U:zaZ v r)(h:∀s',Inv X pins σ H' s'->Q () s'):
  wpAny (model X.prog X.w) A (setItem (.ref a) u r) Q E s:=by
 rcases g with⟨kvs,k,e,m,l,n⟩|⟨kvs,k,b,e,m,p,l,n⟩
 ·subst m n;obtain⟨z,hd,vs,rel,dd⟩:=zn7 I.hok e
  have i:vs.length<=sizeLine:=by rw[<-rel.length];exact z
  have j:(zf7 kvs k v).length<=sizeLine:=by have:=zds kvs k v;omega
  refine wpAny_setItem_pairs (hsz:=i) (zfp J) dd fun h' d hs=>h _ ?_
  have he:∃q,h'.get? a=some q:=let ⟨q,_,_,f,_⟩:=d;⟨q,f⟩
  exact zgu I (by rw[e];exact True.intro) hs he (zmj j hd (rel.put k U) d)
 ·subst m n;cases (show u=Value.ref b from J);obtain⟨z,hd,xs,rel,dd⟩:=zwd I.hok e
  have i:xs.length<=sizeLine:=by rw[<-Paired.length rel];exact z
  have j:(zf7 kvs k v).length<=sizeLine:=by have:=zds kvs k v;omega
  refine wpAny_setItem_heap (hsz:=i) (ybD hu) (zeW I.hok p) dd fun h' d hs=>h _ ?_
  obtain⟨q,es,C,f,h2,B,x,_,t⟩:=d;refine zgu I (by rw[e];exact True.intro) hs ⟨q,f⟩ ⟨j,hd,_,(rel.put k p U).keeps fun c ys o=>?_,q,es,C,f,h2,B,x,t⟩;rw[zab (zvI o e (fun z=>nomatch z))];exact o
end
section
variable{X:Cx}{pins:Z3}{σ:St}{H:Hp}{s:Shared}{a:Addr}{kvs:List (Key×V)}{k:Key}{u:Value}{A:Around}{E:Z5}
def zwi{v:V}{more:List Value}{Q:Z5}(I:Inv X pins σ H s)(e:H a=some (.dK kvs))(J:zaZ (kV k) u)(l:zeD kvs k=some v)(hm:more=[]\/∃x,more=[x])
  (h:∀w' s',Inv X pins σ (upd H a (.dK (zfg kvs k))) s'->zaZ v w'->Q w' s'):wpAny (model X.prog X.w) A (call (.builtin "dict.pop") (.ref a::u::more)) Q E s:=by
 obtain⟨z,hd,vs,rel,dd⟩:=zn7 I.hok e;obtain⟨w',d,c⟩:=zfR.some_of (v:=v) (o:=valueAt vs k) (by rw[<-l];exact rel.val k)
 have g:(keyPart u).isSome=true:=by
  cases k with
  |inl i=>obtain⟨t,q⟩:=(show ∃t,u=Value.int i t from J);subst q;rfl|inr x=>obtain⟨t,q⟩:=(show ∃t,u=Value.str x t from J);subst q;rfl
 have j:argsOk "dict.pop" ⟨.ref a::u::more,[]⟩:=by
  rcases hm with q|⟨x,q⟩
  ·subst q;exact PySem.F.args_dict_pop_2 _ _
  ·subst q;exact PySem.F.args_dict_pop_3 _ _ _
 refine ycK ycL dd.typeIs PySem.F.entry_dict_pop j (meets_dict_pop_there (zaH X.prog X.w) a (zfp J) more hm g)
  ⟨vs,w',dd,by rw[<-rel.length];exact z,d,fun h' b hs=>h w' _ ?_ c⟩
 have he:∃q,h'.get? a=some q:=let ⟨q,_,_,f,_⟩:=b;⟨q,f⟩
 exact zgu I (by rw[e];exact True.intro) hs he (zmj (yav (zn6 kvs k) z) hd (rel.drop k) b)
def zt1{r:Value}{Q:Z5}(I:Inv X pins σ H s)(e:H a=some (.dK kvs))(J:zaZ (kV k) u)(l:zeD kvs k=none)(h:∀s',Inv X pins σ H s'->Q r s'):
  wpAny (model X.prog X.w) A (call (.builtin "dict.pop") [.ref a,u,r]) Q E s:=by
 obtain⟨z,hd,vs,rel,dd⟩:=zn7 I.hok e;have c:valueAt vs k=none:=zfR.none_of (by rw[<-l];exact rel.val k)
 have b:(keyPart u).isSome=true:=by
  cases k with
  |inl i=>obtain⟨t,q⟩:=(show ∃t,u=Value.int i t from J);subst q;rfl|inr x=>obtain⟨t,q⟩:=(show ∃t,u=Value.str x t from J);subst q;rfl
 exact ycK ycL dd.typeIs PySem.F.entry_dict_pop (PySem.F.args_dict_pop_3 _ _ _) (meets_dict_pop_default (zaH X.prog X.w) a (zfp J) hd b r) ⟨vs,dd,c,h _ (I.tok _)⟩
end
noncomputable def zwu(i:Expr):Prop:=∀a b,subscripted i false a b=operate [a,b] (getItem a b)
def zpB{prog:Program}{w:World}{A:Around}{E:Z5}{s:Shared}{env:Env}{value slice:Expr}{pos:Pos}{T id:String}{Q:Z5}
  (U:typeLookup (.type T) "__getitem__"=pure (some (.builtin id))) (hs:zwu slice)
  (h:wpAny (model prog w) A (eval value env) (fun o J=>wpAny (model prog w) A (eval slice env) (fun i I=>I.TypeIs o T/\wpAny (model prog w) A (getItem o i) Q E I) E J) E s):
  wpAny (model prog w) A (eval (.Subscript value slice pos) env) Q E s:=by
 refine Subscript_ (ya0 h (fun o J d=>ya0 d (fun i I a=>?_) fun _ _ x=>x) fun _ _ x=>x);obtain⟨e,a⟩:=a;unfold subscriptTail;refine yac ?_;rw[getitemInPython_of_ne e.not_modules];refine yac (wpAny_specialOf e U ?_)
 have fin:wpAny (model prog w) A (subscripted slice false o i) (fun r b=>wpAny (model prog w) A (letTemporaryGo value o r >>= fun _=>pure r) Q E b) E I:=by
  rw[hs o i];exact wpAny_operating (ya0 a (fun r b c=>yac (wpAny_letTemporaryGo (yak c))) fun _ _ x=>x)
 first
  |exact yak (yac fin)
  |exact yac (yak (yac fin))
  |exact yac fin
def zij{X:Cx}{pins:Z3}{σ:St}{H:Hp}{s:Shared}{a:Addr}{y:V}{o:Option V}(I:Inv X pins σ H s)(g:zix H a y o):s.TypeIs (.ref a) "dict":=by
 rcases g with⟨kvs,k,e,_,_⟩|⟨kvs,k,b,e,_,_,_⟩
 ·obtain⟨_,_,vs,_,dd⟩:=zgs I.hok e;exact dd.typeIs
 ·obtain⟨_,_,xs,_,dd⟩:=zho I.hok e;exact dd.typeIs
noncomputable def zvc(td ty:TE):TE:=fun σ H Q=>td σ H fun x H1=>ty σ H1 fun y H2=>∃a v,x=.ref a/\zix H2 a y (some v)/\Q v H2
noncomputable def zw5(ty td:TE):TE:=fun σ H Q=>ty σ H fun y H1=>td σ H1 fun x H2=>∃a o,x=.ref a/\zix H2 a y o/\Q (.bl o.isSome) H2
noncomputable def zkJ(ty td:TE):TE:=fun σ H Q=>ty σ H fun y H1=>td σ H1 fun x H2=>∃a o,x=.ref a/\zix H2 a y o/\Q (.bl (!o.isSome)) H2
noncomputable def zvo(td ty tv:TE):TS:=fun D σ H=>tv σ H fun v H1=>td σ H1 fun x H2=>ty σ H2 fun y c=>∃a b,x=.ref a/\zru c a y v b/\D.nx σ b
section
variable{X:Cx}{o i e value:Expr}{pos pos' tpos:Pos}{td ty tv:TE}
def zqt(J:X.A.units+1<cLine)(ho:PE X o td)(hi:PE X i ty)(hs:zwu i):PE X (.Subscript o i pos) (zvc td ty):=by
 intro pins s σ H Q I h;refine zpB PySem.F.slot_dict_getitem.lookup hs (thn (ho pins s σ H _ I h) fun u s1 ⟨x,H1,l,e,j⟩=>thn (hi pins s1 σ H1 _ l j) fun n s2 ⟨y,H2,c,d,a,v,ex,g,f⟩=>?_);subst ex;obtain rfl:u=Value.ref a:=e;exact⟨zij c g,zmm J c g d fun w' m k b=>⟨v,H2,k,b,f⟩⟩
def zoQ(J:X.A.units+1<cLine)(hi:PE X i ty)(ho:PE X o td):PC X .In i o (zw5 ty td):=by
 intro pins s σ H Q I h;refine thn (hi pins s σ H _ I h) fun n s1 ⟨y,H1,l,b,e⟩=>thn (ho pins s1 σ H1 _ l e) fun u s2 ⟨x,H2,k,c,a,f,ex,g,d⟩=>?_
 subst ex;obtain rfl:u=Value.ref a:=c;exact zzK J k g b fun m j=>⟨.bl f.isSome,H2,j,rfl,d⟩
def zg2(J:X.A.units+1<cLine)(hi:PE X i ty)(ho:PE X o td):PC X .NotIn i o (zkJ ty td):=by
 intro pins s σ H Q I h;refine thn (hi pins s σ H _ I h) fun n s1 ⟨y,H1,l,b,e⟩=>thn (ho pins s1 σ H1 _ l e) fun u s2 ⟨x,H2,k,c,a,f,ex,g,d⟩=>?_
 subst ex;obtain rfl:u=Value.ref a:=c;exact zri J k g b fun m j=>⟨.bl (!f.isSome),H2,j,rfl,d⟩
def zqi(J:X.A.units+1<cLine)(ho:PE X o td)(hi:PE X i ty)(hv:PE X value tv)(hs:swapsWith value (some (.Subscript o i pos')) pos.line X.env=pure false):
  PS X (.Assign [.Subscript o i pos'] value pos) (zvo td ty tv):=by
 intro pins s σ H D I h;refine wpAny_Assign_Subscript (thn (hv pins s σ H _ I h) fun r s1 ⟨v,H1,n,d,j⟩=>thn (ho pins s1 σ H1 _ n j) fun u s2 ⟨x,H2,m,c,f⟩=>thn (hi pins s2 σ H2 _ m f) fun w t ⟨y,z,l,b,a,p,ex,g,e⟩=>?_) hs;subst ex;obtain rfl:u=Value.ref a:=c;exact zhr J l g b d fun q k=>⟨σ,p,k,e⟩
end
def zjx{P:Program}{w:World}{H:Hp}(h:Heap)(hb:sysModules<h.objs.size):zbg P w H (h.push {cls:=.type "dict",data:=.dict #[]}) h.objs.size (.dK []):=
 ⟨yaJ _,ybi.mpr (Ne.symm (yaB hb)),[],.nil,Heap.DictOf.new h⟩
noncomputable def zrM:TE:=fun _ H Q=>∀p,H p=none->Q (.ref p) (upd H p (.dK []))
section
variable{X:Cx}{pos:Pos}
def zi5:PE X (.Dict [] [] pos) zrM:=fun pins s σ H Q I h=>
 wpAny_Dict_empty ⟨.ref s.heap.objs.size,_,I.laid (a:=s.heap.objs.size) (o:=.dK []) (t':=s.toks) (fun _ _ q=>yag _ q) (yai _) (zjx s.heap I.big),rfl,h _ (I.hok.fresh (yai _))⟩
end
noncomputable def zkG:List (TE×TE)->St->Hp->(List (V×V)->Hp->Prop)->Prop
 |[],_,H,Q=>Q [] H|(tk,tv)::r,σ,H,Q=>tk σ H fun x H1=>tv σ H1 fun y H2=>zkG r σ H2 fun ps a=>Q ((x,y)::ps) a
noncomputable abbrev VV:List (V×V)->List (Value×Value)->Prop:=Paired fun p q=>zaZ p.1 q.1/\zaZ p.2 q.2
noncomputable def PPs(X:Cx)(pos:Pos)(keys:List (Option Expr))(values:List Expr)(I:List (TE×TE)):Prop:=
 ∀(pins:Z3) (s:Shared) (σ:St) (H:Hp) (Q:List (V×V)->Hp->Prop),Inv X pins σ H s->zkG I σ H Q →
  wpAny (model X.prog X.w) X.A (evalPairs (pairTrees keys values X.env pos)) (fun vs s'=>∃ps H',Inv X pins σ H' s'/\VV ps vs/\Q ps H') X.xe s
def zqk{X:Cx}{pos:Pos}:PPs X pos [] [] []:=fun pins s σ H Q I h=>pairTrees_nil_walk ⟨[],H,I,.nil,h⟩
def znc{X:Cx}{pos:Pos}{k v:Expr}{ks:List (Option Expr)}{vs:List Expr}{tk tv:TE}{J:List (TE×TE)}(hk:PE X k tk)(hv:PE X v tv)(U:PPs X pos ks vs J):
  PPs X pos (some k::ks) (v::vs) ((tk,tv)::J):=fun pins s σ H Q I h=>
 pairTrees_cons_walk (thn (hk pins s σ H _ I h) fun u s1 ⟨x,H1,i,b,e⟩=>thn (hv pins s1 σ H1 _ i e) fun m s2 ⟨y,H2,g,a,d⟩=>
  thn (U pins s2 σ H2 _ g d) fun l n ⟨ps,j,f,rel,c⟩=>⟨(x,y)::ps,j,f,.cons ⟨b,a⟩ rel,c⟩)
noncomputable def zfB(kvs more:List (Key×V)):List (Key×V):=more.foldl (fun acc a=>zf7 acc a.1 a.2) kvs
def KV.merge:∀{more:List (Key×V)}{rs:List (Key×Value)}{kvs:List (Key×V)}{vs:List (Key×Value)},KV more rs->KV kvs vs->KV (zfB kvs more) (merged vs rs):=by
 intro more rs kvs vs r;unfold KV at r
 induction r generalizing kvs vs with
 |nil=>intro q;exact q| @cons p q ps qs h t b=>
  intro a
  have e:KV (zf7 kvs p.1 p.2) (stored vs q.1 q.2):=by
   have:=a.put p.1 h.2;rw[<-h.1];exact this
  exact b e
theorem zdQ:∀(more kvs:List (Key×V)),(zfB kvs more).length<=kvs.length+more.length
 |[],kvs=>by show kvs.length<=kvs.length+0;omega
 |p::r,kvs=>by
  have h1:=zdQ r (zf7 kvs p.1 p.2);have h2:=zds kvs p.1 p.2;show(zfB (zf7 kvs p.1 p.2) r).length<=_;rw[yad];omega
theorem zfP{P:Program}{w:World}:∀{kvs:List (Key×V)}{I:List (Value×Value)},VV (kvs.map fun J=>(kV J.1,J.2)) I->∃rs,Carries (zaH P w) I rs/\KV kvs rs
 |[],_,r=>by rw[List.map_nil]at r;cases r;exact⟨[],True.intro,.nil⟩
 |p::kvs,_,r=>by
  rw[yar]at r
  cases r with
  | @cons a b as bs h t=>
   obtain⟨rs,c,q⟩:=zfP (P:=P) (w:=w) t;obtain⟨b1,b2⟩:=b;exact⟨(p.1,b2)::rs,⟨zfp h.1,rfl,c⟩,.cons ⟨rfl,h.2⟩ q⟩
noncomputable def zvb(I:List (TE×TE)):TE:=fun σ H Q=>∀p,H p=none->zkG I σ (upd H p (.dK [])) fun ps H2=>H2 p=some (.dK [])/\∃kvs:List (Key×V),ps=kvs.map (fun a=>(kV a.1,a.2))/\kvs.length<=15/\Q (.ref p) (upd H2 p (.dK (zfB [] kvs)))
def zqs{X:Cx}{pos:Pos}{keys:List (Option Expr)}{values:List Expr}{J:List (TE×TE)}(h:PPs X pos keys values J)(U:keys.all (·.isSome)=true)(hl:keys.length=values.length)(h0:keys≠[])
  (a3:keys.length<=15):PE X (.Dict keys values pos) (zvb J):=by
 intro pins s σ H Q I q;have m:=I.hok.fresh (yai s.heap.objs.size);have p:=I.laid (a:=s.heap.objs.size) (o:=.dK []) (h':=s.heap.push {cls:=.type "dict",data:=.dict #[]}) (t':=s.toks) (fun _ _ q=>yag _ q) (yai _) (zjx s.heap I.big);refine wpAny_Dict_walk (knd:=zaH X.prog X.w) U hl h0 a3 (thn (h pins _ σ _ _ p (q _ m)) fun r s2 ⟨ps,H2,d,rel,e,kvs,n,t,j⟩=>?_);subst n;obtain⟨rs,c,g⟩:=zfP (P:=X.prog) (w:=X.w) rel;obtain⟨z,hd,f,i,dd⟩:=zn7 d.hok e;cases i;refine⟨rs,c,dd,fun h' b hs=>⟨.ref s.heap.objs.size,_,?_,rfl,j⟩⟩
 have k:(zfB [] kvs).length<=sizeLine:=by
  have h1:=zdQ kvs [];rw[yb5]at h1;rw[ycU];omega
 have he:∃q,h'.get? s.heap.objs.size=some q:=let ⟨q,_,_,l,_⟩:=b;⟨q,l⟩
 exact zgu d (by rw[e];exact True.intro) hs he (zmj k hd (g.merge .nil) b)
structure M1(X:Cx)(o:Expr)(m:Str)(apos:Pos)(e:Expr)(cpos:Pos):Prop where
 base:attributeBase o m X.env (eval o X.env)=eval o X.env
 few:((backTo cpos (starEach [e] X.env)).all (fun x=>!x.1)&&(backToKw cpos (keywordEach [] X.env)).all (fun x=>x.1.isSome)
  && decide (([e]:List Expr).length+([]:List Keyword).length+(if([]:List Keyword).isEmpty then 0 else 1)<30))=true
 line:(apos.endLine==cpos.line)=true
 trees:backTo cpos (starEach [e] X.env)=[(false,eval e X.env)]
structure M2(X:Cx)(o:Expr)(m:Str)(apos:Pos)(e f:Expr)(cpos:Pos):Prop where
 base:attributeBase o m X.env (eval o X.env)=eval o X.env
 few:((backTo cpos (starEach [e,f] X.env)).all (fun x=>!x.1)&&(backToKw cpos (keywordEach [] X.env)).all (fun x=>x.1.isSome)
  && decide (([e,f]:List Expr).length+([]:List Keyword).length+(if([]:List Keyword).isEmpty then 0 else 1)<30))=true
 line:(apos.endLine==cpos.line)=true
 trees:backTo cpos (starEach [e,f] X.env)=[(false,eval e X.env),(false,eval f X.env)]
noncomputable def IsD(H:Hp)(a:Addr):Prop:=(∃kvs,Rd H a (.dK kvs))\/∃kvs,Rd H a (.dT kvs)
def zlY{X:Cx}{pins:Z3}{σ:St}{H:Hp}{s:Shared}{a:Addr}(I:Inv X pins σ H s)(d:IsD H a):
  s.TypeIs (.ref a) "dict" /\ (∀b,Value.ref a=.ref b->∃ob,s.heap.get? b=some ob/\ob.dict=none)/\(a==sysModules)=false:=by
 rcases d with⟨kvs,e⟩|⟨kvs,e⟩
 ·obtain⟨_,hd,vs,_,dd⟩:=zgs I.hok e;refine⟨dd.typeIs,fun b q=>?_,hd⟩;cases q;obtain⟨ob,_,_,h1,h2,_⟩:=dd;exact⟨ob,h1,h2.2.1⟩
 ·obtain⟨_,hd,xs,_,dd⟩:=zho I.hok e;refine⟨dd.typeIs,fun b q=>?_,hd⟩;cases q;obtain⟨ob,_,_,h1,h2,_⟩:=dd;exact⟨ob,h1,h2.2.1⟩
section
variable{X:Cx}{pins:Z3}{σ:St}{H:Hp}{s:Shared}{a:Addr}{y d:V}{u r:Value}{o:Option V}{A:Around}{E:Z5}
def zt3{Q:Z5}(U:A.units+1<cLine)(I:Inv X pins σ H s)(g:zix H a y o)(J:zaZ y u)(h:∀w' s',Inv X pins σ H s'->zaZ (o.getD .non) w'->Q w' s'):
  wpAny (model X.prog X.w) A (call (.builtin "dict.get") [.ref a,u]) Q E s:=by
 rcases g with⟨kvs,k,e,c,l⟩|⟨kvs,k,b,e,c,d,l⟩
 ·subst c;obtain⟨z,hd,vs,rel,dd⟩:=zgs I.hok e;refine ycK ybm dd.typeIs ybW (PySem.F.args_dict_get_2 _ _) (meets_dict_get (zaH X.prog X.w) a (zfp J) hd) ⟨_,dd.mapOf,h _ _ (I.tok _) ?_⟩;rw[l];exact(rel.val k).getD rfl
 ·subst c;cases (show u=Value.ref b from J);obtain⟨z,hd,xs,rel,dd⟩:=zho I.hok e;refine ycK ybm dd.typeIs ybW (PySem.F.args_dict_get_2 _ _) (meetsH_dict_get (tupleKind (zaH X.prog X.w)) a b hd) ⟨ybD U,k,xs,zeW I.hok d,dd,h _ _ (I.tok _) ?_⟩;rw[l];exact(rel.val k).getD rfl
def zt2{Q:Z5}(U:A.units+1<cLine)(I:Inv X pins σ H s)(g:zix H a y o)(J:zaZ y u)(rd:zaZ d r)(h:∀w' s',Inv X pins σ H s'->zaZ (o.getD d) w'->Q w' s'):
  wpAny (model X.prog X.w) A (call (.builtin "dict.get") [.ref a,u,r]) Q E s:=by
 rcases g with⟨kvs,k,e,c,l⟩|⟨kvs,k,b,e,c,f,l⟩
 ·subst c;obtain⟨z,hd,vs,rel,dd⟩:=zgs I.hok e;refine ycK ybm dd.typeIs ybW (PySem.F.args_dict_get_3 _ _ _) (meets_dict_get_default (zaH X.prog X.w) a (zfp J) hd r) ⟨_,dd.mapOf,h _ _ (I.tok _) ?_⟩;rw[l];exact(rel.val k).getD rd
 ·subst c;cases (show u=Value.ref b from J);obtain⟨z,hd,xs,rel,dd⟩:=zho I.hok e;refine ycK ybm dd.typeIs ybW (PySem.F.args_dict_get_3 _ _ _) (meetsH_dict_get_default (tupleKind (zaH X.prog X.w)) a b hd r) ⟨ybD U,k,xs,zeW I.hok f,dd,h _ _ (I.tok _) ?_⟩;rw[l];exact(rel.val k).getD rd
end
noncomputable def zrO(td ty:TE):TE:=fun σ H Q=>td σ H fun x H1=>∃a,x=.ref a/\IsD H1 a/\ty σ H1 fun y H2=>∃o,zix H2 a y o/\Q (o.getD .non) H2
noncomputable def zrN(td ty tx:TE):TE:=fun σ H Q=>td σ H fun x H1=>∃a,x=.ref a/\IsD H1 a/\ty σ H1 fun y H2=>tx σ H2 fun z b=>∃o,zix b a y o/\Q (o.getD z) b
noncomputable def zrL(td ty tx:TE):TE:=fun σ H Q=>td σ H fun x H1=>∃a,x=.ref a/\IsD H1 a/\ty σ H1 fun y H2=>tx σ H2 fun z b=>∃kvs k,b a=some (.dK kvs)/\y=kV k ∧
 (∀v,zeD kvs k=some v->Q v (upd b a (.dK (zfg kvs k))))/\(zeD kvs k=none->Q z b)
section
variable{X:Cx}{o e f:Expr}{apos cpos:Pos}{td ty tx:TE}
def zno(J:X.A.units+1<cLine)(ho:PE X o td)(he:PE X e ty)(m:M1 X o "get" apos e cpos):PE X (.Call (.Attribute o "get" apos) [e] [] cpos) (zrO td ty):=by
 intro pins s σ H Q I h;refine ydc m.base m.few m.line ycr ybm PySem.F.type_dict_get (thn (ho pins s σ H _ I h) fun u s1 ⟨x,H1,c,j,a,ex,d,l⟩=>?_);subst ex;obtain rfl:u=Value.ref a:=j;obtain⟨t1,f,_⟩:=zlY c d;refine⟨t1,f,?_⟩;rw[m.trees];refine ybv rfl (ybJ (ybB (thn (he pins s1 σ H1 _ c l) fun t s2 ⟨y,H2,p,i,r,g,k⟩=>ycC ?_)));exact zt3 J p g i fun w' q n b=>⟨_,H2,n,b,k⟩
def znn(J:X.A.units+1<cLine)(ho:PE X o td)(he:PE X e ty)(hf:PE X f tx)(m:M2 X o "get" apos e f cpos):PE X (.Call (.Attribute o "get" apos) [e,f] [] cpos) (zrN td ty tx):=by
 intro pins s σ H Q I h;refine ydc m.base m.few m.line ycr ybm PySem.F.type_dict_get (thn (ho pins s σ H _ I h) fun u s1 ⟨x,H1,c,k,a,ex,d,p⟩=>?_);subst ex;obtain rfl:u=Value.ref a:=k;obtain⟨t1,i,_⟩:=zlY c d;refine⟨t1,i,?_⟩;rw[m.trees]
 refine ybv rfl (ybJ (ybB (thn (he pins s1 σ H1 _ c p) fun D s2 ⟨y,H2,t,j,n⟩=>
  ybB (thn (hf pins s2 σ H2 _ t n) fun E B ⟨z,v,r,rz,C,g,l⟩=>ycC ?_))))
 exact zt2 J r g j rz fun w' w q b=>⟨_,v,q,b,l⟩
def znm(ho:PE X o td)(he:PE X e ty)(hf:PE X f tx)(m:M2 X o "pop" apos e f cpos):PE X (.Call (.Attribute o "pop" apos) [e,f] [] cpos) (zrL td ty tx):=by
 intro pins s σ H Q I h;refine ydc m.base m.few m.line ycr ycL PySem.F.type_dict_pop (thn (ho pins s σ H _ I h) fun u s1 ⟨x,H1,n,r,a,ex,d,B⟩=>?_);subst ex;obtain rfl:u=Value.ref a:=r;obtain⟨t1,p,_⟩:=zlY n d;refine⟨t1,p,?_⟩;rw[m.trees]
 refine ybv rfl (ybJ (ybB (thn (he pins s1 σ H1 _ n B) fun K s2 ⟨y,H2,E,g,A⟩=>
  ybB (thn (hf pins s2 σ H2 _ E A) fun C J ⟨z,G,j,rz,kvs,k,i,D,w,t⟩=>ycC ?_))))
 subst D
 cases l:zeD kvs k with
 |some v=>exact zwi j i g l (.inr ⟨C,rfl⟩) fun w' q c b=>⟨v,_,c,b,w v l⟩|none=>exact zt1 j i g l fun q c=>⟨z,G,c,rz,t l⟩
end
noncomputable def zhs(CX:CXT)(P:Program)(w:World)(K:PySem.W.Frag)(mg:Z6)(base:Heap)(N:List Str)(qual:Str)(scope:Scope)(f:Addr)(cd:Value)(clos:List (Str×Addr))(A:Around)(outer:List Env)(s:Shared)(H:Hp)(E:XK):Cx where
 prog:=P
 w:=w
 K:=K
 mg:=mg
 base:=base
 A:=A.deeper (PySem.W.envX qual scope s.heap.objs.size f cd clos)
 N:=N
 s₀:=s
 H₀:=H
 env:=PySem.W.envX qual scope s.heap.objs.size f cd clos
 outer:=outer
 stack:=PySem.W.envX qual scope s.heap.objs.size f cd clos::outer
 ex:=[]
 calm:=true
 fn:=fun _=>false
 pn:=[]
 xe:=fun e s'=>wpAny (model P w) (A.deeper (PySem.W.envX qual scope s.heap.objs.size f cd clos)) (leaving (PySem.W.envX qual scope s.heap.objs.size f cd clos) e) (fun _ a=>CX outer H s E e a) (fun b a=>CX outer H s E b a) s'
structure LamSc(N:List Str)(sc:Scope):Prop where
 kind:sc.kind=.function
 co:sc.isCoroutine=false
 gen:sc.isGenerator=false
 nocell:∀y∈sc.names,y.2≠.cell
 free:∀x∈N,sc.names.lookup x=some .free
structure LamAt(h:Heap)(H:Hp)(f:Addr)(params:Arguments)(qual:Str)(body:Expr)(sc:Scope)(N:List Str)(vs:List V)(clos:List (Str×Addr))(c:Addr)(pm ctv:Value):Prop where
 fn:h.get? f=some (PySem.W.kla_obj "<lambda>" qual params body sc clos pm c ctv)
 code:h.CodeRec (.ref c) qual
 inj:∀x y a,clos.lookup x=some a->clos.lookup y=some a->x=y
 has:∀x,sc.names.lookup x=some .free->∃a,clos.lookup x=some a
 cell:∀x a,clos.lookup x=some a->H a=none/\∃v,h.IsCell a v
 val:∀(i:Nat) (x:Str) (v:V),N[i]?=some x->vs[i]?=some v->∃u a,zaZ v u/\clos.lookup x=some a/\h.IsCell a (some u)
 len:vs.length=N.length
def LamAt.keep{h h':Heap}{H H':Hp}{f:Addr}{params:Arguments}{qual:Str}{body:Expr}{sc:Scope}{N:List Str}{vs:List V}{clos:List (Str×Addr)}{c:Addr}{pm ctv:Value}
  (L:LamAt h H f params qual body sc N vs clos c pm ctv) (I:∀o,h.get? f=some o->h'.get? f=some o) (J:∀o,h.get? c=some o->h'.get? c=some o) (k:∀x a o,clos.lookup x=some a->h.get? a=some o->h'.get? a=some o/\H' a=none):LamAt h' H' f params qual body sc N vs clos c pm ctv:=by
 obtain⟨f1,⟨c',oc,us,t,m,c1,c2⟩,i,hs,ce,g,l⟩:=L;cases m;refine⟨I _ f1,⟨_,oc,us,t,rfl,J _ c1,c2⟩,i,hs,fun x a e=>?_,fun j x v n e2=>?_,l⟩
 ·obtain⟨h1,v,o,b,d⟩:=ce x a e;exact⟨(k _ _ _ e b).2,v,o,(k _ _ _ e b).1,d⟩
 ·obtain⟨u,a,r,e,o,b,d⟩:=g j x v n e2;exact⟨u,a,r,e,o,(k _ _ _ e b).1,d⟩
def zlI{CX:CXT}{P:Program}{w:World}{K:PySem.W.Frag}{mg:Z6}{base:Heap}{N:List Str}{qual:Str}{params:Arguments}{body:Expr}{sc:Scope}{f c:Addr}{clos:List (Str×Addr)}{A:Around}{outer:List Env}{s:Shared}{h1:Heap}{tk:Nat}{H:Hp}{E:XK}{vs:List V}{pm ctv:Value}
  (S:LamSc N sc) (hd:A.handled=none) (I:Env0 P w K mg base A outer s H) (L:LamAt s.heap H f params qual body sc N vs clos c pm ctv) (J:h1.Ns s.heap.objs.size (fun _=>none)) (hk:∀b o,s.heap.get? b=some o->h1.get? b=some o):
  Inv (zhs CX P w K mg base N qual sc f (.ref c) clos A outer s H E) [] (vs.map some) H {s with heap:=h1,toks:=tk}:=by
 have d:∀b:Addr,b ∉ (zhs CX P w K mg base N qual sc f (.ref c) clos A outer s H E).ex:=fun b z=>absurd (show b∈([]:List Addr)from z) (by simp)
 refine⟨⟨I.mod,S.kind,rfl,rfl,yai _,fun y z a h1 h2=>L.inj y z a h1 h2,fun y g=>?_,(fun y a h _=>by cases h),fun _=>hd,Around.frames_deeper I.frames,.inr ⟨rfl,rfl⟩,fun b z=>absurd z (d b),I.bs,I.bsz,fun b _ _=>d b,fun b z=>absurd z (d b),I.funs,I.frf⟩,
  rfl,I.bare,Un.kept hk,⟨_,J,fun i y v h1 h2 j=>?_⟩,fun y a h=>?_,I.hok.fresh (yai _),fun y a h=>(L.cell y a h).1,fun p l=>absurd (show p∈([]:Z3)from l) (by simp),I.hok.kept hk,?_⟩
 ·rcases(g:sc.names.lookup y=some .cell\/sc.names.lookup y=some .free)with g|g
  ·exact absurd rfl (S.nocell _ (yaC g))
  ·exact L.has y g
 ·rw[yaM]at h2
  cases e:vs[i]? with
  |none=>rw[e]at h2;cases h2|some x=>
   rw[e]at h2;cases h2;obtain⟨u,a,r,m,o,j,k⟩:=L.val i y v h1 e;exact⟨u,r,.inr ⟨.inr (S.free y (ya4 h1)),a,m,o,hk _ _ j,k⟩⟩
 ·obtain⟨_,v,o,j,k⟩:=L.cell y a h;exact⟨v,o,hk _ _ j,k⟩
 ·show(vs.map some).length=N.length;rw[yab,L.len]
def zqL{CX:CXT}{P:Program}{w:World}{K:PySem.W.Frag}{mg:Z6}{base:Heap}{k:Nat}{N:List Str}{qual:Str}{params:Arguments}{body:Expr}{sc:Scope}{f c:Addr}{clos:List (Str×Addr)}{A:Around}{outer:List Env}{s:Shared}{H:Hp}{E:XK}{Q:VK}{vs:List V}{pm ctv:Value}{te:TE}
  (S:LamSc N sc) (U:Room (k+1) A) (e0:Env0 P w K mg base A outer s H) (L:LamAt s.heap H f params qual body sc N vs clos c pm ctv) (hb:bindArgs (PySem.W.kla_fn "<lambda>" qual params body sc clos pm (.ref c) ctv) ⟨[],[]⟩=pure [])
  (hp:Room k (A.deeper (PySem.W.envX qual sc s.heap.objs.size f (.ref c) clos))->PE (zhs CX P w K mg base N qual sc f (.ref c) clos A outer s H E) body te) (hq:te (vs.map some) H Q):
  codeAny (model P w) A (.call (.ref f) ⟨[],[]⟩) (CR CX outer P w H s Q E) s:=by
 have lim:s.heap.NoLimit:=e0.mod.nolimit.keeps fun b o e=>(e0.bs b o e).1
 refine PySem.W.kla_callFunE U.depth L.fn rfl S.co S.gen rfl L.code ?_;rw[hb];refine yak (wpAny_newFunctionEnv S.nocell (fun _ z=>by cases z) (fun a g d=>⟨lim.fresh _ d,?_⟩) S.kind);have hk:∀b o,s.heap.get? b=some o->a.get? b=some o:=fun b o e=>d.extBut b o (yaB (yau e)) (yag _ e)
 show codeAny _ _ (.expr body (PySem.W.envX qual sc s.heap.objs.size f (.ref c) clos)) _ _;have I:=zlI (CX:=CX) (E:=E) (tk:=s.toks+0) S U.hd e0 L g hk;refine PySem.W.kla_codeExpr (ya0 (hp (U.deeper _) [] _ _ H Q I hq) (fun u s' ⟨v,H',J,h,q⟩=>?_) fun e s' hs=>hs);exact⟨v,H',J.os,J.bare,J.base,J.hok,h,q⟩
section
variable{X:Cx}{CX:CXT}{k:Nat}{N:List Str}{qual x:Str}{params:Arguments}{body:Expr}{sc:Scope}{f c:Addr}{clos:List (Str×Addr)}{E:XK}{vs:List V}{pm ctv:Value}{of oc:Obj}{uf uc:HO}{te:TE}{p pos:Pos}{i:Nat}
def Inv.lamAt{pins:Z3}{σ:St}{H:Hp}{s:Shared}(I:Inv X pins σ H s)(L:LamAt X.s₀.heap X.H₀ f params qual body sc N vs clos c pm ctv)(hf:X.H₀ f=some (.frz of uf))(U:X.H₀ c=some (.frz oc uc))(h0:HOk X.prog X.w X.H₀ X.s₀.heap)
  (J:∀x a,clos.lookup x=some a->a ∉ X.fs/\a ∉ X.ex):LamAt s.heap H f params qual body sc N vs clos c pm ctv:=by
 have fz:∀b ob u,X.H₀ b=some (.frz ob u)->∀o,X.s₀.heap.get? b=some o->s.heap.get? b=some o:=fun b ob u e o g=>by
  have d:=(h0 b _ e).1;have e2:=(I.hok b _ (I.base.frzs b ob u e)).1;rw[d]at g;cases g;exact e2
 exact L.keep (fz f of uf hf) (fz c oc uc U) fun y a o e g=>⟨I.base.keep a o g (L.cell y a e).1 (J y a e).1 (J y a e).2,I.base.free a o g (L.cell y a e).1 (J y a e).2⟩
end
section
variable{X:Cx}{pins:Z3}{σ:St}{H:Hp}{s:Shared}{P c:Addr}{ps more:Array Value}{h':Heap}{t':Nat}
def Inv.tblUp(I:Inv X pins σ H s)(J:H P=some (.tbl ps))(U:Heap.ExtBut P s.heap h')(ht:h'.get? P=some (PySem.W.tabObj (ps++more))):Inv X pins σ (upd H P (.tbl (ps++more))) {s with heap:=h',toks:=t'}:=by
 have ne:∀b,H b=none->b≠P:=fun b e z=>by rw[z,J]at e;cases e
 refine I.un ⟨fun b o e n _ _=>U b o (ne b n) e,fun b o e n _ _=>⟨o.slots,U b o (ne b n) e⟩,fun b o e n _=>by rw[zab (ne b n)];exact n,fun b o e _=>?_,fun b xs e=>?_,fun b o u e=>?_,fun b qs e=>?_⟩ fun b u q=>?_
 ·by_cases hb:b=P
  ·exact⟨_,hb ▸ ht⟩
  ·exact⟨o,U b o hb e⟩
 ·rw[zab (fun z=>by rw[z,J]at e;cases e)];exact e
 ·rw[zab (fun z=>by rw[z,J]at e;cases e)];exact e
 ·by_cases hb:b=P
  ·subst hb;rw[J]at e;cases e;exact⟨more,zao⟩
  ·exact⟨#[],by rw[zab hb,e];simp⟩
 ·by_cases hb:b=P
  ·subst hb;rw[zao]at q;cases q;exact ht
  ·rw[zab hb]at q
   refine(I.hok b u q).stay (fun d v hd r=>U d v ?_ r) (fun d r=>by rw[zab (fun z=>by rw[z,J]at r;cases r)];exact r) fun d xs r=>by rw[zab (fun z=>by rw[z,J]at r;cases r)];exact r
   rcases hd with rfl|hd
   ·exact hb
   ·exact fun z=>by rw[z,J]at hd;cases hd
end
noncomputable def zjE(qual:Str)(oc:Obj):Prop:=∃us t,oc.data=.fields us/\us[1]?=some (.str qual t)
noncomputable def zoq(mg:Z6)(h:Heap):Prop:=∃bm ob,mg "__builtins__"=some (.ref bm)/\bm≠builtinsNs/\h.get? bm=some ob/\ob.cls=.type "module" /\ ob.dict=some builtinsNs/\ob.data=.plain
noncomputable def zyx(P:Addr)(pos:Pos)(fo:Addr->Value->Obj)(qual:Str):TE:=fun σ H Q=>∃ps,H P=some (.tbl ps)/\TriplesOk ps.toList ∧
 (codeAmong pos ps.toList=none->∀f c oc ctv,H f=none->H c=none->f≠c->zjE qual oc →
  Q (.ref f) (upd (upd (upd H P (.tbl (ps++#[rawInt pos.line,rawInt pos.col,.ref c]))) c (.frz oc (.own c))) f (.frz (fo c ctv) (.own f)))) ∧
 ∀a,codeAmong pos ps.toList=some a->∃c oc,a=.ref c/\H c=some (.frz oc (.own c))/\zjE qual oc/\∀f ctv,H f=none->Q (.ref f) (upd H f (.frz (fo c ctv) (.own f)))
def zsI{X:Cx}{params:Arguments}{body:Expr}{sc:Scope}{pos:Pos}{cd P:Addr}{clos:List (Str×Addr)}(hcd:X.env.code=.ref cd)(hC:PySem.W.CodeHd X.base cd P)(hB:zoq X.mg X.base)(U:closureFor sc X.env=pure clos)(J:defaultsOf params X.env=([],[])):
  PE X (.Lambda params body sc pos) (zyx P pos (fun c ctv=>PySem.W.kla_obj "<lambda>" (X.env.qual ++ "<lambda>") params body sc clos ((X.mg "__name__").getD .none) c ctv) (X.env.qual ++ "<lambda>")):=by
 intro pins s σ H Q I h;obtain⟨ps,N,M,g,l⟩:=h;have r:s.heap.get? P=some (PySem.W.tabObj ps):=I.hok P _ N;have y:s.heap.Ns mainGlobals X.mg:=I.mod.glob.keeps I.bk;obtain⟨bm,ob,b1,b2,L,S,b5,K⟩:=hB
 have C:mainGlobals≠P:=fun q=>by
  obtain⟨o,es,ep,e,hd,_⟩:=y;rw[q,r]at e;cases e;cases hd
 have F:bm≠P:=fun q=>by
  have e:=I.bk _ _ L;rw[q,r]at e;cases e;cases S
 have G:bm≠mainGlobals:=fun q=>by
  obtain⟨o,es,ep,e,hd,_⟩:=y;have O:=I.bk _ _ L;rw[q,e]at O;cases O;rw[hd]at K;cases K
 have R:s.heap.BuiltinsAt X.mg P:=⟨bm,ob,b1,b2,G,F,I.bk _ _ L,S,b5,K⟩;refine PySem.W.kla_eval J ?_
 cases f:codeAmong pos ps.toList with
 |none=>
  refine PySem.W.kla_makeFunction (mg:=X.mg) U I.ok.glob y hcd (hC.keeps I.bk) r M f C R fun c' ctv h1 tk V d B j i=>?_
  obtain⟨c2,oc,vs,t,e2,k,hd,hv⟩:=j;cases e2;have A:=I.tblUp (t':=tk) N V i;have E:c'≠P:=fun z=>absurd (yan (yau r) d) (by rw[z];exact yaT _)
  have n:H c'=none:=I.hok.fresh d
  have m:upd H P (.tbl (ps++#[rawInt pos.line,rawInt pos.col,.ref c'])) c'=none:=by rw[zab E];exact n
  have T:=A.track (D:=c') (o:=.frz oc (.own c')) m (yav I.sz d) (fun z=>absurd (yan I.lt d) (by rw[z];exact yaT _)) (fun x a e z=>by
    obtain⟨v,q⟩:=I.cell x a e
    exact absurd (yan q.lt d) (by rw[z];exact yaT _)) (fun p Z z=>absurd (yan (yau (I.pin p Z).1) d) (by rw[z];exact yaT _)) ⟨k,oc,k⟩
  have w:h1.objs.size≠c':=ya1 B;have fP:h1.objs.size≠P:=ya1 (yau i);refine⟨.ref h1.objs.size,_,T.laid (t':=tk) (a:=h1.objs.size) (o:=.frz (PySem.W.kla_obj "<lambda>" (X.env.qual ++ "<lambda>") params body sc clos ((X.mg "__name__").getD .none) c' ctv) (.own h1.objs.size)) (fun b u e=>yag _ e) (yai _) ⟨yaw _ rfl,_,yaw _ rfl⟩,rfl,?_⟩;refine g f _ c' oc ctv ?_ n w ⟨vs,t,hd,hv⟩;have:=T.hok.fresh (a:=h1.objs.size) (yai _);rwa[zab w,zab fP]at this
 |some cv=>
  obtain⟨c,oc,rfl,hc,⟨us,t,hd,hv⟩,Y⟩:=l cv f;refine PySem.W.kla_makeFunctionHit (mg:=X.mg) U I.ok.glob y hcd (hC.keeps I.bk) r M f R fun ctv h1 tk hk hsz=>?_
  have A:=I.kept (t':=tk) hk;refine⟨.ref h1.objs.size,_,A.laid (t':=tk) (a:=h1.objs.size) (o:=.frz (PySem.W.kla_obj "<lambda>" (X.env.qual ++ "<lambda>") params body sc clos ((X.mg "__name__").getD .none) c ctv) (.own h1.objs.size)) (fun b u e=>yag _ e) (yai _) ⟨yaw _ rfl,_,yaw _ rfl⟩,rfl,?_⟩;exact Y _ ctv (A.hok.fresh (a:=h1.objs.size) (yai _))
def zmJ{H:Hp}{a:Addr}{o:HO}(h:H a=some o):upd H a o=H:=by
 funext b
 by_cases e:b=a
 ·rw[e,zao,h]
 ·rw[zab e]
def Inv.fz{X:Cx}{pins:Z3}{σ:List (Option V)}{H:Hp}{s:Shared}{a:Addr}{kvs:List (Key×V)}(I:Inv X pins σ H s)(e:H a=some (.dK kvs)):∃ob,Inv X pins σ (upd H a (.frz ob (.dK kvs))) s:=by
 have x:zbg X.prog X.w H s.heap a (.dK kvs):=I.hok a _ e;obtain⟨z,y,vs,r,ob,es,f,g,c⟩:=id x
 have ne:∀(b:Addr) (u:HO),H b=some u->u≠.dK kvs->upd H a (.frz ob (.dK kvs)) b=some u:=fun b u hb d=>by
  rw[zab (fun q=>d (by rw[q,e]at hb;cases hb;rfl))];exact hb
 refine⟨ob,I.un (t':=s.toks) ⟨fun _ _ g _ _ _=>g,fun _ o g _ _ _=>⟨o.slots,g⟩,fun b o _ n _=>?_,fun _ o g _=>⟨o,g⟩,fun b xs h=>ne b _ h (by simp),fun b o u h=>ne b _ h (by simp),fun b ps h=>⟨#[],by rw[Array.append_empty];exact ne b _ h (by simp)⟩⟩
  (HOk.write I.hok (x:=a) (by rw[e];trivial) (.inl rfl) (fun _ _ _ g=>g) ⟨ob,g⟩ ⟨g,?_⟩)⟩
 ·rw[zab (fun q=>by rw[q,e]at n;cases n)];exact n
 ·exact x.stay (fun _ _ _ g=>g) (fun b h=>ne b _ h (by simp)) fun b xs h=>ne b _ h (by simp)
end L2
namespace S2
open PySem PySem.Spec PyProof.Rows L2
noncomputable abbrev St:=L2.St
inductive D where
 |non|bl (b:Bool)|int (i:Int)|str (x:Str)|tup (l:List D)|lst (l:List D)|dic (l:List (D×D))|ref (n:Nat)|exc (c:Str)|scr (l:List Int)
inductive Root where
 |slot (i:Nat)|fld (n:Nat) (f:Str)|obj (n:Nat)|far|tab
 deriving DecidableEq
noncomputable abbrev Ow:=Addr->Option Root
structure Cf where
 ad:Str->Addr
 K:PySem.W.Frag
 P:Program
 wo:PySem.World
 tabs:Addr->Option Str:=fun _=>none
noncomputable instance:CoeFun Cf (fun _=>Str->Addr):=⟨Cf.ad⟩
structure Wd where
 H:Hp
 ow:Ow
 mu:List Addr
mutual
inductive Shd(cl:Cf)(w:Wd):V->D->Prop
 |non:Shd cl w .non .non
 |bl (b:Bool):Shd cl w (.bl b) (.bl b)
 |int (i:Int):Shd cl w (.int i) (.int i)
 |str (x:Str):Shd cl w (.str x) (.str x)
 |tup {a:Addr}{xs:List V}{ds:List D}:w.H a=some (.tup xs)->w.ow a=none->Shds cl w xs ds->Shd cl w (.ref a) (.tup ds)
 |lst {a:Addr}{xs:List V}{ds:List D}:w.H a=some (.lst xs)->w.ow a=none->Shds cl w xs ds->Shd cl w (.ref a) (.lst ds)
 |dicK {a:Addr}{ob:Obj}{kvs:List (Key×V)}{ds:List (D×D)}:w.H a=some (.frz ob (.dK kvs))->w.ow a=none->ShdK cl w kvs ds->Shd cl w (.ref a) (.dic ds)
 |ref {n:Nat}{a:Addr}:w.mu[n]?=some a->Shd cl w (.ref a) (.ref n)
 |scr {a:Addr}{o:Obj}{l:List Int}:w.H a=some (.frz o (.lst (l.map V.int)))->w.ow a=none->Shd cl w (.ref a) (.scr l)
 |scrK {a:Addr}{l:List Int}:(∀H:Hp,SqL cl.K H a (l.map V.int))->Shd cl w (.ref a) (.scr l)
 |exc {a:Addr}{c:Str}{ob:Obj}:w.H a=some (.frz ob (.own a))->w.ow a=none->ob.cls=.ref (cl c)->Shd cl w (.ref a) (.exc c)
inductive Shds(cl:Cf)(w:Wd):List V->List D->Prop
 |nil:Shds cl w [] []
 |cons {v:V}{d:D}{vs:List V}{ds:List D}:Shd cl w v d->Shds cl w vs ds->Shds cl w (v::vs) (d::ds)
inductive ShdK(cl:Cf)(w:Wd):List (Key×V)->List (D×D)->Prop
 |nil:ShdK cl w [] []
 |consI {i:Int}{v:V}{d:D}{vs:List (Key×V)}{ds:List (D×D)}:Shd cl w v d->ShdK cl w vs ds->ShdK cl w ((.inl i,v)::vs) ((.int i,d)::ds)
 |consS {x:Str}{v:V}{d:D}{vs:List (Key×V)}{ds:List (D×D)}:Shd cl w v d->ShdK cl w vs ds->ShdK cl w ((.inr x,v)::vs) ((.str x,d)::ds)
end
structure Fut(w w':Wd):Prop where
 keep:∀a o,w.H a=some o->w.ow a=none->w'.H a=some o/\w'.ow a=none
 mu:∀(n:Nat) (a:Addr),w.mu[n]?=some a->w'.mu[n]?=some a
def Fut.refl(w:Wd):Fut w w:=⟨fun _ _ h k=>⟨h,k⟩,fun _ _ h=>h⟩
def Fut.trans(a:Fut w J)(b:Fut J I):Fut w I:=⟨fun c o h k=>b.keep c o (a.keep c o h k).1 (a.keep c o h k).2,fun n c h=>b.mu n c (a.mu n c h)⟩
mutual
theorem Shd.up{cl:Cf}{w w':Wd}(f:Fut w w'):∀{v:V}{d:D},Shd cl w v d->Shd cl w' v d
 |_,_,.non=>.non|_,_,.bl b=>.bl b|_,_,.int i=>.int i|_,_,.str x=>.str x|_,_,.tup e k r=>.tup (f.keep _ _ e k).1 (f.keep _ _ e k).2 (Shds.up f r)|_,_,.lst e k r=>.lst (f.keep _ _ e k).1 (f.keep _ _ e k).2 (Shds.up f r)|_,_,.dicK e k r=>.dicK (f.keep _ _ e k).1 (f.keep _ _ e k).2 (ShdK.up f r)|_,_,.ref e=>.ref (f.mu _ _ e)|_,_,.scr e k=>.scr (f.keep _ _ e k).1 (f.keep _ _ e k).2|_,_,.scrK h=>.scrK h|_,_,.exc e k h=>.exc (f.keep _ _ e k).1 (f.keep _ _ e k).2 h
theorem Shds.up{cl:Cf}{w w':Wd}(f:Fut w w'):∀{vs:List V}{ds:List D},Shds cl w vs ds->Shds cl w' vs ds
 |_,_,.nil=>.nil|_,_,.cons r t=>.cons (Shd.up f r) (Shds.up f t)
theorem ShdK.up{cl:Cf}{w w':Wd}(f:Fut w w'):∀{vs:List (Key×V)}{ds:List (D×D)},ShdK cl w vs ds->ShdK cl w' vs ds
 |_,_,.nil=>.nil|_,_,.consI r t=>.consI (Shd.up f r) (ShdK.up f t)|_,_,.consS r t=>.consS (Shd.up f r) (ShdK.up f t)
end
section
variable{cl:Cf}{w:Wd}
theorem Shds.length:∀{vs:List V}{ds:List D},Shds cl w vs ds->vs.length=ds.length
 |_,_,.nil=>rfl|_,_,.cons _ t=>by rw[yad,yad,Shds.length t]
theorem Shds.get:∀{vs:List V}{ds:List D},Shds cl w vs ds->∀{i:Nat}{v:V},vs[i]?=some v->∃d,ds[i]?=some d/\Shd cl w v d
 |_,_,.nil,i,v,e=>by simp at e
 |_,_,.cons r _,0,v,e=>by simp at e;subst e;exact⟨_,rfl,r⟩
 |_,_,.cons _ t,i+1,v,e=>by
  obtain⟨d,h1,h2⟩:=Shds.get t (i:=i) (v:=v) (by simpa using e);exact⟨d,by simpa using h1,h2⟩
theorem Shds.at:∀{vs:List V}{ds:List D},Shds cl w vs ds->∀{i:Nat}{d:D},ds[i]?=some d->∃v,vs[i]?=some v/\Shd cl w v d
 |_,_,.nil,i,v,e=>by simp at e
 |_,_,.cons r _,0,v,e=>by simp at e;subst e;exact⟨_,rfl,r⟩
 |_,_,.cons _ t,i+1,v,e=>by
  obtain⟨d,h1,h2⟩:=Shds.at t (i:=i) (d:=v) (by simpa using e);exact⟨d,by simpa using h1,h2⟩
theorem Shds.append:∀{vs I:List V}{ds es:List D},Shds cl w vs ds->Shds cl w I es->Shds cl w (vs++I) (ds++es)
 |_,_,_,_,.nil,s=>s|_,_,_,_,.cons r t,s=>.cons r (Shds.append t s)
theorem Shds.take:∀{vs:List V}{ds:List D} (n:Nat),Shds cl w vs ds->Shds cl w (vs.take n) (ds.take n)
 |_,_,0,_=>.nil|_,_,_+1,.nil=>.nil|_,_,n+1,.cons r t=>.cons r (Shds.take n t)
theorem Shds.drop:∀{vs:List V}{ds:List D} (n:Nat),Shds cl w vs ds->Shds cl w (vs.drop n) (ds.drop n)
 |_,_,0,s=>s|_,_,_+1,.nil=>.nil|_,_,n+1,.cons _ t=>Shds.drop n t
theorem Shds.rev:∀{vs:List V}{ds:List D},Shds cl w vs ds->Shds cl w vs.reverse ds.reverse
 |_,_,.nil=>.nil|_,_,.cons r t=>by
  rw[yb9,yb9];exact Shds.append (Shds.rev t) (.cons r .nil)
theorem Shds.flat(h:Shds cl w vs ds):∀n:Nat,Shds cl w (List.replicate n vs).flatten (List.replicate n ds).flatten
 |0=>.nil|n+1=>by
  rw[ybk,ybk,yaY,yaY];exact Shds.append h (Shds.flat h n)
end
inductive Top(cl:Cf)(w:Wd):HO->D->Prop
 |lst {xs:List V}{ds:List D}:Shds cl w xs ds->Top cl w (.lst xs) (.lst ds)
 |dicK {kvs:List (Key×V)}{ds:List (D×D)}:ShdK cl w kvs ds->Top cl w (.dK kvs) (.dic ds)
theorem Top.up(f:Fut w w'):Top cl w o d->Top cl w' o d
 |.lst h=>.lst (h.up f)|.dicK h=>.dicK (h.up f)
noncomputable def zhI(cl:Cf)(w:Wd)(r:Root):Bool->V->D->Prop
 |false,v,d=>Shd cl w v d|true,v,d=>∃a o,v=.ref a/\w.ow a=some r/\w.H a=some o/\Top cl w o d
theorem zhI.keep(f:Fut w w')(k:∀a o,w.H a=some o->w.ow a=some r->w'.H a=some o/\w'.ow a=some r):∀{b:Bool}{v:V}{d:D},zhI cl w r b v d->zhI cl w' r b v d
 |false,_,_,h=>Shd.up f h|true,_,_,⟨a,o,e,h1,h2,t⟩=>⟨a,o,e,(k a o h2 h1).2,(k a o h2 h1).1,t.up f⟩
noncomputable def ziw(cl:Cf)(w:Wd)(r:Root)(own:Bool)(v:V)(d:D):Prop:=(own=false/\Shd cl w v d)\/(own=true/\∃d0,d=.tup [d0]/\zhI cl w r true v d0)
theorem ziw.keep(f:Fut w w')(k:∀a o,w.H a=some o->w.ow a=some r->w'.H a=some o/\w'.ow a=some r)(h:ziw cl w r b v d):ziw cl w' r b v d:=by
 rcases h with⟨e,h⟩|⟨e,d0,c,h⟩
 ·exact .inl ⟨e,h.up f⟩
 ·exact .inr ⟨e,d0,c,h.keep f k⟩
structure Ob where
 cls:Str
 fs:List (Str×Bool×D)
noncomputable abbrev Sto:=List Ob
noncomputable def zcV(cl:Cf)(w:Wd)(n:Nat):List (Str×V)->List (Str×Bool×D)->Prop:=Paired fun p q=>p.1=q.1/\ziw cl w (.fld n q.1) q.2.1 p.2 q.2.2
noncomputable def zuq(cl:Cf)(w:Wd)(n:Nat)(a:Addr)(ob:Ob):Prop:=w.ow a=some (.obj n)/\∃dx fs,w.H a=some (.ins (cl ob.cls) dx fs)/\zcV cl w n fs ob.fs
noncomputable def zsZ(n:Nat):Option Root->Prop|some (.obj m)=>m=n|some (.fld m _)=>m=n|_=>False
theorem zcV.keep(f:Fut w w')(k:∀a o,w.H a=some o->zsZ n (w.ow a)->w'.H a=some o/\w'.ow a=w.ow a):∀{fs:List (Str×V)}{gs:List (Str×Bool×D)},zcV cl w n fs gs->zcV cl w' n fs gs
 |_,_,.nil=>.nil|_,_,.cons ⟨e,h⟩ t=>.cons ⟨e,h.keep f fun a o c b=>by
   have:=k a o c (by rw[b];rfl)
   exact⟨this.1,this.2.trans b⟩⟩ (zcV.keep f k t)
theorem zuq.keep(f:Fut w w')(k:∀a o,w.H a=some o->zsZ n (w.ow a)->w'.H a=some o/\w'.ow a=w.ow a)(h:zuq cl w n a ob):zuq cl w' n a ob:=by
 obtain⟨h1,dx,fs,h2,b⟩:=h;have:=k a _ h2 (by rw[h1];rfl);exact⟨this.2.trans h1,dx,fs,this.1,b.keep f k⟩
noncomputable def zmC(w:Wd)(qual:Str)(ps:Array Value):Prop:=TriplesOk ps.toList/\∀pos a,codeAmong pos ps.toList=some a->∃c oc,a=.ref c/\(w.H c=some (.frz oc (.own c))/\w.ow c=none)/\zjE qual oc
def zmC.up{w w':Wd}(f:Fut w w'){q:Str}{ps:Array Value}(h:zmC w q ps):zmC w' q ps:=
 ⟨h.1,fun pos b e=>let ⟨c,oc,h1,h2,a⟩:=h.2 pos b e;⟨c,oc,h1,f.keep _ _ h2.1 h2.2,a⟩⟩
noncomputable def zon(cl:Cf)(w:Wd):Prop:=∀P q,cl.tabs P=some q->∃ps,w.H P=some (.tbl ps)/\w.ow P=some .tab/\zmC w q ps
def zon.keep{cl:Cf}{w w':Wd}(h:zon cl w)(f:Fut w w')(k:∀P ps,w.H P=some (.tbl ps)->w.ow P=some .tab->w'.H P=some (.tbl ps)/\w'.ow P=some .tab):zon cl w':=fun P q e=>
 let ⟨ps,h1,h2,a⟩:=h P q e;⟨ps,(k P ps h1 h2).1,(k P ps h1 h2).2,a.up f⟩
structure Base where
 Fr:Hp
 fw:Ow
structure World'(cl:Cf)(B:Base)(w:Wd)(S:Sto):Prop where
 fr:∀a o,B.Fr a=some o->w.H a=some o/\w.ow a=B.fw a
 own:∀a r,w.ow a=some r->r=.far\/B.Fr a=none
 len:w.mu.length=S.length
 obj:∀(n:Nat) (ob:Ob),S[n]?=some ob->∃a,w.mu[n]?=some a/\zuq cl w n a ob
 tab:zon cl w
noncomputable abbrev Env:=List (Option (Bool×D))
structure Rel(cl:Cf)(B:Base)(σ:St)(w:Wd)(ρ:Env)(S:Sto):Prop where
 wd:World' cl B w S
 len:σ.length=ρ.length
 slots:∀(i:Nat) (o:Bool) (d:D),ρ[i]?=some (some (o,d))->∃v,σ[i]?=some (some v)/\zhI cl w (.slot i) o v d
structure Grow(w w':Wd):Prop where
 keep:∀a o,w.H a=some o->w'.H a=some o/\w'.ow a=w.ow a
 new:∀a r,w'.ow a=some r->w.H a=none->w.ow a=some r\/r=.far
 mu:w'.mu=w.mu
def Grow.refl(w:Wd):Grow w w:=⟨fun _ _ h=>⟨h,rfl⟩,fun _ _ h _=>.inl h,rfl⟩
def Grow.fut(g:Grow w w'):Fut w w':=⟨fun a o h k=>⟨(g.keep a o h).1,(g.keep a o h).2.trans k⟩,fun n a h=>by rw[g.mu];exact h⟩
def World'.grow(W:World' cl B w S)(g:Grow w w'):World' cl B w' S where
 fr:=fun a o h=>by
  obtain⟨h1,h2⟩:=W.fr a o h;exact⟨(g.keep a o h1).1,(g.keep a o h1).2.trans h2⟩
 own:=fun a r h=>by
  cases e:w.H a with
  |none=>exact(g.new a r h e).elim (W.own a r) .inl|some o=>exact W.own a r (by rw[<-(g.keep a o e).2];exact h)
 len:=by rw[g.mu];exact W.len
 obj:=fun n ob h=>by
  obtain⟨a,e,x⟩:=W.obj n ob h;exact⟨a,by rw[g.mu];exact e,x.keep g.fut fun a o b _=>g.keep a o b⟩
 tab:=W.tab.keep g.fut fun P ps h1 h2=>⟨(g.keep P _ h1).1,(g.keep P _ h1).2.trans h2⟩
theorem Rel.grow(R:Rel cl B σ w ρ S)(g:Grow w w'):Rel cl B σ w' ρ S where
 wd:=R.wd.grow g
 len:=R.len
 slots:=fun i o d h=>by
  obtain⟨v,e,x⟩:=R.slots i o d h;exact⟨v,e,x.keep g.fut fun a o b c=>⟨(g.keep a o b).1,(g.keep a o b).2.trans c⟩⟩
def Wd.add(w:Wd)(p:Addr)(o:HO):Wd:=⟨upd w.H p o,fun a=>if a=p then none else w.ow a,w.mu⟩
def zaw(h:w.H p=none)(o:HO):Grow w (w.add p o)where
 keep:=fun a u c=>by
  have n:a≠p:=zat c h;refine⟨?_,?_⟩
  ·show upd w.H p o a=_;rw[zab n];exact c
  ·show(if a=p then none else w.ow a)=_;rw[if_neg n]
 new:=fun a r h1 h2=>by
  have b:(if a=p then none else w.ow a)=some r:=h1;split at b
  ·cases b
  ·exact .inl b
 mu:=rfl
def zhH{w:Wd}:(w.add p o).ow p=none:=if_pos rfl
def zkh{w:Wd}:(w.add p o).H p=some o:=zao
def Shd.newT(h:w.H p=none)(r:Shds cl w xs ds):Shd cl (w.add p (.tup xs)) (.ref p) (.tup ds):=.tup zkh zhH (r.up (zaw h _).fut)
def Shd.newL(h:w.H p=none)(r:Shds cl w xs ds):Shd cl (w.add p (.lst xs)) (.ref p) (.lst ds):=.lst zkh zhH (r.up (zaw h _).fut)
theorem Top.fz{X:Cx}{pins:Z3}{σ:List (Option V)}{H:Hp}{s:Shared}{cl:Cf}{w:Wd}{a:Addr}{o:HO}{d:D}(t:Top cl w o d)(I:Inv X pins σ H s)(h:H a=some o):∃o',Inv X pins σ (upd H a o') s/\∀w',Fut w w'->w'.H a=some o'->w'.ow a=none->Shd cl w' (.ref a) d:=by
 cases t with
 |lst t=>exact⟨_,by rw[zmJ h];exact I,fun w' f e k=>.lst e k (t.up f)⟩
 |dicK t=>
  obtain⟨ob,b⟩:=I.fz h;exact⟨_,b,fun w' f e k=>.dicK e k (t.up f)⟩
inductive Out(α:Type)where
 |ok (a:α) (S:Sto)|exc (c:Str) (S:Sto)|bad
noncomputable abbrev Fe:=Env->Sto->Out D
inductive Fo where
 |nx (ρ:Env) (S:Sto)|rt (d:D) (S:Sto)|bk (ρ:Env) (S:Sto)|ct (ρ:Env) (S:Sto)|ex (c:Str) (ρ:Env) (S:Sto)|bad
noncomputable abbrev Fs:=Env->Sto->Fo
noncomputable def tE(cl:Cf)(E:St->XK)(f:Fe):TE:=fun σ H Q=>∃B w ρ S,w.H=H/\Rel cl B σ w ρ S/\match f ρ S with
 |.ok d S'=>∀v w',Rel cl B σ w' ρ S'->Fut w w'->Shd cl w' v d->Q v w'.H|.exc c S'=>∀w',Rel cl B σ w' ρ S'->Fut w w'->E σ (.ref (cl c)) none w'.H|.bad=>False
noncomputable def tN(cl:Cf)(E:St->XK)(f:Fe):TE:=fun σ H Q=>∃B w ρ S,w.H=H/\Rel cl B σ w ρ S/\match f ρ S with
 |.ok d S'=>∀p o w',Rel cl B σ w' ρ S'->Fut w w'->w'.H p=none->Top cl w' o d->Q (.ref p) (upd w'.H p o)|.exc c S'=>∀w',Rel cl B σ w' ρ S'->Fut w w'->E σ (.ref (cl c)) none w'.H|.bad=>False
noncomputable def Hd(cl:Cf)(σ:St)(ρ:Env)(w:Wd)(v:V)(d:D):Prop:=Shd cl w v d\/∃i:Nat,ρ[i]?=some (some (true,d))/\σ[i]?=some (some v)
noncomputable def tH(cl:Cf)(E:St->XK)(f:Fe):TE:=fun σ H Q=>∃B w ρ S,w.H=H/\Rel cl B σ w ρ S/\match f ρ S with
 |.ok d S'=>∀v w',Rel cl B σ w' ρ S'->Fut w w'->Hd cl σ ρ w' v d->Q v w'.H|.exc c S'=>∀w',Rel cl B σ w' ρ S'->Fut w w'->E σ (.ref (cl c)) none w'.H|.bad=>False
inductive TopV(cl:Cf)(w:Wd):V->D->Prop
 |sh {v:V}{d:D}:Shd cl w v d->TopV cl w v d
 |ow {a:Addr}{o:HO}{d:D}:w.H a=some o->Top cl w o d->TopV cl w (.ref a) d
def Hd.top(h:Hd cl σ ρ w v d)(R:Rel cl B σ w ρ S):TopV cl w v d:=by
 rcases h with h|⟨i,h1,h2⟩
 ·exact .sh h
 ·obtain⟨c,e,a,o,rfl,_,b,t⟩:=R.slots i true d h1;rw[h2]at e;cases e;exact .ow b t
theorem Hd.up(f:Fut w w')(h:Hd cl σ ρ w v d):Hd cl σ ρ w' v d:=by
 rcases h with h|h
 ·exact .inl (h.up f)
 ·exact .inr h
def PE.imp(h:PE X e t)(i:∀σ H Q,t' σ H Q->t σ H Q):PE X e t':=fun pins s σ H Q I q=>h pins s σ H Q I (i _ _ _ q)
def zu7(h:tH cl E f σ H Q):tE cl E f σ H Q:=by
 obtain⟨B,w,ρ,S,e,R,h⟩:=h;refine⟨B,w,ρ,S,e,R,?_⟩
 cases hf:f ρ S with
 |ok d S'=>
  rw[hf]at h;intro v w' a b t;exact h v w' a b (.inl t)
 |exc c S'=>rwa[hf]at h|bad=>rwa[hf]at h
noncomputable def Out.bind{α β:Type}(o:Out α)(k:α->Sto->Out β):Out β:=match o with|.ok a S=>k a S|.exc c S=>.exc c S|.bad=>.bad
noncomputable def Out.of{α:Type}(o:Option α)(S:Sto):Out α:=match o with|some a=>.ok a S|none=>.bad
@[simp] def Out.bind_ok{α β:Type}(a:α)(S:Sto)(k:α->Sto->Out β):(Out.ok a S).bind k=k a S:=rfl
@[simp] def Out.bind_exc{α β:Type}(c:Str)(S:Sto)(k:α->Sto->Out β):(Out.exc c S:Out α).bind k=.exc c S:=rfl
@[simp] def Out.bind_bad{α β:Type}(k:α->Sto->Out β):(Out.bad:Out α).bind k=.bad:=rfl
@[simp] def Out.of_some{α:Type}(a:α)(S:Sto):Out.of (some a) S=.ok a S:=rfl
noncomputable def zad(i:Nat):Fe:=fun ρ S=>match ρ[i]? with|some (some (false,d))=>.ok d S|_=>.bad
noncomputable def zac(i:Nat):Fe:=fun ρ S=>match ρ[i]? with|some (some (_,d))=>.ok d S|_=>.bad
noncomputable def zaa(d:D):Fe:=fun _ S=>.ok d S
def eUn(g:D->Option D)(f:Fe):Fe:=fun ρ S=>(f ρ S).bind fun a S1=>Out.of (g a) S1
def zaf(g:D->D->Option D)(f h:Fe):Fe:=fun ρ S=>(f ρ S).bind fun a S1=>(h ρ S1).bind fun b S2=>Out.of (g a b) S2
noncomputable def isB:D->Option Bool|.bl b=>some b|_=>none
def eIf(c f h:Fe):Fe:=fun ρ S=>(c ρ S).bind fun d S1=>match isB d with|some true=>f ρ S1|some false=>h ρ S1|none=>.bad
def zhK(f h:Fe):Fe:=fun ρ S=>(f ρ S).bind fun d S1=>match isB d with|some true=>h ρ S1|some false=>.ok (.bl false) S1|none=>.bad
def eOr(f h:Fe):Fe:=fun ρ S=>(f ρ S).bind fun d S1=>match isB d with|some true=>.ok (.bl true) S1|some false=>h ρ S1|none=>.bad
noncomputable def zbz:D->Option D|.bl b=>some (.bl (!b))|_=>none
def zap:List Fe->Env->Sto->Out (List D)
 |[],_,S=>.ok [] S|f::fs,ρ,S=>(f ρ S).bind fun d S1=>(zap fs ρ S1).bind fun ds S2=>.ok (d::ds) S2
noncomputable def zau(n:Nat):Bool:=decide (n<=100000)
def zmh(fs:List Fe):Fe:=fun ρ S=>(zap fs ρ S).bind fun ds S1=>if zau ds.length then .ok (.tup ds) S1 else .bad
def zev(fs:List Fe):Fe:=fun ρ S=>(zap fs ρ S).bind fun ds S1=>if zau ds.length then .ok (.lst ds) S1 else .bad
def zaF(g:List D->Option D)(fs:List Fe):Fe:=fun ρ S=>(zap fs ρ S).bind fun ds S1=>Out.of (g ds) S1
def zaI(h:zau n=true):n<=sizeLine:=yav (yah h) (by decide)
noncomputable def zbi:Expr->Bool|.Starred _ _=>false|_=>true
def za4(h:zbi e=true):starEach (e::es) env=(false,eval e env)::starEach es env:=by
 cases e<;>first|rfl|cases h
theorem zbK:∀{es:List Expr},es.all zbi=true->(backTo pos (starEach es env)).any (·.1)=false
 |[],_=>rfl|e::es,h=>by
  rw[ya8,yaa]at h;rw[za4 h.1];show(false||(backTo pos (starEach es env)).any (·.1))=false;rw[zbK h.2];rfl
theorem zg0:∀{es:List Expr},es.all zbi=true->(backTo pos (starEach es env)).all (fun x=>!x.1)=true
 |[],_=>rfl|e::es,h=>by
  rw[ya8,yaa]at h;rw[za4 h.1];show(true&&(backTo pos (starEach es env)).all (fun x=>!x.1))=true;rw[zg0 h.2];rfl
def ze9(h:es.all zbi=true)(I:es.length<30):((backTo pos (starEach es env)).all (fun x=>!x.1)&&(backToKw pos (keywordEach [] env)).all (fun x=>x.1.isSome)
   && decide (es.length+([]:List Keyword).length+(if([]:List Keyword).isEmpty then 0 else 1)<30))=true:=by
 rw[zg0 h];show(true&&true&&decide (es.length+0+0<30))=true;simpa using I
noncomputable def Hds(cl:Cf)(σ:St)(ρ:Env)(w:Wd):List V->List D->Prop:=Paired (Hd cl σ ρ w)
noncomputable def zmB(cl:Cf)(w:Wd):List V->List D->Prop:=Paired (TopV cl w)
theorem Hds.top(R:Rel cl B σ w ρ S):∀{vs:List V}{ds:List D},Hds cl σ ρ w vs ds->zmB cl w vs ds
 |_,_,.nil=>.nil|_,_,.cons h t=>.cons (h.top R) (Hds.top R t)
noncomputable def tAs(cl:Cf)(E:St->XK)(fs:List Fe):TA:=fun σ H Q=>∃B w ρ S,w.H=H/\Rel cl B σ w ρ S/\match zap fs ρ S with
 |.ok ds S'=>∀vs w',Rel cl B σ w' ρ S'->Fut w w'->Shds cl w' vs ds->Q vs w'.H|.exc c S'=>∀w',Rel cl B σ w' ρ S'->Fut w w'->E σ (.ref (cl c)) none w'.H|.bad=>False
noncomputable def tHs(cl:Cf)(E:St->XK)(fs:List Fe):TA:=fun σ H Q=>∃B w ρ S,w.H=H/\Rel cl B σ w ρ S/\match zap fs ρ S with
 |.ok ds S'=>∀vs w',Rel cl B σ w' ρ S'->Fut w w'->Hds cl σ ρ w' vs ds->Q vs w'.H|.exc c S'=>∀w',Rel cl B σ w' ρ S'->Fut w w'->E σ (.ref (cl c)) none w'.H|.bad=>False
def PA.imp(h:PA X es t)(i:∀σ H Q,t' σ H Q->t σ H Q):PA X es t':=fun pos pins s σ H Q I q=>h pos pins s σ H Q I (i _ _ _ q)
def PT.imp(h:PT X e t)(i:∀σ H Q,t' σ H Q->t σ H Q):PT X e t':=fun pins s σ H Q I q=>h pins s σ H Q I (i _ _ _ q)
section
variable{X:Cx}{cl:Cf}{E:St->XK}{a b c e:Expr}{f h g:Fe}{pos:Pos}
def zr9(hN:X.N[i]?=some x)(hv:Vis X.env.scope x)(hd:(x==("__debug__":Str))=false)(hcd:(x==("__classdict__":Str))=false):PE X (.Name x pos) (tE cl E (zad i)):=by
 refine PE.imp (zaT hN hv hd hcd) ?_;rintro σ H Q ⟨B,w,ρ,S,rfl,R,q⟩;unfold zad at q;split at q
 ·rename_i o d S' hm;split at hm
  ·rename_i d' he;cases hm;obtain⟨v,e,r⟩:=R.slots i false d he;exact⟨v,e,q v w R (Fut.refl _) r⟩
  ·cases hm
 ·rename_i hm;split at hm<;>cases hm
 ·exact q.elim
def zkW(hN:X.N[i]?=some x)(hv:Vis X.env.scope x)(hd:(x==("__debug__":Str))=false)(hcd:(x==("__classdict__":Str))=false):PE X (.Name x pos) (tH cl E (zac i)):=by
 refine PE.imp (zaT hN hv hd hcd) ?_;rintro σ H Q ⟨B,w,ρ,S,rfl,R,q⟩;unfold zac at q;split at q
 ·rename_i o d S' hm;split at hm
  ·rename_i b d' he;cases hm;obtain⟨v,e,r⟩:=R.slots i b d he;refine⟨v,e,q v w R (Fut.refl _) ?_⟩
   cases b with
   |false=>exact .inl r|true=>exact .inr ⟨i,he,e⟩
  ·cases hm
 ·rename_i hm;split at hm<;>cases hm
 ·exact q.elim
def zfZ(h:PE X e (tC v))(hd:∀w,Shd cl w v d):PE X e (tE cl E (zaa d)):=by
 refine PE.imp h ?_;rintro σ H Q ⟨B,w,ρ,S,rfl,R,q⟩;exact q v w R (Fut.refl _) (hd w)
def zcX(h:PE X e (tE cl E f)):PE X e (tH cl E f):=PE.imp h fun _ _ _=>zu7
def zei(h:PE X e (tN cl E f)):PE X e (tE cl E f):=by
 intro pins s σ H Q I q;obtain⟨B,w,ρ,S,rfl,R,q⟩:=q;refine ya0 (h pins s σ w.H (fun v H'=>∀s',Inv X pins σ H' s'->∃a,Inv X pins σ a s'/\Q v a) I ⟨B,w,ρ,S,rfl,R,?_⟩) (fun v s' hv=>?_) (fun _ _ x=>x)
 ·cases hf:f ρ S with
  |ok d S'=>
   rw[hf]at q;intro p o w' l m g t s' i;obtain⟨o',b,hs⟩:=t.fz i zao;rw[zpo]at b;exact⟨_,b,q (.ref p) (w'.add p o') (l.grow (zaw g o')) (m.trans (zaw g o').fut) (hs _ (zaw g o').fut zkh zhH)⟩
  |exc c S'=>rwa[hf]at q|bad=>rwa[hf]at q
 ·obtain⟨x,H',i,r,k⟩:=hv;obtain⟨H2,b,j⟩:=k _ i;exact⟨x,H2,b,r,j⟩
noncomputable def OpD(X:Cx)(cl:Cf)(op:Value->Value->Sem Value)(g:D->D->Option D):Prop:=OpR X op fun x y H Q=>∃w d e r,w.H=H/\TopV cl w x d/\TopV cl w y e/\g d e=some r/\∀v w',Grow w w'->Shd cl w' v r->Q v w'.H
noncomputable def UnD(X:Cx)(cl:Cf)(op:Value->Sem Value)(g:D->Option D):Prop:=UnR X op fun x H Q=>∃w d r,w.H=H/\TopV cl w x d/\g d=some r/\∀v w',Grow w w'->Shd cl w' v r->Q v w'.H
noncomputable def zkj(X:Cx)(cl:Cf)(I:Value)(g:List D->Option D):Prop:=zdY X I fun xs H Q=>∃w ds r,w.H=H/\zmB cl w xs ds/\g ds=some r/\∀v w',Grow w w'->Shd cl w' v r->Q v w'.H
noncomputable def zus(X:Cx)(cl:Cf)(I:Value)(g:List D->Option D):Prop:=zdY X I fun xs H Q=>∃w ds r,w.H=H/\zmB cl w xs ds/\g ds=some r/\∀p o w',Grow w w'->w'.H p=none->Top cl w' o r->Q (.ref p) (upd w'.H p o)
noncomputable def IxD(X:Cx)(cl:Cf)(g:D->D->Option D):Prop:=IxR X fun x y H Q=>∃w d e r,w.H=H/\TopV cl w x d/\TopV cl w y e/\g d e=some r/\∀v w',Grow w w'->Shd cl w' v r->Q v w'.H
def two(J:∀x y H Q,(∃w d e r,w.H=H/\TopV cl w x d/\TopV cl w y e/\I d e=some r/\∀v w',Grow w w'->Shd cl w' v r->Q v w'.H)->r2 x y H Q)(σ:St)(H:Hp)(Q:VK)(q:tE cl E (zaf I f h) σ H Q):tOp r2 (tH cl E f) (tH cl E h) σ H Q:=by
 obtain⟨B,w,ρ,S,rfl,R,q⟩:=q;refine⟨B,w,ρ,S,rfl,R,?_⟩;unfold zaf at q
 cases hf:f ρ S with
 |bad=>rwa[hf]at q|exc c S1=>rwa[hf]at q|ok d S1=>
  rw[hf]at q;intro v l n k h1;refine⟨B,l,ρ,S1,rfl,n,?_⟩;dsimp only[Out.bind]at q
  cases g:h ρ S1 with
  |bad=>rwa[g]at q|exc c S2=>rw[g]at q;exact fun b R2 a=>q b R2 (k.trans a)|ok e S2=>
   rw[g]at q;intro y b R2 a h2;dsimp only at q
   cases i:I d e with
   |none=>rw[i]at q;exact q.elim|some r=>
    rw[i]at q;exact J _ _ _ _ ⟨b,d,e,r,rfl,(h1.up a).top R2,h2.top R2,i,fun m w' j sh=>q m w' (R2.grow j) (k.trans (a.trans j.fut)) sh⟩
def zoC(ho:OpD X cl (binaryOp op) J)(I:PE X a (tH cl E f))(hb:PE X b (tH cl E h)):PE X (.BinOp a op b pos) (tE cl E (zaf J f h)):=
 PE.imp (zsF ho I hb) (two fun _ _ _ _ z=>z)
def zsd(ho:IxD X cl J)(I:PE X a (tH cl E f))(hb:PE X b (tH cl E h))(hs:ziv b):PE X (.Subscript a b pos) (tE cl E (zaf J f h)):=
 PE.imp (zvx ho I hb hs) (two fun _ _ _ _ z=>z)
def zsf(ho:OpD X cl (compareOp op) J)(I:PE X a (tH cl E f))(hb:PE X b (tH cl E h))(hm:behindInMarks op b=false):PE X (.Compare a [op] [b] pos) (tE cl E (zaf J f h)):=
 PE.imp (zqu ho I hb hm) (two fun _ _ _ _ z=>z)
def zvh(ho:UnD X cl (unaryOp op) I)(J:PE X a (tH cl E f)):PE X (.UnaryOp op a pos) (tE cl E (eUn I f)):=by
 refine PE.imp (zvv ho J) ?_;rintro σ H Q ⟨B,w,ρ,S,rfl,R,q⟩;refine⟨B,w,ρ,S,rfl,R,?_⟩;unfold eUn at q
 cases hf:f ρ S with
 |bad=>rwa[hf]at q|exc c S1=>rwa[hf]at q|ok d S1=>
  rw[hf]at q;intro v h g j h1;dsimp only[Out.bind]at q
  cases b:I d with
  |none=>rw[b]at q;exact q.elim|some r=>
   rw[b]at q;exact⟨h,d,r,rfl,h1.top g,b,fun i w' e sh=>q i w' (g.grow e) (j.trans e.fut) sh⟩
noncomputable def tTr(cl:Cf)(E:St->XK)(f:Fe):TT:=fun σ H Q=>∃B w ρ S,w.H=H/\Rel cl B σ w ρ S/\match f ρ S with
 |.ok d S'=>match isB d with
  |some b=>∀w',Rel cl B σ w' ρ S'->Fut w w'->Q b w'.H|none=>False
 |.exc c S'=>∀w',Rel cl B σ w' ρ S'->Fut w w'->E σ (.ref (cl c)) none w'.H|.bad=>False
def zdk{d:D}{b:Bool}(h:isB d=some b):d=.bl b:=by
 cases d<;>simp[isB]at h
 subst h;rfl
def zgN{w:Wd}{v:V}{b:Bool}(h:Shd cl w v (.bl b)):v=.bl b:=by cases h;rfl
def zgG(q:tTr cl E f σ H Q):tB (tE cl E f) σ H Q:=by
 obtain⟨B,w,ρ,S,rfl,R,q⟩:=q;refine⟨B,w,ρ,S,rfl,R,?_⟩
 cases hf:f ρ S with
 |bad=>rwa[hf]at q|exc c S1=>rwa[hf]at q|ok d S1=>
  rw[hf]at q;intro v a e g h1;dsimp only at q
  cases hb:isB d with
  |none=>rw[hb]at q;exact q.elim|some b=>
   rw[hb]at q;rw[zdk hb]at h1;exact⟨b,zgN h1,q a e g⟩
def zgL(h:PE X e (tE cl E f))(he:∀whole,isTrue e X.env whole=(do let v ← whole;standAt e.pos;holding [v] (truthy v))):PT X e (tTr cl E f):=
 PT.imp (zsx h he) fun _ _ _ q=>zgG q
def zkF(I:∀x y H Q,(∃w d e r,w.H=H/\TopV cl w x d/\TopV cl w y e/\J d e=some r/\∀v w',Grow w w'->Shd cl w' v r->Q v w'.H)->r2 x y H Q)(q:tTr cl E (zaf J f h) σ H Q):zpw (tOp r2 (tH cl E f) (tH cl E h)) σ H Q:=
 two I σ H _ (zgG q)
def zox(ho:OpD X cl (compareOp op) J)(I:PE X a (tH cl E f))(hb:PE X b (tH cl E h))(hm:behindInMarks op b=false):PT X (.Compare a [op] [b] pos) (tTr cl E (zaf J f h)):=
 PT.imp (zqf ho I hb hm) fun _ _ _ q=>zkF (fun _ _ _ _ z=>z) q
def PW.imp(h:PW X e t)(i:∀σ H Q,t' σ H Q->t σ H Q):PW X e t':=fun whole pins s σ H Q I q=>h whole pins s σ H Q I (i _ _ _ q)
def zpv(q:tTr cl E (zhK f h) σ H Q):zw6 (tTr cl E f) (tTr cl E h) σ H Q:=by
 obtain⟨B,w,ρ,S,rfl,R,q⟩:=q;refine⟨B,w,ρ,S,rfl,R,?_⟩;unfold zhK at q
 cases hf:f ρ S with
 |bad=>rwa[hf]at q|exc c S1=>rwa[hf]at q|ok d S1=>
  rw[hf]at q;dsimp only[Out.bind]at q ⊢
  cases hb:isB d with
  |none=>rw[hb]at q;exact q.elim|some b=>
   rw[hb]at q;intro l m k
   cases b with
   |false=>exact zo1 (q l m k)|true=>
    refine zo0 ⟨B,l,ρ,S1,rfl,m,?_⟩;dsimp only at q
    cases i:h ρ S1 with
    |bad=>rwa[i]at q|exc c S2=>rw[i]at q;exact fun g R2 j=>q g R2 (k.trans j)|ok e S2=>
     rw[i]at q;dsimp only at q ⊢
     cases a:isB e with
     |none=>rw[a]at q;exact q.elim|some b2=>rw[a]at q;exact fun g R2 j=>q g R2 (k.trans j)
def zrH(q:tTr cl E (eOr f h) σ H Q):tOr (tTr cl E f) (tTr cl E h) σ H Q:=by
 obtain⟨B,w,ρ,S,rfl,R,q⟩:=q;refine⟨B,w,ρ,S,rfl,R,?_⟩;unfold eOr at q
 cases hf:f ρ S with
 |bad=>rwa[hf]at q|exc c S1=>rwa[hf]at q|ok d S1=>
  rw[hf]at q;dsimp only[Out.bind]at q ⊢
  cases hb:isB d with
  |none=>rw[hb]at q;exact q.elim|some b=>
   rw[hb]at q;intro l m k
   cases b with
   |true=>exact zo0 (q l m k)|false=>
    refine zo1 ⟨B,l,ρ,S1,rfl,m,?_⟩;dsimp only at q
    cases i:h ρ S1 with
    |bad=>rwa[i]at q|exc c S2=>rw[i]at q;exact fun g R2 j=>q g R2 (k.trans j)|ok e S2=>
     rw[i]at q;dsimp only at q ⊢
     cases a:isB e with
     |none=>rw[a]at q;exact q.elim|some b2=>rw[a]at q;exact fun g R2 j=>q g R2 (k.trans j)
def zpu(q:tTr cl E (eUn zbz f) σ H Q):zw4 (tTr cl E f) σ H Q:=by
 obtain⟨B,w,ρ,S,rfl,R,q⟩:=q;refine⟨B,w,ρ,S,rfl,R,?_⟩;unfold eUn at q
 cases hf:f ρ S with
 |bad=>rwa[hf]at q|exc c S1=>rwa[hf]at q|ok d S1=>
  rw[hf]at q;dsimp only[Out.bind]at q ⊢
  cases hb:isB d with
  |none=>
   have:zbz d=none:=by cases d<;>simp[isB]at hb<;>rfl
   rw[this]at q;exact q.elim
  |some b=>
   rwa[zdk hb]at q
def zow(I:PT X a (tTr cl E f)):PT X (.UnaryOp .Not a pos) (tTr cl E (eUn zbz f)):=PT.imp (zsy I) fun _ _ _ q=>zpu q
def zrU{zbG:List Expr}(I:PT X a (tTr cl E f))(hb:PW X (.BoolOp .And (b::zbG) pos) (tTr cl E h)):PW X (.BoolOp .And (a::b::zbG) pos) (tTr cl E (zhK f h)):=PW.imp (zsu I hb) fun _ _ _ q=>zpv q
def zrT{zbG:List Expr}(I:PT X a (tTr cl E f))(hb:PW X (.BoolOp .Or (b::zbG) pos) (tTr cl E h)):PW X (.BoolOp .Or (a::b::zbG) pos) (tTr cl E (eOr f h)):=PW.imp (zvt I hb) fun _ _ _ q=>zrH q
def zsg{zbG:List Expr}(I:PE X a (tE cl E f))(hb:PE X (.BoolOp .And (b::zbG) pos) (tE cl E h)):PE X (.BoolOp .And (a::b::zbG) pos) (tE cl E (zhK f h)):=by
 refine PE.imp (zsK I hb) ?_;rintro σ H Q ⟨B,w,ρ,S,rfl,R,q⟩;refine⟨B,w,ρ,S,rfl,R,?_⟩;unfold zhK at q
 cases hf:f ρ S with
 |bad=>rwa[hf]at q|exc c S1=>rwa[hf]at q|ok d S1=>
  rw[hf]at q;intro v l m k h1;dsimp only[Out.bind]at q
  cases hb:isB d with
  |none=>rw[hb]at q;exact q.elim|some b=>
   rw[hb]at q;rw[zdk hb]at h1;refine⟨b,zgN h1,?_⟩
   cases b with
   |false=>exact zo1 (q _ l m k (.bl false))|true=>
    refine zo0 ⟨B,l,ρ,S1,rfl,m,?_⟩;dsimp only at q
    cases i:h ρ S1 with
    |bad=>rwa[i]at q|exc c S2=>rw[i]at q;exact fun g R2 j=>q g R2 (k.trans j)|ok e S2=>rw[i]at q;exact fun v g R2 j=>q v g R2 (k.trans j)
def zvk{zbG:List Expr}(I:PE X a (tE cl E f))(hb:PE X (.BoolOp .Or (b::zbG) pos) (tE cl E h)):PE X (.BoolOp .Or (a::b::zbG) pos) (tE cl E (eOr f h)):=by
 refine PE.imp (zvw I hb) ?_;rintro σ H Q ⟨B,w,ρ,S,rfl,R,q⟩;refine⟨B,w,ρ,S,rfl,R,?_⟩;unfold eOr at q
 cases hf:f ρ S with
 |bad=>rwa[hf]at q|exc c S1=>rwa[hf]at q|ok d S1=>
  rw[hf]at q;intro v l m k h1;dsimp only[Out.bind]at q
  cases hb:isB d with
  |none=>rw[hb]at q;exact q.elim|some b=>
   rw[hb]at q;rw[zdk hb]at h1;refine⟨b,zgN h1,?_⟩
   cases b with
   |true=>exact zo0 (q _ l m k (.bl true))|false=>
    refine zo1 ⟨B,l,ρ,S1,rfl,m,?_⟩;dsimp only at q
    cases i:h ρ S1 with
    |bad=>rwa[i]at q|exc c S2=>rw[i]at q;exact fun g R2 j=>q g R2 (k.trans j)|ok e S2=>rw[i]at q;exact fun v g R2 j=>q v g R2 (k.trans j)
def zsb(I:PE X a (tE cl E f)):PE X (.UnaryOp .Not a pos) (tE cl E (eUn zbz f)):=by
 refine PE.imp (zsH I) ?_;rintro σ H Q ⟨B,w,ρ,S,rfl,R,q⟩;refine⟨B,w,ρ,S,rfl,R,?_⟩;unfold eUn at q
 cases hf:f ρ S with
 |bad=>rwa[hf]at q|exc c S1=>rwa[hf]at q|ok d S1=>
  rw[hf]at q;intro v e g h h1;dsimp only[Out.bind]at q
  cases hb:isB d with
  |none=>
   have:zbz d=none:=by cases d<;>simp[isB]at hb<;>rfl
   rw[this]at q;exact q.elim
  |some b=>
   rw[zdk hb]at q h1;exact⟨b,zgN h1,q _ e g h (.bl _)⟩
def zu9(q:tE cl E (eIf g f h) σ H Q):tIf (tTr cl E g) (tE cl E f) (tE cl E h) σ H Q:=by
 obtain⟨B,w,ρ,S,rfl,R,q⟩:=q;refine⟨B,w,ρ,S,rfl,R,?_⟩;unfold eIf at q
 cases l:g ρ S with
 |bad=>rwa[l]at q|exc c S1=>rwa[l]at q|ok d S1=>
  rw[l]at q;dsimp only[Out.bind]at q ⊢
  cases hb:isB d with
  |none=>rw[hb]at q;exact q.elim|some b=>
   rw[hb]at q;intro m n k
   cases b with
   |true=>
    refine zo0 ⟨B,m,ρ,S1,rfl,n,?_⟩;dsimp only at q
    cases i:f ρ S1 with
    |bad=>rwa[i]at q|exc c S2=>rw[i]at q;exact fun a R2 j=>q a R2 (k.trans j)|ok e S2=>rw[i]at q;exact fun v a R2 j=>q v a R2 (k.trans j)
   |false=>
    refine zo1 ⟨B,m,ρ,S1,rfl,n,?_⟩;dsimp only at q
    cases i:h ρ S1 with
    |bad=>rwa[i]at q|exc c S2=>rw[i]at q;exact fun a R2 j=>q a R2 (k.trans j)|ok e S2=>rw[i]at q;exact fun v a R2 j=>q v a R2 (k.trans j)
def zvl(I:PT X c (tTr cl E g))(J:PE X a (tE cl E f))(hb:PE X b (tE cl E h)):PE X (.IfExp c a b pos) (tE cl E (eIf g f h)):=PE.imp (znl I J hb) fun _ _ _ q=>zu9 q
def zek:PA X [] (tAs cl E []):=by
 refine PA.imp zbU ?_;rintro σ H Q ⟨B,w,ρ,S,rfl,R,q⟩;exact q [] w R (Fut.refl _) .nil
def zaR(J:PE X e (tE cl E f))(I:PA X es (tAs cl E fs))(hs:starEach (e::es) X.env=(false,eval e X.env)::starEach es X.env):PA X (e::es) (tAs cl E (f::fs)):=by
 refine PA.imp (za2 J I hs) ?_;rintro σ H Q ⟨B,w,ρ,S,rfl,R,q⟩;refine⟨B,w,ρ,S,rfl,R,?_⟩;unfold zap at q
 cases hf:f ρ S with
 |bad=>rwa[hf]at q|exc c S1=>rwa[hf]at q|ok d S1=>
  rw[hf]at q;intro v i j h h1;refine⟨B,i,ρ,S1,rfl,j,?_⟩;dsimp only[Out.bind]at q
  cases g:zap fs ρ S1 with
  |bad=>rwa[g]at q|exc c S2=>rw[g]at q;exact fun b R2 a=>q b R2 (h.trans a)|ok ds S2=>
   rw[g]at q;exact fun vs b R2 a h2=>q _ b R2 (h.trans a) (.cons (h1.up a) h2)
def zoA:PA X [] (tHs cl E []):=by
 refine PA.imp zbU ?_;rintro σ H Q ⟨B,w,ρ,S,rfl,R,q⟩;exact q [] w R (Fut.refl _) .nil
def zkQ(J:PE X e (tH cl E f))(I:PA X es (tHs cl E fs))(hs:starEach (e::es) X.env=(false,eval e X.env)::starEach es X.env):PA X (e::es) (tHs cl E (f::fs)):=by
 refine PA.imp (za2 J I hs) ?_;rintro σ H Q ⟨B,w,ρ,S,rfl,R,q⟩;refine⟨B,w,ρ,S,rfl,R,?_⟩;unfold zap at q
 cases hf:f ρ S with
 |bad=>rwa[hf]at q|exc c S1=>rwa[hf]at q|ok d S1=>
  rw[hf]at q;intro v i j h h1;refine⟨B,i,ρ,S1,rfl,j,?_⟩;dsimp only[Out.bind]at q
  cases g:zap fs ρ S1 with
  |bad=>rwa[g]at q|exc c S2=>rw[g]at q;exact fun b R2 a=>q b R2 (h.trans a)|ok ds S2=>
   rw[g]at q;exact fun vs b R2 a h2=>q _ b R2 (h.trans a) (.cons (h1.up a) h2)
def zsa(h:PA X es (tAs cl E fs)):PE X (.Tuple es k pos) (tE cl E (zmh fs)):=by
 refine PE.imp (zoK h) ?_;rintro σ H Q ⟨B,w,ρ,S,rfl,R,q⟩;refine⟨B,w,ρ,S,rfl,R,?_⟩;unfold zmh at q
 cases hf:zap fs ρ S with
 |bad=>rwa[hf]at q|exc c S1=>rwa[hf]at q|ok ds S1=>
  rw[hf]at q;intro vs d e f h1;dsimp only[Out.bind]at q
  cases a:zau ds.length with
  |false=>rw[a,if_neg (by decide)]at q;exact q.elim
  |true=>
   rw[a,if_pos rfl]at q;refine⟨by rw[h1.length];exact zaI a,fun p b=>?_⟩;exact q _ (d.add p (.tup vs)) (e.grow (zaw b _)) (f.trans (zaw b _).fut) (Shd.newT b h1)
def ziZ(h:PA X es (tAs cl E fs)):PE X (.List es pos) (tN cl E (zev fs)):=by
 refine PE.imp (zoN h) ?_;rintro σ H Q ⟨B,w,ρ,S,rfl,R,q⟩;refine⟨B,w,ρ,S,rfl,R,?_⟩;unfold zev at q
 cases hf:zap fs ρ S with
 |bad=>rwa[hf]at q|exc c S1=>rwa[hf]at q|ok ds S1=>
  rw[hf]at q;intro vs b e f h1;dsimp only[Out.bind]at q
  cases a:zau ds.length with
  |false=>rw[a,if_neg (by decide)]at q;exact q.elim
  |true=>
   rw[a,if_pos rfl]at q;refine⟨by rw[h1.length];exact zaI a,fun p d=>?_⟩;exact q _ (.lst vs) b e f d (.lst h1)
def zrQ(J:∀xs H Q,(∃w ds r,w.H=H/\zmB cl w xs ds/\I ds=some r/\∀v w',Grow w w'->Shd cl w' v r->Q v w'.H)->r xs H Q)(q:tE cl E (zaF I fs) σ H Q):tCB r (tHs cl E fs) σ H Q:=by
 obtain⟨B,w,ρ,S,rfl,R,q⟩:=q;refine⟨B,w,ρ,S,rfl,R,?_⟩;unfold zaF at q
 cases hf:zap fs ρ S with
 |bad=>rwa[hf]at q|exc c S1=>rwa[hf]at q|ok ds S1=>
  rw[hf]at q;intro vs f e g h1;dsimp only[Out.bind]at q
  cases a:I ds with
  |none=>rw[a]at q;exact q.elim|some d=>
   rw[a]at q;exact J _ _ _ ⟨f,ds,d,rfl,h1.top e,a,fun v w' b sh=>q v w' (e.grow b) (g.trans b.fut) sh⟩
def zrP(J:∀xs H Q,(∃w ds r,w.H=H/\zmB cl w xs ds/\I ds=some r/\∀p o w',Grow w w'->w'.H p=none->Top cl w' o r->Q (.ref p) (upd w'.H p o))->r xs H Q)(q:tN cl E (zaF I fs) σ H Q):tCB r (tHs cl E fs) σ H Q:=by
 obtain⟨B,w,ρ,S,rfl,R,q⟩:=q;refine⟨B,w,ρ,S,rfl,R,?_⟩;unfold zaF at q
 cases hf:zap fs ρ S with
 |bad=>rwa[hf]at q|exc c S1=>rwa[hf]at q|ok ds S1=>
  rw[hf]at q;intro vs f e h h1;dsimp only[Out.bind]at q
  cases a:I ds with
  |none=>rw[a]at q;exact q.elim|some d=>
   rw[a]at q;exact J _ _ _ ⟨f,ds,d,rfl,h1.top e,a,fun p o w' b g t=>q p o w' (e.grow b) (h.trans b.fut) g t⟩
end
noncomputable def Root.out:Option Root->Option Root|some (.slot _)=>some .far|o=>o
def Root.out_none:Root.out o=none↔o=none:=by
 cases o with
 |none=>exact⟨fun h=>h,fun h=>h⟩|some r=>cases r<;>simp[Root.out]
noncomputable def zdS:Option Root->Bool|some (.fld _ _)=>true|some (.obj _)=>true|some .tab=>true|_=>false
def Wd.inn(w:Wd):Wd:=⟨w.H,fun a=>Root.out (w.ow a),w.mu⟩
def Wd.base(w:Wd):Base:=⟨fun a=>if zdS (w.ow a)=true then none else w.H a,fun a=>Root.out (w.ow a)⟩
def Wd.back(w w':Wd):Wd:=⟨w'.H,fun a=>if(w.base.Fr a).isSome=true then w.ow a else Root.out (w'.ow a),w'.mu⟩
def zbP(w:Wd):Fut w w.inn:=⟨fun a o h k=>⟨h,by show Root.out (w.ow a)=none;rw[k];rfl⟩,fun _ _ h=>h⟩
def zhG{w:Wd}(h:w.H a=some o)(k:zdS (w.ow a)=false):w.base.Fr a=some o:=by
 show(if zdS (w.ow a)=true then none else w.H a)=_;rw[k,if_neg (by decide)];exact h
def zqA{w:Wd}(h:w.base.Fr a=some o):w.H a=some o/\zdS (w.ow a)=false:=by
 have h':(if zdS (w.ow a)=true then none else w.H a)=some o:=h;split at h'
 ·cases h'
 ·rename_i z;exact⟨h',by simpa using z⟩
section
variable{cl:Cf}{B:Base}{σ:St}{w w':Wd}{ρ:Env}{S S':Sto}
def World'.enter(W:World' cl B w S):World' cl w.base w.inn S where
 fr:=fun a o h=>⟨(zqA h).1,rfl⟩
 own:=fun a r h=>by
  have h':Root.out (w.ow a)=some r:=h
  cases e:w.ow a with
  |none=>rw[e]at h';cases h'|some q=>
   cases q with
   |slot i=>rw[e]at h';cases h';exact .inl rfl|far=>rw[e]at h';cases h';exact .inl rfl|fld n f=>exact .inr (by show(if zdS (w.ow a)=true then none else w.H a)=none;rw[e];rfl)
   |obj n=>exact .inr (by show(if zdS (w.ow a)=true then none else w.H a)=none;rw[e];rfl)
   |tab=>exact .inr (by show(if zdS (w.ow a)=true then none else w.H a)=none;rw[e];rfl)
 len:=W.len
 obj:=fun n ob h=>by
  obtain⟨a,e,x⟩:=W.obj n ob h;refine⟨a,e,x.keep (zbP w) fun a o c b=>⟨c,?_⟩⟩;show Root.out (w.ow a)=w.ow a
  cases e:w.ow a with
  |none=>rfl|some q=>cases q with
   |slot i=>rw[e]at b;exact b.elim|_=>rfl
 tab:=W.tab.keep (zbP w) fun P ps h1 h2=>⟨h1,by show Root.out (w.ow P)=_;rw[h2];rfl⟩
def zcO(W:World' cl B w S)(h:B.Fr a=some o):w.base.Fr a=some o:=by
 refine zhG (W.fr a o h).1 ?_
 cases e:w.ow a with
 |none=>rfl|some q=>
  rcases W.own a q e with rfl|z
  ·rfl
  ·rw[h]at z;cases z
def zcj(I:World' cl w.base w' S'):Fut w' (w.back w')where
 keep:=fun a o h k=>by
  refine⟨h,?_⟩;show(if(w.base.Fr a).isSome=true then w.ow a else Root.out (w'.ow a))=none;split
  ·rename_i z;obtain⟨u,b⟩:=Option.isSome_iff_exists.mp z;have:=(I.fr a u b).2;rw[k]at this;exact Root.out_none.mp this.symm
  ·rw[k];rfl
 mu:=fun _ _ h=>h
def Rel.leave(R:Rel cl B σ w ρ S)(I:World' cl w.base w' S')(F:Fut w.inn w'):Rel cl B σ (w.back w') ρ S'/\Fut w (w.back w'):=by
 have fb:=zcj I;have g:Fut w (w.back w'):=(zbP w).trans (F.trans fb)
 have in_:∀a o,w.base.Fr a=some o->(w.back w').H a=some o/\(w.back w').ow a=w.ow a:=fun a o h=>by
  refine⟨(I.fr a o h).1,?_⟩;show(if(w.base.Fr a).isSome=true then w.ow a else _)=_;rw[h];rfl
 refine⟨⟨⟨fun a o h=>?_,fun a r h=>?_,I.len,fun n ob h=>?_,fun P q h=>?_⟩,R.len,fun i o d h=>?_⟩,g⟩
 ·have:=in_ a o (zcO R.wd h);exact⟨this.1,this.2.trans (R.wd.fr a o h).2⟩
 ·cases hb:B.Fr a with
  |none=>exact .inr rfl|some o=>
   have:=(in_ a o (zcO R.wd hb)).2;rw[h]at this
   rcases R.wd.own a r this.symm with z|z
   ·exact .inl z
   ·rw[hb]at z;cases z
 ·obtain⟨a,e,x⟩:=I.obj n ob h;refine⟨a,e,x.keep fb fun a o c b=>⟨c,?_⟩⟩;show(if(w.base.Fr a).isSome=true then w.ow a else Root.out (w'.ow a))=_
  cases e:w'.ow a with
  |none=>rw[e]at b;exact b.elim|some q=>
   rcases I.own a q e with rfl|z
   ·rw[e]at b;exact b.elim
   ·rw[z]
    cases q with
    |slot i=>rw[e]at b;exact b.elim|_=>rfl
 ·obtain⟨ps,h1,h2,j⟩:=I.tab P q h;obtain⟨_,_,g2,_⟩:=R.wd.tab P q h;refine⟨ps,h1,?_,j.up fb⟩
  have hb:w.base.Fr P=none:=by show(if zdS (w.ow P)=true then none else w.H P)=none;rw[g2];rfl
  show(if(w.base.Fr P).isSome=true then w.ow P else Root.out (w'.ow P))=_;rw[hb,h2];rfl
 ·obtain⟨v,e,x⟩:=R.slots i o d h;refine⟨v,e,x.keep g fun a u c f=>?_⟩;have:=in_ a u (zhG c (by rw[f];rfl));exact⟨this.1,this.2.trans f⟩
noncomputable def Wd.del(w:Wd)(a:Addr):Wd:=⟨fun b=>if b=a then none else w.H b,w.ow,w.mu⟩
def zgm(k:w.ow a≠none):Fut w (w.del a)where
 keep:=fun b o h e=>⟨by
  show(if b=a then none else w.H b)=_
  rw[if_neg (fun z=>k (by rw[<-z];exact e))];exact h,e⟩
 mu:=fun _ _ h=>h
def zkv(h:w.H a=some o):upd (w.del a).H a o=w.H:=by
 funext b
 by_cases e:b=a
 ·rw[e,zao,h]
 ·rw[zab e];show(if b=a then none else w.H b)=_;rw[if_neg e]
theorem Rel.del(R:Rel cl B σ w ρ S)(k:w.ow a=some .far)(hb:B.Fr a=none):Rel cl B σ (w.del a) ρ S:=by
 have fd:Fut w (w.del a):=zgm (by rw[k];exact yaF _)
 have kp:∀b o,w.H b=some o->b≠a->(w.del a).H b=some o:=fun b o h n=>by
  show(if b=a then none else w.H b)=_;rw[if_neg n];exact h
 refine⟨⟨fun b o h=>⟨kp b o (R.wd.fr b o h).1 (fun z=>by rw[z,hb]at h;cases h),(R.wd.fr b o h).2⟩,R.wd.own,R.wd.len,fun n ob h=>?_,R.wd.tab.keep fd fun P ps h1 h2=>⟨kp P _ h1 (fun z=>by rw[z,k]at h2;cases h2),h2⟩⟩,R.len,fun i o d h=>?_⟩
 ·obtain⟨c,e,x⟩:=R.wd.obj n ob h;exact⟨c,e,x.keep fd fun b o f j=>⟨kp b o f (fun z=>by rw[z,k]at j;exact j.elim),rfl⟩⟩
 ·obtain⟨v,e,x⟩:=R.slots i o d h;exact⟨v,e,x.keep fd fun b o f g=>⟨kp b o f (fun z=>by rw[z,k]at g;cases g),g⟩⟩
end
noncomputable def zxW(cl:Cf)(w:Wd):Bool->V->D->Prop
 |false,v,d=>Shd cl w v d|true,v,d=>∃a o i,v=.ref a/\w.ow a=some (.slot i)/\w.H a=some o/\Top cl w o d
noncomputable def zgA(cl:Cf)(n:Nat)(own:Bool)(G:List D->Sto->Out D):Sp:=fun vs H Q E=>vs.length=n/\∃B w ds S,w.H=H/\World' cl B w S/\Shds cl w vs ds/\match G ds S with
 |.ok d S'=>∀v w',World' cl B w' S'->Fut w w'->zxW cl w' own v d->Q v w'.H|.exc c S'=>∀w',World' cl B w' S'->Fut w w'->E (.ref (cl c)) none w'.H|.bad=>False
noncomputable def zc9(CX:CXT)(X:Cx)(E:St->XK):Prop:=∀(pins:Z3) (σ:St) (H:Hp) (s:Shared) (e:Value) (s':Shared),Inv X pins σ H s->CX X.stack H s (E σ) e s'->X.xe e s'
noncomputable def zgI(sp:Sp)(dvs:List V)(E:St->XK)(t:TA):TE:=fun σ H Q=>t σ H fun vs H1=>sp (vs++dvs) H1 Q (E σ)
section
variable{X:Cx}{CX:CXT}{k:Nat}{f C:Addr}{fd:FuncData}{ps:List Str}{sp:Sp}{dvs:List V}{ds:List Value}{E:St->XK}{x m:Str}{p pos apos:Pos}{e o:Expr}{es:List Expr}{ta:TE}{t:TA}
def zf3(F:FnOk X.prog X.w X.K X.mg X.base CX k f fd ps sp)(U:Room k X.A)(hb:zcR X.K fd ps ds)(hd:Vals dvs ds)(J:zc9 CX X E)
  (I:Inv X pins σ H s) (r:Vals vs us) (h:sp (vs++dvs) H Q (E σ)):wpAny (model X.prog X.w) X.A (call (.ref f) us) (EP X pins σ Q) X.xe s:=by
 have r2:Vals (vs++dvs) (us++ds):=r.append hd
 have b:(us++ds).length=ps.length:=by rw[<-r2.length];exact F.len _ _ _ _ h
 refine ydd (ybQ (F.run X.A X.stack s H ⟨us,[]⟩ (us++ds) (vs++dvs) Q (E σ) U I.env0 (hb s us I.kIn b) r2 h) fun r s' a=>?_)
 cases r with
 |error e=>exact J pins σ H s e s' I a|ok c=>
  cases c with
  |ret u=>exact I.after a|next=>exact False.elim a|brk=>exact False.elim a|cont=>exact False.elim a
def zns(F:FnOk X.prog X.w X.K X.mg X.base CX k f fd ps sp)(hr:Room k X.A)(hg:Gl X x)(hm:X.mg x=some (.ref f))(hk:PySem.W.keepIn X.K (.ref f)=true)(hb:zcR X.K fd ps ds)(hd:Vals dvs ds)(U:zc9 CX X E)
  (ha:PA X (e::es) t) (J:(x==("__debug__":Str))=false) (he:starEach (e::es) X.env=(false,eval e X.env)::starEach es X.env) (af:(backTo pos (starEach es X.env)).any (·.1)=false):
  PE X (.Call (.Name x p) (e::es) [] pos) (zgI sp dvs E t):=by
 intro pins s σ H Q I h;refine ybe (zc0 I hg hm ?_ J);refine ybZ (h₀:=X.base) I.ok.mod.kin hk (thn (ha pos pins s σ H _ I h) fun us s1 ⟨vs,H1,a,r,q⟩=>⟨a.kIn,?_⟩) he af;exact zf3 F hr hb hd U a r q
def zlo(F:FnOk X.prog X.w X.K X.mg X.base CX k f fd ps sp)(hr:Room k X.A)(hg:Gl X x)(hm:X.mg x=some (.ref f))(hk:PySem.W.keepIn X.K (.ref f)=true)(hb:zcR X.K fd ps ds)(hd:Vals dvs ds)(U:zc9 CX X E)
  (J:(x==("__debug__":Str))=false):PE X (.Call (.Name x p) [] [] pos) (zgI sp dvs E zuy):=by
 intro pins s σ H Q I h;refine ybe (zc0 I hg hm ?_ J);exact PySem.W.callWith_K0 I.kIn hk (zf3 (us:=[]) F hr hb hd U I .nil h)
end
def eFn(G:List D->Sto->Out D)(fs:List Fe):Fe:=fun ρ S=>(zap fs ρ S).bind fun ds S1=>G ds S1
section
variable{cl:Cf}{E:St->XK}{fs:List Fe}{G:List D->Sto->Out D}{σ:St}{H:Hp}{Q:VK}{n:Nat}
def zud(q:tE cl E (eFn G fs) σ H Q)(I:fs.length=n):zgI (zgA cl n false G) [] E (tAs cl E fs) σ H Q:=by
 obtain⟨B,w,ρ,S,rfl,R,q⟩:=q;refine⟨B,w,ρ,S,rfl,R,?_⟩;unfold eFn at q
 cases hf:zap fs ρ S with
 |bad=>rwa[hf]at q|exc c S1=>rwa[hf]at q|ok ds S1=>
  rw[hf]at q;intro vs a j m h1;dsimp only[Out.bind]at q
  have p:∀(fs:List Fe) (S S1:Sto) (ds:List D),zap fs ρ S=.ok ds S1->ds.length=fs.length:=by
   intro fs
   induction fs with
   |nil=>intro S S1 ds h;cases h;rfl|cons f fs o=>
    intro S S1 ds h;unfold zap at h
    cases h1:f ρ S with
    |bad=>rw[h1]at h;cases h|exc c S2=>rw[h1]at h;cases h|ok d S2=>
     rw[h1]at h;dsimp only[Out.bind]at h
     cases h2:zap fs ρ S2 with
     |bad=>rw[h2]at h;cases h|exc c r=>rw[h2]at h;cases h|ok es r=>rw[h2]at h;cases h;rw[yad,yad,o S2 _ es h2]
  refine⟨by rw[yaQ,h1.length,p fs S S1 ds hf];exact I,a.base,a.inn,ds,S1,rfl,j.wd.enter,by rw[yaQ];exact h1.up (zbP a),?_⟩
  cases g:G ds S1 with
  |bad=>rwa[g]at q|exc c S2=>
   rw[g]at q;intro e b l;obtain⟨i,k⟩:=j.leave b l;exact q (a.back e) i (m.trans k)
  |ok d S2=>
   rw[g]at q;intro v e b l r2;obtain⟨i,k⟩:=j.leave b l;exact q v (a.back e) i (m.trans k) (Shd.up (zcj b) r2)
def zuc(q:tN cl E (eFn G fs) σ H Q)(I:fs.length=n):zgI (zgA cl n true G) [] E (tAs cl E fs) σ H Q:=by
 obtain⟨B,w,ρ,S,rfl,R,q⟩:=q;refine⟨B,w,ρ,S,rfl,R,?_⟩;unfold eFn at q
 cases hf:zap fs ρ S with
 |bad=>rwa[hf]at q|exc c S1=>rwa[hf]at q|ok ds S1=>
  rw[hf]at q;intro vs b k s h1;dsimp only[Out.bind]at q
  have y:∀(fs:List Fe) (S S1:Sto) (ds:List D),zap fs ρ S=.ok ds S1->ds.length=fs.length:=by
   intro fs
   induction fs with
   |nil=>intro S S1 ds h;cases h;rfl|cons f fs x=>
    intro S S1 ds h;unfold zap at h
    cases h1:f ρ S with
    |bad=>rw[h1]at h;cases h|exc c S2=>rw[h1]at h;cases h|ok d S2=>
     rw[h1]at h;dsimp only[Out.bind]at h
     cases h2:zap fs ρ S2 with
     |bad=>rw[h2]at h;cases h|exc c A=>rw[h2]at h;cases h|ok es A=>rw[h2]at h;cases h;rw[yad,yad,x S2 _ es h2]
  refine⟨by rw[yaQ,h1.length,y fs S S1 ds hf];exact I,b.base,b.inn,ds,S1,rfl,k.wd.enter,by rw[yaQ];exact h1.up (zbP b),?_⟩
  cases l:G ds S1 with
  |bad=>rwa[l]at q|exc c S2=>
   rw[l]at q;intro e j r;obtain⟨m,p⟩:=k.leave j r;exact q (b.back e) m (s.trans p)
  |ok d S2=>
   rw[l]at q;intro v e j r r2;obtain⟨m,p⟩:=k.leave j r;obtain⟨a,o,i,rfl,k1,k2,t⟩:=r2;have g:b.base.Fr a=none:=(j.own a _ k1).elim (fun z=>by cases z) fun z=>z
   have k3:(b.back e).ow a=some .far:=by
    show(if(b.base.Fr a).isSome=true then b.ow a else Root.out (e.ow a))=_;rw[g,k1];rfl
   have hb:B.Fr a=none:=by
    cases z:B.Fr a with
    |none=>rfl|some u=>rw[zcO k.wd z]at g;cases g
   have hd:=zgm (w:=b.back e) (a:=a) (by rw[k3];exact yaF _);have:=q a o ((b.back e).del a) (m.del k3 hb) (s.trans (p.trans hd)) (if_pos rfl) ((t.up (zcj j)).up hd);rwa[zkv (w:=b.back e) k2]at this
end
noncomputable def frz1(ρ:Env)(i:Nat):Env:=match ρ[i]? with|some (some (true,d))=>ρ.set i (some (false,d))|_=>ρ
def frz(is:List Nat)(ρ:Env):Env:=is.foldl frz1 ρ
def sFz(is:List Nat)(f:Fs):Fs:=fun ρ S=>f (frz is ρ) S
noncomputable def sNx:Fs:=fun ρ S=>.nx ρ S
noncomputable def zag(f g:Fs):Fs:=fun ρ S=>match f ρ S with|.nx a S'=>g a S'|o=>o
noncomputable def zbO(i:Nat)(own:Bool)(f:Fe):Fs:=fun ρ S=>match f ρ S with|.ok d S'=>.nx (ρ.set i (some (own,d))) S'|.exc c S'=>.ex c ρ S'|.bad=>.bad
noncomputable def zk2(f:Fe):Fs:=fun ρ S=>match f ρ S with|.ok _ S'=>.nx ρ S'|.exc c S'=>.ex c ρ S'|.bad=>.bad
noncomputable def zbd(f:Fe):Fs:=fun ρ S=>match f ρ S with|.ok d S'=>.rt d S'|.exc c S'=>.ex c ρ S'|.bad=>.bad
noncomputable def zjM(i:Nat):Fs:=fun ρ S=>match ρ[i]? with|some (some (true,d))=>.rt d S|_=>.bad
def sIf(c:Fe)(f g:Fs):Fs:=fun ρ S=>match c ρ S with|.ok d S'=>(match isB d with|some true=>f ρ S'|some false=>g ρ S'|none=>.bad)|.exc x S'=>.ex x ρ S'|.bad=>.bad
noncomputable def zhM(cl:Cf)(E:St->XK)(own:Bool)(B:Base)(w:Wd)(I:Ends):Fo->Prop
 |.nx b S'=>∀a w',Rel cl B a w' b S'->Fut w w'->I.nx a w'.H|.bk b S'=>∀a w',Rel cl B a w' b S'->Fut w w'->I.bk a w'.H|.ct b S'=>∀a w',Rel cl B a w' b S'->Fut w w'->I.ct a w'.H|.rt d S'=>∀v w',World' cl B w' S'->Fut w w'->zxW cl w' own v d->I.rt v w'.H|.ex c b S'=>∀a w',Rel cl B a w' b S'->Fut w w'->E a (.ref (cl c)) none w'.H|.bad=>False
theorem zhM.up(f:Fut w I):∀{o:Fo},zhM cl E own B w J o->zhM cl E own B I J o
 |.nx _ _,h=>fun a w' R F=>h a w' R (f.trans F)|.bk _ _,h=>fun a w' R F=>h a w' R (f.trans F)|.ct _ _,h=>fun a w' R F=>h a w' R (f.trans F)|.rt _ _,h=>fun v w' R F=>h v w' R (f.trans F)|.ex _ _ _,h=>fun a w' R F=>h a w' R (f.trans F)|.bad,h=>h
noncomputable def tS(cl:Cf)(E:St->XK)(own:Bool)(f:Fs):TS:=fun a σ H=>∃B w ρ S,w.H=H/\Rel cl B σ w ρ S/\zhM cl E own B w a (f ρ S)
def PS.imp{X:Cx}{st:Stmt}{t t':TS}(h:PS X st t)(i:∀J σ H,t' J σ H->t J σ H):PS X st t':=fun pins s σ H J I q=>h pins s σ H J I (i _ _ _ q)
def PSs.imp{X:Cx}{st:List Stmt}{t t':TS}(h:PSs X st t)(i:∀J σ H,t' J σ H->t J σ H):PSs X st t':=fun pins s σ H J I q=>h pins s σ H J I (i _ _ _ q)
section
variable{cl:Cf}{B:Base}{σ:St}{w:Wd}{ρ:Env}{S:Sto}
def Rel.put(R:Rel cl B σ w ρ S)(h:Shd cl w v d):Rel cl B (σ.set i (some v)) w (ρ.set i (some (false,d))) S where
 wd:=R.wd
 len:=by rw[yaP,yaP];exact R.len
 slots:=fun j o e b=>by
  by_cases c:i=j
  ·subst c
   have a:i<ρ.length:=by
    have:=(yas.mp b).1;rwa[yaP]at this
   rw[yaG a]at b;cases b;exact⟨v,by rw[yaG (by rw[R.len];exact a)],h⟩
  ·rw[yaS c]at b ⊢;exact R.slots j o e b
def Wd.addAs(w:Wd)(p:Addr)(o:HO)(r:Root):Wd:=⟨upd w.H p o,fun a=>if a=p then some r else if w.ow a=some r then some .far else w.ow a,w.mu⟩
def zbL(h:w.H p=none):Fut w (w.addAs p o r)where
 keep:=fun a u b hk=>by
  have n:a≠p:=zat b h;refine⟨?_,?_⟩
  ·show upd w.H p o a=_;rw[zab n];exact b
  ·show(if a=p then some r else if w.ow a=some r then some Root.far else w.ow a)=none;rw[if_neg n,if_neg (by rw[hk];exact fun z=>by cases z)];exact hk
 mu:=fun _ _ h=>h
theorem Rel.own(R:Rel cl B σ w ρ S)(I:w.H p=none)(t:Top cl w o d):Rel cl B (σ.set i (some (.ref p))) (w.addAs p o (.slot i)) (ρ.set i (some (true,d))) S:=by
 have l:=zbL (w:=w) (p:=p) (o:=o) (r:=.slot i) I
 have kp:∀a u,w.H a=some u->w.ow a≠some (.slot i)->(w.addAs p o (.slot i)).H a=some u/\(w.addAs p o (.slot i)).ow a=w.ow a:=fun a u k hk=>by
  have n:a≠p:=zat k I;refine⟨?_,?_⟩
  ·show upd w.H p o a=_;rw[zab n];exact k
  ·show(if a=p then _ else if w.ow a=some (Root.slot i)then some Root.far else w.ow a)=_;rw[if_neg n,if_neg hk]
 have q:B.Fr p=none:=by
  cases z:B.Fr p with
  |none=>rfl|some u=>have:=(R.wd.fr p u z).1;rw[I]at this;cases this
 refine⟨⟨fun a u h=>?_,fun a r h=>?_,R.wd.len,fun n ob h=>?_,R.wd.tab.keep l fun P ps h1 h2=>⟨(kp P _ h1 (by rw[h2];simp)).1,(kp P _ h1 (by rw[h2];simp)).2.trans h2⟩⟩,by rw[yaP,yaP];exact R.len,fun j b e g=>?_⟩
 ·have m:w.ow a≠some (.slot i):=fun z=>by
   rcases R.wd.own a _ z with y|y
   ·cases y
   ·rw[h]at y;cases y
  have:=kp a u (R.wd.fr a u h).1 m;exact⟨this.1,this.2.trans (R.wd.fr a u h).2⟩
 ·have h':(if a=p then some (Root.slot i)else if w.ow a=some (Root.slot i)then some Root.far else w.ow a)=some r:=h;split at h'
  ·rename_i e;rw[e];exact .inr q
  ·split at h'
   ·cases h';exact .inl rfl
   ·exact R.wd.own a r h'
 ·obtain⟨a,e,x⟩:=R.wd.obj n ob h;exact⟨a,e,x.keep l fun b u hb A=>kp b u hb fun z=>by rwa[z]at A⟩
 ·by_cases c:i=j
  ·subst c
   have f:i<ρ.length:=by
    have:=(yas.mp g).1;rwa[yaP]at this
   rw[yaG f]at g;cases g;exact⟨.ref p,by rw[yaG (by rw[R.len];exact f)],p,o,rfl,if_pos rfl,zao,t.up l⟩
  ·rw[yaS c]at g ⊢;obtain⟨v,C,x⟩:=R.slots j b e g;refine⟨v,C,x.keep l fun a u k s=>?_⟩;have:=kp a u k (by rw[s];exact fun z=>c (by cases z;rfl));exact⟨this.1,this.2.trans s⟩
def Wd.mut(w:Wd)(p:Addr)(o:HO):Wd:=⟨upd w.H p o,w.ow,w.mu⟩
def zdx(h:w.ow p≠none):Fut w (w.mut p o)where
 keep:=fun a u b hk=>⟨by
  show upd w.H p o a=_
  rw[zab (fun z=>h (by rw[<-z];exact hk))];exact b,hk⟩
 mu:=fun _ _ h=>h
theorem Rel.mut{i:Nat}{p:Addr}{o:HO}{d d0:D}(R:Rel cl B σ w ρ S)(hs:σ[i]?=some (some (.ref p)))(hk:w.ow p=some (.slot i))(t:Top cl w o d):Rel cl B σ (w.mut p o) (ρ.set i (some (true,d))) S:=by
 have g:=zdx (w:=w) (p:=p) (o:=o) (by rw[hk];exact yaF _)
 have kp:∀a u,w.H a=some u->w.ow a≠some (.slot i)->(w.mut p o).H a=some u/\(w.mut p o).ow a=w.ow a:=fun a u q l=>⟨by
  show upd w.H p o a=_
  rw[zab (fun z=>l (by rw[z];exact hk))];exact q,rfl⟩
 have s:B.Fr p=none:=(R.wd.own p _ hk).elim (fun z=>by cases z) fun z=>z
 refine⟨⟨fun a u h=>?_,R.wd.own,R.wd.len,fun n ob h=>?_,R.wd.tab.keep g fun P ps h1 h2=>⟨(kp P _ h1 (by rw[h2];simp)).1,(kp P _ h1 (by rw[h2];simp)).2.trans h2⟩⟩,by rw[yaP];exact R.len,fun j b e f=>?_⟩
 ·have k:w.ow a≠some (.slot i):=fun z=>by
   rcases R.wd.own a _ z with y|y
   ·cases y
   ·rw[h]at y;cases y
  have:=kp a u (R.wd.fr a u h).1 k;exact⟨this.1,(R.wd.fr a u h).2⟩
 ·obtain⟨a,e,x⟩:=R.wd.obj n ob h;exact⟨a,e,x.keep g fun b u hb l=>kp b u hb fun z=>by rwa[z]at l⟩
 ·by_cases c:i=j
  ·subst c
   have m:i<ρ.length:=by
    have:=(yas.mp f).1;rwa[yaP]at this
   rw[yaG m]at f;cases f;exact⟨.ref p,hs,p,o,rfl,hk,zao,t.up g⟩
  ·rw[yaS c]at f;obtain⟨v,A,x⟩:=R.slots j b e f;refine⟨v,A,x.keep g fun a u q r=>?_⟩;have:=kp a u q (by rw[r];exact fun z=>c (by cases z;rfl));exact⟨this.1,this.2.trans r⟩
noncomputable def Wd.free(w:Wd)(r:Root):Wd:=⟨w.H,fun a=>if w.ow a=some r then none else w.ow a,w.mu⟩
theorem Rel.frz1{X:Cx}{pins:Z3}{s:Shared}(R:Rel cl B σ w ρ S)(i:Nat)(I:Inv X pins σ w.H s):∃w',Inv X pins σ w'.H s/\Fut w w'/\Rel cl B σ w' (frz1 ρ i) S:=by
 unfold S2.frz1;split
 ·rename_i d hd;obtain⟨v,E,a,o,rfl,h1,h2,t⟩:=R.slots i true d hd;obtain⟨o',J,m⟩:=t.fz I h2;generalize l:((w.mut a o').free (.slot i):Wd)=w'
  have D:w'.H=upd w.H a o':=by rw[<-l];rfl
  have A:∀b,w'.ow b=if w.ow b=some (.slot i)then none else w.ow b:=fun b=>by rw[<-l];rfl
  have C:w'.mu=w.mu:=by rw[<-l];rfl
  have kp:∀b u,w.H b=some u->w.ow b≠some (.slot i)->w'.H b=some u/\w'.ow b=w.ow b:=fun b u hb g=>⟨by
   rw[D,zab (fun z=>g (by rw[z];exact h1))];exact hb,by rw[A,if_neg g]⟩
  have f:Fut w w':=⟨fun b u hb hk=>⟨(kp b u hb (by rw[hk];simp)).1,(kp b u hb (by rw[hk];simp)).2.trans hk⟩,fun n b h=>by rw[C];exact h⟩;refine⟨w',by rw[D];exact J,f,⟨fun b u h=>?_,fun b r h=>?_,by rw[C];exact R.wd.len,fun n ob h=>?_,R.wd.tab.keep f fun P ps h1 h2=>⟨(kp P _ h1 (by rw[h2];simp)).1,(kp P _ h1 (by rw[h2];simp)).2.trans h2⟩⟩,by rw[yaP];exact R.len,fun j b e k=>?_⟩
  ·have p:w.ow b≠some (.slot i):=fun z=>by
    rcases R.wd.own b _ z with y|y
    ·cases y
    ·rw[h]at y;cases y
   have:=kp b u (R.wd.fr b u h).1 p;exact⟨this.1,this.2.trans (R.wd.fr b u h).2⟩
  ·rw[A]at h;split at h
   ·cases h
   ·exact R.wd.own b r h
  ·obtain⟨b,e,x⟩:=R.wd.obj n ob h;exact⟨b,by rw[C];exact e,x.keep f fun b u hb g=>kp b u hb fun z=>by rwa[z]at g⟩
  ·by_cases c:i=j
   ·subst c;have q:i<ρ.length:=(yas.mp hd).1;rw[yaG q]at k;cases k;exact⟨.ref a,E,m w' f (by rw[D,zao]) (by rw[A,if_pos h1])⟩
   ·rw[yaS c]at k;obtain⟨v,E,x⟩:=R.slots j b e k;refine⟨v,E,x.keep f fun a u G F=>?_⟩;have:=kp a u G (by rw[F];exact fun z=>c (by cases z;rfl));exact⟨this.1,this.2.trans F⟩
 ·exact⟨w,I,Fut.refl _,R⟩
theorem Rel.frz{X:Cx}{pins:Z3}{s:Shared}:∀(is:List Nat) {w:Wd}{ρ:Env},Rel cl B σ w ρ S->Inv X pins σ w.H s->∃w',Inv X pins σ w'.H s/\Fut w w'/\Rel cl B σ w' (frz is ρ) S
 |[],w,ρ,R,I=>⟨w,I,Fut.refl _,R⟩|i::is,w,ρ,R,I=>by
  obtain⟨e,d,f1,b⟩:=R.frz1 i I;obtain⟨a,c,f2,R2⟩:=Rel.frz is b d;exact⟨a,c,f1.trans f2,R2⟩
end
section
variable{X:Cx}{cl:Cf}{E:St->XK}{own:Bool}{st:Stmt}{zbG:List Stmt}{f g:Fs}{e:Expr}{fe:Fe}{pos pos':Pos}
def zvf(is:List Nat)(h:PS X st (tS cl E own f)):PS X st (tS cl E own (sFz is f)):=by
 intro pins s σ H d I q;obtain⟨B,w,ρ,S,rfl,R,q⟩:=q;obtain⟨w',c,a,b⟩:=R.frz is I;exact h pins s σ w'.H d c ⟨B,w',frz is ρ,S,rfl,b,zhM.up a q⟩
def ziT:PSs X [] (tS cl E own sNx):=by
 refine PSs.imp zqg ?_;rintro a σ H ⟨B,w,ρ,S,rfl,R,q⟩;exact q σ w R (Fut.refl _)
def zd0(h1:PS X st (tS cl E own f))(h2:PSs X zbG (tS cl E own g)):PSs X (st::zbG) (tS cl E own (zag f g)):=by
 refine PSs.imp (zna h1 h2) ?_;rintro i σ H ⟨B,w,ρ,S,rfl,R,q⟩;refine⟨B,w,ρ,S,rfl,R,?_⟩;unfold zag at q
 cases hf:f ρ S with
 |nx a S'=>
  rw[hf]at q;intro b w' e h;exact⟨B,w',a,S',rfl,e,zhM.up h q⟩
 |bk a S'=>rwa[hf]at q|ct a S'=>rwa[hf]at q|rt d S'=>rwa[hf]at q|ex c a S'=>rwa[hf]at q|bad=>rwa[hf]at q
def zws(q:tS cl E own (zbO i false fe) I σ H):zrv (tE cl E fe) (zma i) I σ H:=by
 obtain⟨B,w,ρ,S,rfl,R,q⟩:=q;refine⟨B,w,ρ,S,rfl,R,?_⟩;unfold zbO at q
 cases hf:fe ρ S with
 |bad=>rwa[hf]at q|exc c S1=>rw[hf]at q;exact fun w' a b=>q σ w' a b|ok d S1=>
  rw[hf]at q;intro v w' a b h';exact q _ w' (a.put h') b
def zul(q:tS cl E own (zbO i true fe) I σ H):zrv (tN cl E fe) (zma i) I σ H:=by
 obtain⟨B,w,ρ,S,rfl,R,q⟩:=q;refine⟨B,w,ρ,S,rfl,R,?_⟩;unfold zbO at q
 cases hf:fe ρ S with
 |bad=>rwa[hf]at q|exc c S1=>rw[hf]at q;exact fun w' a b=>q σ w' a b|ok d S1=>
  rw[hf]at q;intro p o w' a b e t;exact q _ (w'.addAs p o (.slot i)) (a.own e t) (b.trans (zbL e))
def zoy(hN:X.N.Nodup)(hi:X.N[i]?=some x)(I:Loc X.env.scope x)(he:PE X e (tE cl E fe))(hs:swapsWith e (some (.Name x pos')) pos.line X.env=pure false)(hf:X.fn x=true\/X.env.scope.names.lookup x=some .local):PS X (.Assign [.Name x pos'] e pos) (tS cl E own (zbO i false fe)):=
 PS.imp (zoI hN hi I he hs hf) fun _ _ _ q=>zws q
def zhP(hN:X.N.Nodup)(hi:X.N[i]?=some x)(I:Loc X.env.scope x)(he:PE X e (tN cl E fe))(hs:swapsWith e (some (.Name x pos')) pos.line X.env=pure false)(hf:X.fn x=true\/X.env.scope.names.lookup x=some .local):PS X (.Assign [.Name x pos'] e pos) (tS cl E own (zbO i true fe)):=
 PS.imp (zoI hN hi I he hs hf) fun _ _ _ q=>zul q
def zr0(he:PE X e (tE cl E fe))(hs:swapsWith e none pos.line X.env=pure false):PS X (.Expr e pos) (tS cl E own (zk2 fe)):=by
 refine PS.imp (zd3 he hs) ?_;rintro f σ H ⟨B,w,ρ,S,rfl,R,q⟩;refine⟨B,w,ρ,S,rfl,R,?_⟩;unfold zk2 at q
 cases hf:fe ρ S with
 |bad=>rwa[hf]at q|exc c S1=>rw[hf]at q;exact fun w' a b=>q σ w' a b|ok d S1=>rw[hf]at q;exact fun v w' a b _=>q σ w' a b
def zkL(he:PE X e (tE cl E fe)):PS X (.Return (some e) pos) (tS cl E false (zbd fe)):=by
 refine PS.imp (zgZ he) ?_;rintro f σ H ⟨B,w,ρ,S,rfl,R,q⟩;refine⟨B,w,ρ,S,rfl,R,?_⟩;unfold zbd at q
 cases hf:fe ρ S with
 |bad=>rwa[hf]at q|exc c S1=>rw[hf]at q;exact fun w' a b=>q σ w' a b|ok d S1=>rw[hf]at q;exact fun v w' a b h'=>q v w' a.wd b h'
def zpD(he:PE X e (tN cl E fe)):PS X (.Return (some e) pos) (tS cl E true (zbd fe)):=by
 refine PS.imp (zgZ he) ?_;rintro h σ H ⟨B,w,ρ,S,rfl,R,q⟩;refine⟨B,w,ρ,S,rfl,R,?_⟩;unfold zbd at q
 cases hf:fe ρ S with
 |bad=>rwa[hf]at q|exc c S1=>rw[hf]at q;exact fun w' a b=>q σ w' a b|ok d S1=>
  rw[hf]at q;intro p o w' a b f t;have g:=zbL (w:=w') (p:=p) (o:=o) (r:=.slot 0) f;exact q (.ref p) (w'.addAs p o (.slot 0)) (Rel.own (i:=0) a f t).wd (b.trans g) ⟨p,o,0,rfl,if_pos rfl,zao,t.up g⟩
def zpC(hN:X.N[i]?=some x)(hv:Vis X.env.scope x)(hd:(x==("__debug__":Str))=false)(hcd:(x==("__classdict__":Str))=false):PS X (.Return (some (.Name x pos')) pos) (tS cl E true (zjM i)):=by
 refine PS.imp (zgZ (zaT hN hv hd hcd)) ?_;rintro c σ H ⟨B,w,ρ,S,rfl,R,q⟩;unfold zjM at q;split at q
 ·rename_i d hd;obtain⟨v,b,a,o,rfl,h1,h2,t⟩:=R.slots i true d hd;exact⟨_,b,q _ w R.wd (Fut.refl _) ⟨a,o,i,rfl,h1,h2,t⟩⟩
 ·exact q.elim
def zrX(I:PT X c (tTr cl E fc))(J:PSs X a (tS cl E own f))(hb:PSs X b (tS cl E own g)):PS X (.If c a b pos) (tS cl E own (sIf fc f g)):=by
 refine PS.imp (zvu I J hb) ?_;rintro m σ H ⟨B,w,ρ,S,rfl,R,q⟩;refine⟨B,w,ρ,S,rfl,R,?_⟩;unfold sIf at q
 cases e:fc ρ S with
 |bad=>rwa[e]at q|exc c S1=>rw[e]at q;exact fun w' k l=>q σ w' k l|ok d S1=>
  rw[e]at q;dsimp only at q ⊢
  cases hb:isB d with
  |none=>rw[hb]at q;exact q.elim|some b=>
   rw[hb]at q;intro h i j
   cases b with
   |true=>exact zo0 ⟨B,h,ρ,S1,rfl,i,zhM.up j q⟩|false=>exact zo1 ⟨B,h,ρ,S1,rfl,i,zhM.up j q⟩
end
def zkm(i:Nat)(fe:Fe):Fs:=fun ρ S=>match ρ[i]? with
 |some (some (true,.lst l))=>(match fe ρ S with
  |.ok d S'=>if zau l.length then .nx (ρ.set i (some (true,.lst (l++[d])))) S' else .bad
  |.exc c S'=>.ex c ρ S'|.bad=>.bad)
 |_=>.bad
section
variable{X:Cx}{cl:Cf}{E:St->XK}{own:Bool}{e:Expr}{fe:Fe}{pos pos':Pos}
def zdI(h:zau n=true):n<sizeLine:=yc4 (yah h) (by decide)
def Rel.list(R:Rel cl B σ w ρ S)(h:ρ[i]?=some (some (true,.lst l))):∃a xs,σ[i]?=some (some (.ref a))/\w.ow a=some (.slot i)/\w.H a=some (.lst xs)/\Shds cl w xs l:=by
 obtain⟨v,b,a,o,rfl,h1,h2,t⟩:=R.slots i true _ h
 cases t with
 |lst t=>exact⟨a,_,b,h1,h2,t⟩
def zr1(hN:X.N[i]?=some x)(hv:Vis X.env.scope x)(hd:(x==("__debug__":Str))=false)(hcd:(x==("__classdict__":Str))=false)(he:PE X e (tE cl E fe))
  (af:zbi e=true) (I:(ap.endLine==cp.line)=true):PS X (.Expr (.Call (.Attribute (.Name x pos') "append" ap) [e] [] cp) pos) (tS cl E own (zkm i fe)):=by
 refine PS.imp (zd3 (zjW (es:=[]) ybg ycl ycm zeR (zaT hN hv hd hcd) (za2 he zbU (za4 af)) (hfew:=ze9 (by simp[af]) (by simp)) (aj:=I) (hs:=za4 af) (aq:=rfl))) ?_;rintro p σ H ⟨B,w,ρ,S,rfl,R,q⟩;unfold zkm at q;split at q
 ·rename_i l o;obtain⟨a,xs,m,h1,h2,t⟩:=R.list o;refine⟨_,m,.inl ⟨rfl,_,SqL.of h2⟩,B,w,ρ,S,rfl,R,?_⟩
  cases hf:fe ρ S with
  |bad=>rwa[hf]at q|exc c S1=>rw[hf]at q;exact fun w' h n=>q σ w' h n|ok d S1=>
   rw[hf]at q;intro v w' h n h';dsimp only at q
   cases j:zau l.length with
   |false=>rw[j,if_neg (by decide)]at q;exact q.elim
   |true=>
    rw[j,if_pos rfl]at q;obtain⟨a',b,g,f,k,t'⟩:=h.list o;rw[m]at g;cases g;refine⟨a,b,v,rfl,rfl,k,by rw[t'.length];exact zdI j,?_⟩;exact q σ (w'.mut a (.lst (b++[v]))) (h.mut (d0:=.non) m f (.lst (t'.append (.cons h' .nil)))) (n.trans (zdx (by rw[f];exact yaF _)))
 ·exact q.elim
end
end S2
namespace L2
open PySem PySem.Spec PyProof.Rows
section
variable{prog:Program}{w:World}{A:Around}{E:Z5}{s:Shared}
def zmM{it t:Addr}{j:Nat}{vs:Array Value}{v:Value}{Q:Z5}(st:s.heap.IsTupleIter it t j)(I:s.heap.IsTuple t vs)(e:vs[j]?=some v)
  (q:∀h',h'.IsTupleIter it t (j+1)->Heap.SameBut it s.heap h'->Q v {s with heap:=h'}):wpAny (model prog w) A (Builtin.SmallTypes.nextOf (.ref it)) Q E s:=by
 obtain⟨d,g1,c1,a⟩:=id st;obtain⟨c,g2,_,f,b⟩:=I;unfold Builtin.SmallTypes.nextOf;refine yac (ybf (name:=Str.ofString "__next__") st.typeIs ybw (ybz ybw st.typeIs F.entry_tuple_iterator_next ?_ (F.args_tuple_iterator_next_1 _)));show wpAny _ _ (field (.ref it) 0 >>= _) _ _ s;refine yac (ybG g1 a (x:=.ref t) rfl ?_);show wpAny _ _ (if(Value.ref t==Value.none)=true then _ else _) _ _ s;rw[if_neg (show ¬ ((Value.ref t==Value.none)=true)from fun z=>yaZ z)];show wpAny _ _ (field (.ref it) 1 >>= _) _ _ s;refine yac (ybG g1 a (x:=.int j 0) rfl ?_);show wpAny _ _ (seqItems? (.ref t) >>= _) _ _ s;refine yac (ybU g2 b ?_);simp only[ycD,e];refine yac (wpAny_setField g1 a (by simp) (yak ⟨v,rfl,yak (q _ ?_ (Heap.SameBut.update ..))⟩));refine⟨_,ycM _ g1 (Obj.isFreed_of_fields (Obj.data_mapFields a _)),(Obj.cls_mapFields ..).trans c1,?_⟩;rw[Obj.data_mapFields a];simp[rawInt]
def zpp{it t:Addr}{j:Nat}{vs:Array Value}{Q:Z5}(I:A.handled=none)(st:s.heap.IsTupleIter it t j)(J:s.heap.IsTuple t vs)(e:vs[j]?=none)
  (q:∀h' x,Heap.ExtBut it s.heap h'->(∃o,h'.get? x=some o/\o.cls=.type "StopIteration")->E (.ref x) {s with heap:=h'}):wpAny (model prog w) A (Builtin.SmallTypes.nextOf (.ref it)) Q E s:=by
 obtain⟨f,g1,c1,b⟩:=id st;obtain⟨d,g2,_,g,c⟩:=J;unfold Builtin.SmallTypes.nextOf;refine yac (ybf (name:=Str.ofString "__next__") st.typeIs ybw (ybz ybw st.typeIs F.entry_tuple_iterator_next ?_ (F.args_tuple_iterator_next_1 _)));show wpAny _ _ (field (.ref it) 0 >>= _) _ _ s;refine yac (ybG g1 b (x:=.ref t) rfl ?_);show wpAny _ _ (if(Value.ref t==Value.none)=true then _ else _) _ _ s;rw[if_neg (show ¬ ((Value.ref t==Value.none)=true)from fun z=>yaZ z)];show wpAny _ _ (field (.ref it) 1 >>= _) _ _ s;refine yac (ybG g1 b (x:=.int j 0) rfl ?_);show wpAny _ _ (seqItems? (.ref t) >>= _) _ _ s;refine yac (ybU g2 c ?_);simp only[ycD,e];refine yac (wpAny_rule (yac (wpAny_setField g1 b (by simp) ?_)));show wpAny _ _ (newExc (.type "StopIteration") [] >>= _) _ _ _;refine yac ?_;simp only[newExc,newTuple];refine yac (ybj ?_ (by size_fits));refine yac (m:=firstArgMember _ _) (wpAny_of_eq (a:=Value.none) ?_ ?_)
 ·first|rfl|(simp only[firstArgMember];rfl)
 refine ybj ?_ (by size_fits);simp only[raiseNew];refine yac (wpAny_handled ?_)
 first|rw[show A.in1.handled=none from I]|rw[I]
 refine yac (yak (wpAny_throw (q _ _ (((Heap.SameBut.update ..).extBut.push _).push _) ⟨_,yaw _ rfl,rfl⟩)))
def zmi(I:A.handled=none)(it t:Addr)(ne:t≠it)(vs:Array Value):Draws prog w A it [it,t] vs.size (fun j v=>vs[j]?=some v) (fun j h=>h.IsTupleIter it t j/\h.IsTuple t vs)where
 live:=fun _ _ st=>by obtain⟨⟨o,a,_⟩,_⟩:=st;exact⟨o,a⟩
 frame:=fun _ _ _ st hk=>⟨st.1.at fun o e=>hk it (by simp) o e,by obtain⟨o,a,r⟩:=st.2;exact⟨o,hk t (by simp) o a,r⟩⟩
 item:=fun j s Q E d st f=>zmM st.1 st.2 (v:=vs[j]) (by simp[d]) fun h' b c=>f _ h' s.toks (by simp[d]) ⟨b,by obtain⟨o,a,r⟩:=st.2;exact⟨o,(c.2 t ne).trans a,r⟩⟩ c
 done:=fun s Q E st g=>zpp I st.1 st.2 (by simp) g
end
section
variable{X:Cx}{pins:Z3}{σ:St}{H:Hp}{s:Shared}
def Inv.turnedL{t':Nat}{h':Heap}{ch:List Addr}(I:Inv X pins σ H s)(k:∀b o,b ∉ ch->s.heap.get? b=some o->h'.get? b=some o)(hf:∀b∈ch,zmE X pins H b):Inv X pins σ H {s with heap:=h',toks:=t'}:=by
 have d:∀b u,H b=some u->b ∉ ch:=fun b u e z=>by rw[(hf b z).1]at e;cases e
 refine I.step (g':=s.gens) (d':=s.drawn) (ch:=ch) (fun b hb=>?_) (fun b o _ _ a e _=>k b o a e) (fun b o _ _ a e _=>⟨o.slots,k b o a e⟩) (fun _ _ _ _ n=>n) (fun b o a e=>⟨o,k b o a e⟩) (fun _ _ e=>e) (fun _ _ _ e=>e) (fun b ps e=>⟨#[],by rw[e];simp⟩) (fun m hm=>?_) (fun b u e=>?_) I.bare
 ·obtain⟨l,f1,f2,i,h,g⟩:=hf b hb;exact⟨i,f1,h,g⟩
 ·obtain⟨o,es,j,f,r⟩:=hm;exact⟨o,es,j,k _ o (fun z=>(hf _ z).2.1 rfl) f,r⟩
 ·refine(I.hok b u e).stay (fun c v a q=>k c v ?_ q) (fun _ q=>q) fun _ _ q=>q
  rcases a with z|z
  ·rw[z];exact d b u e
  ·exact d c _ z
end
end L2
namespace S2
open PySem PySem.Spec PyProof.Rows L2
structure ItOk(cl:Cf)(w:Wd)(J:It)(ds:List D):Prop where
 go:∀w',Fut w w'->∀i,i<ds.length->J.go i w'.H
 stop:∀w',Fut w w'->J.stop ds.length w'.H
 yld:∀w',Fut w w'->∀i d x H',ds[i]?=some d->J.yld i w'.H x H'->∃w'',w''.H=H'/\Grow w' w''/\Shd cl w'' x d
noncomputable abbrev Fi:=Env->Sto->Out (List D)
noncomputable def tI(cl:Cf)(E:St->XK)(f:Fi):TI:=fun σ H a=>∃B w ρ S,w.H=H/\Rel cl B σ w ρ S/\match f ρ S with
 |.ok ds S'=>∀J w',Rel cl B σ w' ρ S'->Fut w w'->ItOk cl w' J ds->a J w'.H|.exc c S'=>∀w',Rel cl B σ w' ρ S'->Fut w w'->E σ (.ref (cl c)) none w'.H|.bad=>False
def PI.imp(h:PI X tg it t)(i:∀σ H Q,t' σ H Q->t σ H Q):PI X tg it t':=fun pins s σ H Q I q=>h pins s σ H Q I (i _ _ _ q)
inductive Tg where|one (i:Nat)|tup (is:List Nat)
noncomputable def zi3:List Nat->List D->Env->Option Env
 |[],[],ρ=>some ρ|i::is,d::ds,ρ=>zi3 is ds (ρ.set i (some (false,d)))|_,_,_=>none
noncomputable def Tg.put:Tg->Env->D->Option Env
 |.one i,ρ,d=>some (ρ.set i (some (false,d)))|.tup is,ρ,.tup ds=>zi3 is ds ρ|.tup _,_,_=>none
noncomputable def tG(cl:Cf)(n:Nat)(tg:Tg):TG:=fun v σ H Q=>∃B w ρ S d b,w.H=H/\Rel cl B σ w ρ S/\Shd cl w v d/\tg.put ρ d=some b/\∀a,a.length=σ.length->a.drop n=σ.drop n->Rel cl B a w b S->Q a w.H
def PG.imp(h:PG X tg t)(i:∀v σ H Q,t' v σ H Q->t v σ H Q):PG X tg t':=fun pins s σ H v u Q I r q=>h pins s σ H v u Q I r (i _ _ _ _ q)
def zgn(tg:Tg)(body:Fs):List D->Env->Sto->Fo
 |[],ρ,S=>.nx ρ S|d::ds,ρ,S=>match tg.put ρ d with
  |none=>.bad|some b=>match body b S with
   |.nx a S'=>zgn tg body ds a S'|.ct a S'=>zgn tg body ds a S'|.bk a S'=>.nx a S'|o=>o
noncomputable def zkl(tg:Tg)(it:Fi)(body:Fs):Fs:=fun ρ S=>match it ρ S with
 |.ok ds S'=>zgn tg body ds ρ S'|.exc c S'=>.ex c ρ S'|.bad=>.bad
section
variable{X:Cx}{cl:Cf}{E:St->XK}{own:Bool}{e iter tg:Expr}{body:List Stmt}{fb:Fs}{fi:Fi}{fc:Fe}{t:Tg}{pos:Pos}
theorem zjv{α:Type}{l:List α}{a:α}(h:i<n):(l.set i a).drop n=l.drop n:=by
 refine List.ext_getElem? fun k=>?_
 rw[ybE,ybE,yaS (by omega)]
def zr8(I:i<n)(hN:X.N.Nodup)(hi:X.N[i]?=some x)(J:Loc X.env.scope x)(hf:X.fn x=true\/X.env.scope.names.lookup x=some .local):PG X (.Name x pos) (tG cl n (.one i)):=by
 refine PG.imp (zlm hN hi J hf) ?_;rintro v σ H Q ⟨B,w,ρ,S,d,a,rfl,R,h,b,q⟩;cases b;exact q _ (yaP ..) (zjv I) (R.put h)
noncomputable def tGs(cl:Cf)(n:Nat)(is:List Nat):TGs:=fun vs σ H Q=>∃B w ρ S ds b,w.H=H/\Rel cl B σ w ρ S/\Shds cl w vs ds/\zi3 is ds ρ=some b/\∀a,a.length=σ.length->a.drop n=σ.drop n->Rel cl B a w b S->Q a w.H
def zpT:PGs X [] (tGs cl n []):=by
 intro pins s σ H vs us Q I r h;obtain⟨B,w,ρ,S,ds,b,rfl,R,hs,a,q⟩:=h
 cases hs with
 |nil=>
  cases a;exact zqr pins s σ w.H [] us Q I r ⟨rfl,q σ rfl rfl R⟩
 |cons _ _=>cases a
def zmT(J:i<n)(hN:X.N.Nodup)(hi:X.N[i]?=some x)(U:Loc X.env.scope x)(hf:X.fn x=true\/X.env.scope.names.lookup x=some .local)(h2:PGs X es (tGs cl n is)):PGs X (.Name x pos::es) (tGs cl n (i::is)):=by
 intro pins s σ H vs us Q I r h;obtain⟨B,w,ρ,S,ds,b,rfl,R,hs,c,q⟩:=h;refine zng (zlm hN hi U hf) h2 rfl pins s σ w.H vs us Q I r ?_
 cases hs with
 |nil=>cases c|cons h t=>
  rename_i v d vs ds;exact⟨v,vs,rfl,B,w,_,S,ds,b,rfl,R.put h,t,c,fun a e e2=>q a (e.trans (yaP ..)) (e2.trans (zjv J))⟩
def zr7(U:X.calm=true)(h:PGs X es (tGs cl n is))(J:(assignEach es X.env).length=is.length)(I:(assignEach es X.env).findIdx? (·.1)=none):PG X (.Tuple es k pos) (tG cl n (.tup is)):=by
 refine PG.imp (zsD U h J I) ?_;rintro v σ H Q ⟨B,w,ρ,S,d,b,rfl,R,h,c,q⟩
 cases h with
 |tup e k r=>
  have g:∀(is:List Nat) (ds:List D) (ρ b:Env),zi3 is ds ρ=some b->ds.length=is.length:=by
   intro is
   induction is with
   |nil=>intro ds ρ b h;cases ds with
    |nil=>rfl|cons _ _=>cases h
   |cons i is f=>intro ds ρ b h;cases ds with
    |nil=>cases h|cons d ds=>rw[yad,yad,f ds _ _ h]
  rename_i a xs ds;refine⟨a,xs,rfl,SqT.of e,by rw[r.length];exact g is ds ρ b c,B,w,ρ,S,ds,b,rfl,R,r,c,q⟩
 |_=>cases c
theorem zrY(U:PassesOwn (model X.prog X.w) X.A X.env X.xe)(hc:X.calm=true)(hi:PI X tg iter (tI cl E fi))(hg:PG X tg (tG cl n t))(hb:PSs X body (tS cl E own fb))(hs:∀x,foldedSetIterable iter X.env x=pure x):PS X (.For tg iter body [] pos) (tS cl E own (zkl t fi fb)):=by
 refine PS.imp (zsA U hc hi hg hb hs) ?_;rintro L σ H ⟨B,w,ρ,S,rfl,R,q⟩;refine⟨B,w,ρ,S,rfl,R,?_⟩;unfold zkl at q
 cases hf:fi ρ S with
 |bad=>rwa[hf]at q|exc c S1=>rw[hf]at q;exact fun w' O P=>q σ w' O P|ok ds S1=>
  rw[hf]at q;intro J D N F0 G;dsimp only at q;refine⟨fun i m h H'=>m=ds.length-i/\i<=ds.length/\∃b a S2,b.H=H'/\Fut D b/\Rel cl B h b a S2/\zhM cl E own B b L (zgn t fb (ds.drop i) a S2),⟨ds.length,by simp,yaJ _,D,ρ,S1,rfl,Fut.refl _,N,by rw[ycG];exact zhM.up F0 q⟩,?_⟩;rintro i m C H1 ⟨rfl,hi,b,a,S2,rfl,z,K,k⟩
  by_cases f:i<ds.length
  ·obtain⟨d,hd⟩:∃d,ds[i]?=some d:=⟨ds[i],yal f⟩
   have F:ds.drop i=d::ds.drop (i+1):=by
    rw[List.drop_eq_getElem_cons f];rw[yal f]at hd;cases hd;rfl
   rw[F]at k;unfold zgn at k
   cases p:t.put a d with
   |none=>rw[p]at k;exact k.elim|some o=>
    rw[p]at k;dsimp only at k;refine .inr ⟨G.go b z i f,fun h H'=>i+1<=ds.length/\∃b a S2,b.H=H'/\Fut D b/\Rel cl B h b a S2/\zhM cl E own B b L (zgn t fb (ds.drop (i+1)) a S2),fun h H' h'=>⟨ds.length-(i+1),by omega,rfl,h'.1,h'.2⟩,fun x H' y=>?_⟩;obtain⟨I,rfl,g2,s2⟩:=G.yld b z i d x H' hd y;refine⟨B,I,a,S2,d,o,rfl,K.grow g2,s2,p,fun M _ _ R2=>⟨B,I,o,S2,rfl,R2,?_⟩⟩;have j:=zhM.up g2.fut k
    cases hb:fb o S2 with
    |bad=>rwa[hb]at j|rt d s=>rwa[hb]at j|ex c g s=>rwa[hb]at j|bk g s=>rw[hb]at j;exact fun l u v r=>j l u v r|nx g s=>rw[hb]at j;exact fun l u v r=>⟨f,u,g,s,rfl,z.trans (g2.fut.trans r),v,zhM.up r j⟩|ct g s=>rw[hb]at j;exact fun l u v r=>⟨f,u,g,s,rfl,z.trans (g2.fut.trans r),v,zhM.up r j⟩
  ·have e:i=ds.length:=by omega
   subst e;rw[List.drop_length]at k;exact .inl ⟨G.stop b z,k C b K (Fut.refl _)⟩
def zju(f:Fe):Fi:=fun ρ S=>(f ρ S).bind fun d S1=>match d with|.lst l=>.ok l S1|_=>.bad
def zih(f:Fe):Fi:=fun ρ S=>(f ρ S).bind fun d S1=>match d with|.tup l=>.ok l S1|_=>.bad
theorem zkP(he:PE X e (tE cl E fc)):PI X tg e (tI cl E (zju fc)):=by
 refine PI.imp (zqq he) ?_;rintro σ H Q ⟨B,w,ρ,S,rfl,R,q⟩;refine⟨B,w,ρ,S,rfl,R,?_⟩;unfold zju at q
 cases hf:fc ρ S with
 |bad=>rwa[hf]at q|exc c S1=>rwa[hf]at q|ok d S1=>
  rw[hf]at q;intro v w' l m h';dsimp only[Out.bind]at q
  cases h' with
  |lst e k r=>
   rename_i a xs ds;refine⟨a,rfl,⟨xs,SqL.of e⟩,q _ w' l m ?_⟩;have n:=r.length;refine⟨fun f b i hi=>⟨xs,xs[i]'(by omega),SqL.of (b.keep _ _ e k).1,yal (by omega)⟩,fun f b=>⟨xs,SqL.of (b.keep _ _ e k).1,by omega⟩,fun f b i d x H1 hd y=>?_⟩;obtain⟨rfl,h⟩:=y;have j:=h xs (SqL.of (b.keep _ _ e k).1);obtain⟨d',g,e2⟩:=r.get j;rw[hd]at g;cases g;exact⟨f,rfl,Grow.refl _,e2.up b⟩
  |_=>exact q.elim
def zr4(he:PE X e (tE cl E fc)):PI X tg e (tI cl E (zih fc)):=by
 refine PI.imp (zsB he) ?_;rintro σ H Q ⟨B,w,ρ,S,rfl,R,q⟩;refine⟨B,w,ρ,S,rfl,R,?_⟩;unfold zih at q
 cases hf:fc ρ S with
 |bad=>rwa[hf]at q|exc c S1=>rwa[hf]at q|ok d S1=>
  rw[hf]at q;intro v w' l m h';dsimp only[Out.bind]at q
  cases h' with
  |tup e k r=>
   rename_i a xs ds;refine⟨a,rfl,⟨xs,SqT.of e⟩,q _ w' l m ?_⟩;have n:=r.length;refine⟨fun f b i hi=>⟨xs,xs[i]'(by omega),SqT.of (b.keep _ _ e k).1,yal (by omega)⟩,fun f b=>⟨xs,SqT.of (b.keep _ _ e k).1,by omega⟩,fun f b i d x H1 hd y=>?_⟩;obtain⟨rfl,h⟩:=y;have j:=h xs (SqT.of (b.keep _ _ e k).1);obtain⟨d',g,e2⟩:=r.get j;rw[hd]at g;cases g;exact⟨f,rfl,Grow.refl _,e2.up b⟩
  |_=>exact q.elim
noncomputable def zbv(lo hi:Int):List D:=(List.range (hi-lo).toNat).map fun(i:Nat)=>.int (lo+i)
def zeu(f:Fe):Fi:=fun ρ S=>(zap [f] ρ S).bind fun ds S1=>match ds with|[.int j]=>if -1000000<=j/\j<=1000000 then .ok (zbv 0 j) S1 else .bad|_=>.bad
def ztH{w:Wd}{lo hi:Int}{n:Nat}(I:n=(hi-lo).toNat):ItOk cl w (Itr lo n) (zbv lo hi):=by
 subst I
 have c:(zbv lo hi).length=(hi-lo).toNat:=by unfold zbv;rw[yab,yca]
 refine⟨fun a e i h=>by rw[c]at h;exact h,fun a e=>by rw[c];exact yai _,fun a e i d x H1 hd y=>?_⟩;obtain⟨rfl,rfl⟩:=y;unfold zbv at hd;rw[yaM]at hd
 cases b:(List.range (hi-lo).toNat)[i]? with
 |none=>rw[b]at hd;cases hd|some j=>
  rw[b]at hd;have:=(yas.mp b).2;rw[List.getElem_range]at this;subst this;cases hd;exact⟨a,rfl,Grow.refl _,.int _⟩
theorem zpS(I:Gl X "range")(hm:X.mg "range"=none)(J:PA X [e] (tAs cl E [fc]))(hs:starEach [e] X.env=[(false,eval e X.env)]):PI X tg (.Call (.Name "range" p) [e] [] pos) (tI cl E (zeu fc)):=by
 refine PI.imp (zll I hm J hs) ?_;rintro σ H Q ⟨B,w,ρ,S,rfl,R,q⟩;refine⟨B,w,ρ,S,rfl,R,?_⟩;unfold zeu at q
 cases hf:zap [fc] ρ S with
 |bad=>rwa[hf]at q|exc c S1=>rwa[hf]at q|ok ds S1=>
  rw[hf]at q;intro vs w' b d h';dsimp only[Out.bind]at q;split at q
  ·rename_i ds' S' a;split at a
   ·rename_i j;split at a
    ·rename_i hb;cases a
     cases h' with
     |cons h1 h2=>
      cases h1;cases h2;exact⟨j,rfl,by omega,by omega,q _ w' b d (ztH (by omega))⟩
    ·cases a
   ·cases a
  ·rename_i a;split at a<;>first|(split at a<;>cases a)|cases a
  ·exact q.elim
end
noncomputable def zmw(ρ:Env)(i:Nat):Option (Bool×D):=match ρ[i]? with|some (some (false,d))=>some (false,d)|_=>none
def zbT(n:Nat)(caps:List Nat)(ρ:Env):Env:=List.replicate n none++caps.map (zmw ρ)
def zct:Fe:=zaa (.bl true)
def za5(tg:Tg)(c elt:Fe)(aw:Env):List D->Sto->Out (List D)
 |[],S=>.ok [] S|d::ds,S=>match tg.put aw d with
  |none=>.bad|some a=>(c a S).bind fun b S1=>match isB b with
   |some true=>(elt a S1).bind fun y S2=>(za5 tg c elt aw ds S2).bind fun ys e=>.ok (y::ys) e|some false=>za5 tg c elt aw ds S1|none=>.bad
def zbS(n:Nat)(tg:Tg)(it:Fi)(c elt:Fe)(caps:List Nat):Fe:=fun ρ S=>(it ρ S).bind fun ds S1=>match za5 tg c elt (zbT n caps ρ) ds S1 with
 |.ok ys S2=>if zau ys.length then .ok (.lst ys) S2 else .bad
 |_=>.bad
noncomputable abbrev noE:St->XK:=fun _ _ _ _=>False
section
variable{cl:Cf}
theorem zl4{caps:List (Str×Nat)}(R:Rel cl B σ w ρ S)(W1:World' cl B1 U S1)(F1:Fut w U){I:St}(J:I.length=n+caps.length)(hc:I.drop n=caps.map fun p=>(σ[p.2]?).join):
  Rel cl B1 I U (zbT n (caps.map (·.2)) ρ) S1 where
 wd:=W1
 len:=by unfold zbT;rw[J,yae,yaU,yab,yab]
 slots:=fun i o d h=>by
  unfold zbT at h
  by_cases hi:i<n
  ·rw[yaI (by rw[yaU];exact hi),ybR]at h
   split at h<;>cases h
  ·rw[yax (by rw[yaU];omega),yaU,yat,yaM]at h
   cases a:caps[i-n]? with
   |none=>rw[a]at h;cases h|some p=>
    rw[a]at h;have h':zmw ρ p.2=some (o,d):=Option.some.inj h;unfold zmw at h';split at h'
    ·rename_i d' hd;cases h';obtain⟨v,e,x⟩:=R.slots p.2 false d hd;refine⟨v,?_,Shd.up F1 x⟩;have:=congrArg (fun l=>l[i-n]?) hc;rw[ybE,yaM,a]at this;rw[show n+(i-n)=i by omega]at this;rw[this];show some ((σ[p.2]?).join)=_;rw[e];rfl
    ·cases h'
end
section
variable{X:Cx}{cl:Cf}{E:St->XK}
theorem zpd(q:tN cl E (zbS n t fi fc fe (caps.map (·.2))) σ H Q):
  ziS (tI cl E fi) (tG cl n t) (tTr cl noE fc) (tE cl noE fe) n caps σ H Q:=by
 obtain⟨B,w,ρ,S,rfl,R,q⟩:=q;refine⟨B,w,ρ,S,rfl,R,?_⟩;unfold zbS at q
 cases hf:fi ρ S with
 |bad=>rwa[hf]at q|exc c S1=>rwa[hf]at q|ok ds S1=>
  rw[hf]at q;dsimp only[Out.bind]at q;intro J k T F0 N
  cases hcd:za5 t fc fe (zbT n (caps.map (·.2)) ρ) ds S1 with
  |bad=>rw[hcd]at q;exact q.elim|exc _ _=>rw[hcd]at q;exact q.elim|ok all Sf=>
   rw[hcd]at q;dsimp only at q
   cases K:zau all.length with
   |false=>rw[K,if_neg (by decide)]at q;exact q.elim
   |true=>
    rw[K,if_pos rfl]at q;dsimp only at q;refine⟨fun i m ys u H'=>m=ds.length-i/\i<=ds.length/\u.length=n+caps.length/\u.drop n=(caps.map fun p=>(σ[p.2]?).join)/\∃j S2 es zbG,j.H=H'/\Fut k.inn j/\World' cl k.base j S2/\Shds cl j ys es/\za5 t fc fe (zbT n (caps.map (·.2)) ρ) (ds.drop i) S2=.ok zbG Sf/\es++zbG=all,⟨ds.length,by simp,yaJ _,by simp[capσ],by simp[capσ],k.inn,S1,[],all,rfl,Fut.refl _,T.wd.enter,.nil,by rw[ycG];exact hcd,rfl⟩,?_⟩;rintro i m ys G H1 ⟨rfl,hi,o,s,j,S2,es,zbG,rfl,F,O,sh,a,f⟩;refine⟨?_,?_⟩
    ·rw[sh.length];refine yav ?_ (zaI K);rw[<-f,yae];omega
    have l:Fut k j:=(zbP k).trans F
    by_cases g:i<ds.length
    ·obtain⟨d,r⟩:∃d,ds[i]?=some d:=⟨ds[i],yal g⟩
     have L:ds.drop i=d::ds.drop (i+1):=by
      rw[List.drop_eq_getElem_cons g];rw[yal g]at r;cases r;rfl
     rw[L]at a;unfold za5 at a;refine .inr ⟨N.go j l i g,fun x H' y=>?_⟩;obtain⟨I,rfl,g2,s2⟩:=N.yld j l i d x H' r y;have R1:Rel cl k.base G I (zbT n (caps.map (·.2)) ρ) S2:=zl4 T (O.grow g2) (l.trans g2.fut) o s
     cases z:t.put (zbT n (caps.map (·.2)) ρ) d with
     |none=>rw[z]at a;cases a|some h=>
      rw[z]at a;dsimp only at a;refine⟨k.base,I,_,S2,d,h,rfl,R1,s2,z,fun Z C A R2=>⟨k.base,I,h,S2,rfl,R2,?_⟩⟩
      cases M:fc h S2 with
      |bad=>rw[M]at a;cases a|exc _ _=>rw[M]at a;cases a|ok b P=>
       rw[M]at a;dsimp only[Out.bind]at a ⊢
       cases hb:isB b with
       |none=>rw[hb]at a;cases a|some bb=>
        rw[hb]at a;intro V Y U
        cases bb with
        |false=>exact zo1 ⟨ds.length-(i+1),by omega,rfl,g,C.trans o,A.trans s,V,P,es,zbG,rfl,F.trans (g2.fut.trans U),Y.wd,sh.up (g2.fut.trans U),a,f⟩
        |true=>
         refine zo0 ⟨k.base,V,h,P,rfl,Y,?_⟩;dsimp only at a
         cases he:fe h P with
         |bad=>rw[he]at a;cases a|exc _ _=>rw[he]at a;cases a|ok yv X=>
          rw[he]at a;dsimp only at a
          cases D:za5 t fc fe (zbT n (caps.map (·.2)) ρ) (ds.drop (i+1)) X with
          |bad=>rw[D]at a;cases a|exc _ _=>rw[D]at a;cases a|ok zs S5=>
           rw[D]at a;cases a;intro v w4 R4 F4 h4;have W:=g2.fut.trans (U.trans F4);exact⟨ds.length-(i+1),by omega,rfl,g,C.trans o,A.trans s,w4,X,es++[yv],zs,rfl,F.trans W,R4.wd,(sh.up W).append (.cons h4 .nil),D,by rw[<-f,ybc];rfl⟩
    ·have e:i=ds.length:=by omega
     subst e;rw[List.drop_length]at a;cases a;rw[yaQ]at f;subst f;refine .inl ⟨N.stop j l,fun p z=>?_⟩;obtain⟨Rb,Fb⟩:=T.leave O F;exact q p (.lst ys) (k.back j) Rb (F0.trans Fb) z (.lst (sh.up (zcj O)))
end
noncomputable def zaj(k:Str):List (D×D)->Option D
 |(.str x,d)::r=>if x=k then some d else zaj k r
 |_=>none
noncomputable def putS(k:Str)(y:D):List (D×D)->List (D×D)
 |(.str x,d)::r=>if x=k then(.str x,y)::r else(.str x,d)::putS k y r
 |_=>[(.str k,y)]
noncomputable def dropS(k:Str):List (D×D)->List (D×D)
 |(.str x,d)::r=>if x=k then r else(.str x,d)::dropS k r
 |_=>[]
def zal:List (D×D)->Bool
 |(.str x,_)::r=>(zaj x r).isNone&&zal r|[]=>true|_=>false
noncomputable def zaY:List (D×D)->List Str
 |(.str x,_)::r=>x::zaY r|_=>[]
section
variable{cl:Cf}{w:Wd}
def zpr{o:HO}{ds:List (D×D)}(h:Top cl w o (.dic ds))(hs:zal ds=true):∃kvs,o=.dK kvs/\ShdK cl w kvs ds:=by
 cases h with
 |dicK h=>exact⟨_,rfl,h⟩
theorem zcZ(k:Str):∀{kvs:List (Key×V)}{ds:List (D×D)},ShdK cl w kvs ds->zal ds=true->(zeD kvs (.inr k)=none/\zaj k ds=none)\/∃v d,zeD kvs (.inr k)=some v/\zaj k ds=some d/\Shd cl w v d
 |_,_,.nil,_=>.inl ⟨rfl,rfl⟩|_,_,.consI r t,h=>by cases h
 |_,_,.consS (x:=x) (v:=v) (d:=d) r t,h=>by
  unfold zal at h;rw[yaa]at h;unfold zaj
  by_cases e:x=k
  ·subst e;rw[if_pos rfl,zda rfl];exact .inr ⟨v,d,rfl,rfl,r⟩
  ·rw[if_neg e,zdb (fun z=>e (by cases z;rfl))];exact zcZ k t h.2
theorem ShdK.snocS{k:Str}{v:V}{d:D}(h:Shd cl w v d):∀{kvs:List (Key×V)}{ds:List (D×D)},ShdK cl w kvs ds->zal ds=true->zaj k ds=none->ShdK cl w (kvs++[(.inr k,v)]) (putS k d ds)
 |_,_,.nil,_,_=>.consS h .nil|_,_,.consI r t,a,_=>by cases a
 |_,_,.consS (x:=x) r t,a,b=>by
  unfold zal at a;rw[yaa]at a;unfold zaj at b
  by_cases e:x=k
  ·rw[if_pos e]at b;cases b
  ·rw[if_neg e]at b;unfold putS;rw[if_neg e];exact .consS r (ShdK.snocS h t a.2 b)
theorem zjb{k:Key}{y:V}:∀{kvs:List (Key×V)},zeD kvs k=none->(kvs.map fun I=>if I.1=k then(I.1,y)else I)=kvs
 |[],_=>rfl|p::r,h=>by
  by_cases e:p.1=k
  ·rw[zda e]at h;cases h
  ·rw[zdb e]at h;rw[yar,if_neg e,zjb h]
theorem ShdK.replS{k:Str}{v:V}{d:D}(h:Shd cl w v d):∀{kvs:List (Key×V)}{ds:List (D×D)},ShdK cl w kvs ds->zal ds=true->(zaj k ds).isSome=true->ShdK cl w (kvs.map fun I=>if I.1=.inr k then(I.1,v)else I) (putS k d ds)
 |_,_,.nil,_,b=>by cases b
 |_,_,.consI r t,a,_=>by cases a
 |_,_,.consS (x:=x) (vs:=vs) r t,a,b=>by
  unfold zal at a;rw[yaa]at a;unfold zaj at b;unfold putS
  by_cases e:x=k
  ·subst e;rw[if_pos rfl,yar,if_pos rfl]
   have c:zeD vs (.inr x)=none:=(zcZ x t a.2).elim (·.1) fun⟨_,_,_,z,_⟩=>by rw[z]at a;exact absurd a.1 (by simp)
   rw[zjb c];exact .consS h t
  ·rw[if_neg e]at b;rw[if_neg e,yar,if_neg (fun z=>e (by cases z;rfl))];exact .consS r (ShdK.replS h t a.2 b)
theorem ShdK.putS{k:Str}{v:V}{d:D}{kvs:List (Key×V)}{ds:List (D×D)}(t:ShdK cl w kvs ds)(ho:zal ds=true)(h:Shd cl w v d):ShdK cl w (zf7 kvs (.inr k) v) (putS k d ds):=by
 rcases zcZ k t ho with⟨h1,h2⟩|⟨a,d',h1,h2,_⟩
 ·rw[zm8 v h1];exact t.snocS h ho h2
 ·unfold zf7;rw[if_pos (by rw[zew,h1];rfl)];exact t.replS h ho (by rw[h2];rfl)
theorem zhq{k:Key}:∀{kvs:List (Key×V)},zeD kvs k=none->zfg kvs k=kvs
 |[],_=>rfl|p::r,h=>by
  by_cases e:p.1=k
  ·rw[zda e]at h;cases h
  ·rw[zdb e]at h;unfold zfg;rw[ycg,if_pos (yap e)];congr 1;exact zhq h
theorem ShdK.dropS{k:Str}:∀{kvs:List (Key×V)}{ds:List (D×D)},ShdK cl w kvs ds->zal ds=true->ShdK cl w (zfg kvs (.inr k)) (dropS k ds)
 |_,_,.nil,_=>.nil|_,_,.consI r t,a=>by cases a
 |_,_,.consS (x:=x) (vs:=vs) r t,a=>by
  unfold zal at a;rw[yaa]at a;unfold S2.dropS
  by_cases e:x=k
  ·subst e
   have c:zeD vs (.inr x)=none:=(zcZ x t a.2).elim (·.1) fun⟨_,_,_,z,_⟩=>by rw[z]at a;exact absurd a.1 (by simp)
   rw[if_pos rfl];unfold zfg;rw[ycg,if_neg (by simp)];have:=zhq c;unfold zfg at this;rw[this];exact t
  ·rw[if_neg e];unfold zfg;rw[ycg];split
   ·exact .consS r (ShdK.dropS t a.2)
   ·rename_i b;exact absurd (by simp[e]) b
theorem ShdK.length:∀{kvs:List (Key×V)}{ds:List (D×D)},ShdK cl w kvs ds->kvs.length=ds.length
 |_,_,.nil=>rfl|_,_,.consI r t=>by rw[yad,yad,ShdK.length t]
 |_,_,.consS r t=>by rw[yad,yad,ShdK.length t]
theorem zjf:∀{kvs:List (Key×V)}{ds:List (D×D)},ShdK cl w kvs ds->zal ds=true->kvs.map (·.1)=(zaY ds).map Sum.inr/\(zaY ds).length=ds.length
 |_,_,.nil,_=>⟨rfl,rfl⟩|_,_,.consI r t,h=>by cases h
 |_,_,.consS r t,h=>by
  unfold zal at h;rw[yaa]at h;obtain⟨h1,h2⟩:=zjf t h.2;exact⟨by rw[yar,h1];rfl,by show _+1=_+1;rw[h2]⟩
end
end S2
namespace ST
open PySem PySem.Spec PyProof.Rows PySem.SetTable
noncomputable def pos(m:Nat):Nat->Nat->Nat->Nat
 |0,i,_=>i|n+1,i,p=>pos m n ((i*5+1+p / 32) % (m+1)) (p / 32)
def zzL{m:Nat}(hm:m=7\/m=31):∀i,i<m+1->∀j,j<m+1->∃n,n<m+1/\pos m n i 0=j:=by
 rcases hm with rfl|rfl<;>decide +kernel
theorem cov{m:Nat}(hm:m=7\/m=31){j:Nat}(I:j<m+1):∀k i p,p<32 ^ k->i<m+1->∃n,n<k+(m+1)/\pos m n i p=j
 |0,i,p,a,hi=>by
  obtain rfl:p=0:=Nat.lt_one_iff.mp a;rw[yc5];exact zzL hm i hi j I
 |k+1,i,p,a,hi=>by
  obtain⟨n,h1,h2⟩:=cov hm I k ((i*5+1+p / 32) % (m+1)) (p / 32) (Nat.div_lt_of_lt_mul (by rw[Nat.mul_comm];exact a)) (Nat.mod_lt _ (Nat.succ_pos m));exact⟨n+1,by omega,h2⟩
def zxV{m:Nat}(hm:m=7\/m=31){j:Nat}(I:j<m+1)(h:Int):∃n,n<13+(m+1)/\pos m n (bits h % (m+1)) (bits h)=j:=by
 refine cov hm I 13 _ _ ?_ (Nat.mod_lt _ (Nat.succ_pos m));have h1:=ybO h (show(2 ^ 64:Int)≠0 by decide);have h2:=ybn h (show(0:Int)<2 ^ 64 by decide);refine yan (m:=2 ^ 64) ?_ (by decide);unfold bits;omega
noncomputable def tb(m:Nat)(pl:Array Nat):SetTable:={mask:=m,place:=pl,dummies:=#[],finger:=0,led:=true,moves:=0,plain:=true}
def adv(m:Nat)(pl:Array Nat):Nat->Probe->Probe
 |0,p=>p|n+1,p=>adv m pl n ((tb m pl).advance p)
theorem zmA{m:Nat}{pl:Array Nat}:∀(a b:Nat) (p:Probe),adv m pl (a+b) p=adv m pl b (adv m pl a p)
 |0,b,p=>by rw[yc5];rfl
 |a+1,b,p=>by rw[show a+1+b=(a+b)+1 by omega];exact zmA a b _
noncomputable def atR(m i p:Nat):Probe:={j:=i,more:=runEnd m i-i,i:=i,perturb:=p,dummy:=none}
theorem zmz{m:Nat}{pl:Array Nat}(i p:Nat):∀(k j:Nat),adv m pl (k+1) {j:=j,more:=k,i:=i,perturb:=p,dummy:=none}=atR m ((i*5+1+p / 32) % (m+1)) (p / 32)
 |0,j=>rfl|k+1,j=>by
  show adv m pl (k+1) ((tb m pl).advance _)=_;rw[show(tb m pl).advance {j:=j,more:=k+1,i:=i,perturb:=p,dummy:=none}={j:=j+1,more:=k,i:=i,perturb:=p,dummy:=none} by unfold advance;rw[if_pos (Nat.succ_pos k)];rfl];exact zmz i p k (j+1)
theorem zsl{m:Nat}{pl:Array Nat}:∀(n i p:Nat),∃s,s<=10*n/\(adv m pl s (atR m i p)).j=pos m n i p
 |0,i,p=>⟨0,yai _,rfl⟩|n+1,i,p=>by
  obtain⟨s,h1,h2⟩:=zsl (m:=m) (pl:=pl) n ((i*5+1+p / 32) % (m+1)) (p / 32);refine⟨(runEnd m i-i+1)+s,by have:runEnd m i-i<=9:=by {unfold runEnd;split<;>omega};omega,?_⟩;rw[zmA];unfold atR;rw[zmz];exact h2
def zkO{m:Nat}{pl:Array Nat}(j:Nat):(tb m pl).slot j=.empty\/∃i,(tb m pl).slot j=.live i/\pl[i]?=some j:=by
 unfold slot;rw[show(tb m pl).dummies=#[]from rfl,show has #[] j=false by unfold has below;rfl];dsimp only;split
 ·rename_i h;exact .inr ⟨_,rfl,eq_of_beq h⟩
 ·exact .inl rfl
def way{m:Nat}{pl:Array Nat}(hm:m=7\/m=31)(I:pl.size<=m)(h:Int):∃N,N<10*turns m/\(tb m pl).slot (adv m pl N ((tb m pl).probeStart h)).j=.empty:=by
 obtain⟨j,b,c⟩:∃j,j<m+1/\j ∉ pl.toList:=Classical.byContradiction fun a=>by
  have:=List.Nodup.length_le_of_subset (List.nodup_range (n:=m+1)) fun j b=>Classical.byContradiction fun z=>a ⟨j,ybF.mp b,z⟩
  rw[yca,yba]at this;omega
 obtain⟨n,h1,h2⟩:=zxV hm b h;obtain⟨s,f,d⟩:=zsl (m:=m) (pl:=pl) n (bits h % (m+1)) (bits h);refine⟨s,by unfold turns;omega,?_⟩;show(tb m pl).slot (adv m pl s (atR m (bits h % (m+1)) (bits h))).j=_;rw[d,h2]
 rcases zkO (m:=m) (pl:=pl) j with e|⟨i,_,e⟩
 ·exact e
 ·exact absurd (ybh.mpr (yb6 e)) c
theorem ztM{m:Nat}{pl:Array Nat}{F:Nat->Int}{h:Int}:∀(fuel N:Nat) (p:Probe),N<fuel->(tb m pl).slot (adv m pl N p).j=.empty →
  (∃j,probe.go (tb m pl) F h fuel p=some (.empty j p.dummy))\/∃j i J I,I<N/\J.dummy=p.dummy/\(tb m pl).slot j=.live i/\pl[i]?=some j/\(tb m pl).slot (adv m pl I J).j=.empty/\probe.go (tb m pl) F h fuel p=some (.candidate j i J)
 |0,N,p,d,_=>absurd d (Nat.not_lt_zero N)|fuel+1,N,p,d,c=>by
  unfold probe.go
  have hd:((tb m pl).advance p).dummy=p.dummy:=by unfold advance;split<;>rfl
  rcases zkO (m:=m) (pl:=pl) p.j with e|⟨i,e,hi⟩
  ·rw[e];exact .inl ⟨_,rfl⟩
  ·rw[e];dsimp only
   cases N with
   |zero=>rw[show(tb m pl).slot (adv m pl 0 p).j=(tb m pl).slot p.j from rfl,e]at c;cases c|succ N=>
    split
    ·exact .inr ⟨_,i,_,N,ycf N,hd,e,hi,c,rfl⟩
    ·rcases ztM fuel N _ (ycB d) c with⟨j,z⟩|⟨j,a,b,I,k,g,f⟩
     ·exact .inl ⟨j,by rw[z,hd]⟩
     ·exact .inr ⟨j,a,b,I,ybN k,g.trans hd,f⟩
def sr(H:List Int->Int)(m:Nat)(pl:Array Nat)(ks:Array (List Int))(k:List Int):Nat->Probe->Option (Option Nat)
 |0,_=>none|f+1,p=>match(tb m pl).probe (fun i=>((ks[i]?).map H).getD 0) (H k) p with
  |some (.empty j none)=>some (some j)|some (.candidate j i nx)=>(match ks[i]? with
   |some k'=>if k'=k then some none else if(tb m pl).slot j=.live i then sr H m pl ks k f nx else none
   |none=>none)
  |_=>none
theorem zoz{H:List Int->Int}{m:Nat}{pl:Array Nat}{ks:Array (List Int)}{k:List Int}(I:pl.size=ks.size):∀(f N:Nat) (p:Probe),N<f->N<10*turns m->p.dummy=none->(tb m pl).slot (adv m pl N p).j=.empty->∃r,sr H m pl ks k f p=some r/\(r=none->k∈ks)
 |0,N,p,h,_,_,_=>absurd h (Nat.not_lt_zero N)|f+1,N,p,h,h2,hd,l=>by
  unfold sr SetTable.probe
  rcases ztM (m:=m) (pl:=pl) (F:=fun i=>((ks[i]?).map H).getD 0) (h:=H k) (10*turns (tb m pl).mask) N p h2 l with⟨j,e⟩|⟨j,i,g,n,o,d,c,b,a,e⟩
  ·rw[e,hd];exact⟨_,rfl,fun z=>nomatch z⟩
  ·rw[e];have hi:i<ks.size:=I ▸ (ybx.mp b).1;dsimp only;rw[ybI hi];dsimp only
   by_cases hk:ks[i]=k
   ·rw[if_pos hk];exact⟨_,rfl,fun _=>hk ▸ Array.getElem_mem hi⟩
   ·rw[if_neg hk,if_pos c];exact zoz I f n g (by omega) (by omega) (d.trans hd) a
section
variable{prog:Program}{w:World}{A:Around}{E:Z5}{s:Shared}
noncomputable abbrev TK(prog:Program)(w:World)(h:Heap)(k:List Int)(a:Addr):Prop:=IsTupleKey (intKind prog w) h k a
noncomputable abbrev th(prog:Program)(w:World)(k:List Int):Int:=tupleKeyHash (intKind prog w) k
def TK.ints{h:Heap}{k:List Int}{a:Addr}(x:TK prog w h k a):∃o aa n,h.get? a=some o/\o.cls=.type "tuple" /\ o.data=.seq aa n/\∀v∈aa.toList,∃i t,v=Value.int i t:=by
 obtain⟨o,aa,n,e,c,d,hi⟩:=x;refine⟨o,aa,n,e,c,d,?_⟩;generalize aa.toList=l at hi
 induction hi with
 |nil=>intro v hv;cases hv| @cons k v ks vs h1 _ f=>
  intro b hv
  rcases yaq.mp hv with rfl|hv
  ·obtain⟨t,e⟩:=Value.isInt_shape (k:=k) (v:=b) h1;exact⟨k,t,e⟩
  ·exact f b hv
def zhh{M:Model}{aa:Array Value}{f:Value->Option Bool×Unit->Sem (ForInStep (Option Bool×Unit))}{g:Option Bool×Unit->Sem Bool}{Q:Bool->Shared->Prop}(hv:∀v∈aa.toList,∃i t,v=Value.int i t)
  (hf:∀i t I,I (.yield (none,())) s->wpAny M A (f (.int i t) (none,())) I E s) (J:wpAny M A (g (none,())) Q E s):wpAny M A (forIn aa (none,()) f >>= g) Q E s:=by
 refine yac ?_;rw[<-Array.forIn_toList];refine wpAny_forIn_list _ (fun zbG r s'=>r=(none,())/\s'=s/\∀v∈zbG,∃i t,v=Value.int i t) _ ?_ ?_ _ _ ⟨rfl,rfl,hv⟩
 ·rintro v zbG _ s' ⟨rfl,rfl,a⟩;obtain⟨i,t,rfl⟩:=a v yao;exact hf i t _ ⟨rfl,rfl,fun u b=>a u (yaj _ b)⟩
 ·rintro _ s' ⟨rfl,rfl,_⟩;exact J
def zi7{M:Model}{k:List Int}{a:Addr}{Q:Bool->Shared->Prop}(x:TK prog w s.heap k a)(I:Q false s):wpAny M A (ofAClassStatement 8 (.ref a)) Q E s:=by
 obtain⟨o,aa,n,e,c,d,hv⟩:=x.ints;unfold ofAClassStatement;refine yac (wpAny_typeOf (T:="tuple") ⟨o,e,c⟩ (yac (yak ?_)));simp only[Bool.not_true,yb0,ydg];refine yac (ybU e d ?_);refine zhh hv (fun i t b q=>?_) (yak I);rw[show ofAClassStatement 7 (Value.int i t)=pure false by unfold ofAClassStatement;rfl];exact yac (yak (yak q))
def zof{k:List Int}{a:Addr}{Q:Bool->Shared->Prop}(x:TK prog w s.heap k a)(I:Q true s):wpAny (model prog w) A (hashByValue 8 (.ref a)) Q E s:=by
 obtain⟨o,aa,n,e,c,d,hv⟩:=x.ints;unfold hashByValue;refine yac (wpAny_specialOf x.typeIs F.slot_tuple_hash.lookup (yac (ybU e d ?_)));refine zhh hv (fun i t b q=>?_) (yak I);rw[show hashByValue 7 (Value.int i t)=pure true by unfold hashByValue;rfl];exact yac (yak (yak q))
def znx{k:List Int}{a:Addr}{Q:Bool->Shared->Prop}(x:TK prog w s.heap k a)(l:List Value)(I:∀v∈l,∃b k',v=.ref b/\TK prog w s.heap k' b)(J:Q false s):wpAny (model prog w) A (searchCouldBeSeen (.ref a) l) Q E s:=by
 unfold searchCouldBeSeen;refine yac (wpAny_forIn_list _ (fun zbG r s'=>r.1=none/\s'=s/\∀v∈zbG,∃b k',v=.ref b/\TK prog w s.heap k' b) _ ?_ ?_ _ _ ⟨rfl,rfl,I⟩)
 ·rintro v zbG r s' ⟨e,rfl,c⟩;obtain⟨b,k',rfl,y⟩:=c v yao;have tl:∀u∈zbG,∃b k',u=.ref b/\TK prog w s'.heap k' b:=fun u d=>c u (yaj _ d)
  dsimp only;split
  ·exact yak ⟨rfl,rfl,tl⟩
  ·exact yac (wpAny_eqIsQuiet_tuple x (yac (wpAny_eqIsQuiet_tuple y (yac (zi7 x (yac (zi7 y (yak ⟨rfl,rfl,tl⟩))))))))
 ·rintro⟨_,r⟩ s' ⟨rfl,rfl,_⟩;exact yak J
def ztm{M:Model}{α:Type}{c:Bool}{m:Sem Bool}{u k:Sem α}{Q:α->Shared->Prop}(hm:∀{I:Bool->Shared->Prop},I false s->wpAny M A m I E s)(hk:wpAny M A k Q E s):wpAny M A (if c=true then m >>= fun b=>if b=true then u else k else k) Q E s:=by
 split
 ·exact yac (hm hk)
 ·exact hk
theorem zq4{t:SetTable}(hd:t.dummies=#[]){F:Nat->Int}{h:Int}:∀(f:Nat) (p:Probe),probe.go t F h f p=probe.go (tb t.mask t.place) F h f p
 |0,p=>rfl|f+1,p=>by
  have es:t.slot p.j=(tb t.mask t.place).slot p.j:=by unfold slot;rw[hd];rfl
  have a:t.advance p=(tb t.mask t.place).advance p:=rfl;unfold probe.go;rw[es,a,zq4 hd f,show t.advance {p with dummy:=some p.j}=(tb t.mask t.place).advance {p with dummy:=some p.j} from rfl,zq4 hd f]
noncomputable abbrev fE(prog:Program)(w:World)(p:List Int×Addr):Int×Value:=(th prog w p.1,.ref p.2)
theorem zkS{a:Addr}{o:Obj}{I:Array (List Int×Addr)}{ep:Nat}{t:SetTable}(ho:s.heap.get? a=some o)(hd:o.data=.set (I.map (fE prog w)) ep t)(hf:t.fits I.size=true)(a5:t.dummies=#[])(U:t.mask % 2=1)(hu:A.units<cLine)
  {k:List Int}{x:Addr} (a3:∀p∈I,TK prog w s.heap p.1 p.2) (hx:TK prog w s.heap k x) {Q:SetFound->Shared->Prop}:
  ∀(fuel:Nat) (p:Probe) (J:Option Probe) (r:Option Nat),sr (th prog w) t.mask t.place (I.map (·.1)) k fuel p=some r->J.getD (t.probeStart (th prog w k))=p->Q (match r with|none=>.there none|some j=>.free j false) s->wpAny (model prog w) A (setSearchFrom a (.ref x) (th prog w k) true fuel J) Q E s
 |0,p,J,r,h,_,_=>by cases h
 |fuel+1,p,J,r,h,c,g=>by
  have b:t.fits (I.map (fE prog w)).size=true:=by rw[yaR];exact hf
  unfold setSearchFrom;refine yac (ycb ho hd b ?_);dsimp only;rw[show t.gaveWay=false by unfold SetTable.gaveWay;rw[U];rfl,c];simp only[yb0,ydg]
  have ep:∀F:Nat->Int,(∀i,F i=(((I.map (·.1))[i]?).map (th prog w)).getD 0)->t.probe F (th prog w k) p=(tb t.mask t.place).probe (fun i=>(((I.map (·.1))[i]?).map (th prog w)).getD 0) (th prog w k) p:=fun F u=>by
   rw[show F=fun i=>(((I.map (·.1))[i]?).map (th prog w)).getD 0 from funext u];exact zq4 a5 _ _
  rw[ep _ fun i=>by
   show(((I.map (fE prog w))[i]?).map (·.1)).getD 0=_;rw[yb1,yb1]
   cases I[i]?<;>rfl]
  unfold sr at h;split at h
  ·rename_i j e;rw[e];cases h;exact yak g
  ·rename_i j i nx e;rw[e];rw[yb1]at h
   cases hi:I[i]? with
   |none=>rw[hi]at h;cases h|some q=>
    rw[hi]at h;dsimp only[Option.map]at h
    have l:(I.map (fE prog w))[i]?=some (th prog w q.1,.ref q.2):=by rw[yb1,hi];rfl
    have n:=a3 q (yb6 hi);refine ztm (znx hx _ fun v hv=>?_) ?_
    ·obtain⟨y,f,ev⟩:=yaf.mp hv;obtain⟨z,m,rfl⟩:=Array.mem_map.mp (Array.mem_filter.mp (ybh.mp f)).1;exact⟨z.2,z.1,ev.symm,a3 z m⟩
    ·rw[l];refine yac (ybr (wpAny_eqBool_tuple hu n hx (yac (ycb ho hd b ?_))));dsimp only
     by_cases hk:q.1=k
     ·rw[if_pos hk]at h;cases h;rw[yap hk];exact yak g
     ·rw[if_neg hk]at h;split at h
      ·rename_i hs
       have d:t.slot j=.live i:=by rw[<-hs];unfold slot;rw[a5];rfl
       rw[yaz hk,show t.sameMemory t.moves t.mask=some true by unfold SetTable.sameMemory;simp];simp only[Bool.and_false,yb0,ydg,yci,d,l];refine yac (wpAny_isSame_ref_self (yac (yak ?_)));exact zkS ho hd hf a5 U hu a3 hx fuel nx _ r h rfl g
      ·cases h
  ·cases h
end
theorem zdm{α:Type}(xs:Array α)(p:Nat)(x:α):(insertAt xs p x).size=xs.size+1:=by
 simp[insertAt];omega
def zl2{α:Type}{xs:Array α}{p:Nat}{x y:α}(h:y∈(insertAt xs p x).toList):y=x\/y∈xs.toList:=by
 have e:(insertAt xs p x).toList=xs.toList.take p++x::xs.toList.drop p:=by simp[insertAt,List.extract_eq_take_drop,ybX]
 rw[e]at h
 rcases yay.mp h with h|h
 ·exact .inr (ybK h)
 ·exact(yaq.mp h).imp_right ybL
noncomputable abbrev Ow:=Array (Option Nat)
def zi8{o:Ow}{x:Nat}:(o.getD x (some 0)).isNone=true↔o[x]?=some none:=by
 rw[Array.getD_eq_getD_getElem?]
 rcases o[x]? with _|_|_<;>simp
theorem zmc{o:Ow}:∀(fuel n i p:Nat),n<fuel->o[pos 31 n i p]?=some none->∃j,layClean.free 31 o fuel i p=some j/\o[j]?=some none
 |0,n,i,p,h,_=>absurd h (Nat.not_lt_zero n)|fuel+1,n,i,p,h,a=>by
  unfold layClean.free
  cases e:(List.range (runEnd 31 i+1-i)).find? fun k=>(o.getD (i+k) (some 0)).isNone with
  |some k=>exact⟨i+k,rfl,zi8.mp (have:=List.find?_some e;this)⟩|none=>
   cases n with
   |zero=>
    have:=List.find?_range_eq_none.mp e 0 (by unfold runEnd;split<;>omega);rw[Nat.add_zero,zi8.mpr (show o[i]?=some none from a)]at this;cases this
   |succ n=>exact zmc fuel n _ _ (ycB h) a
noncomputable def cnt(l:List (Option Nat)):List Nat:=l.filterMap id
theorem zim : ∀ (l : List (Option Nat)) (j k : Nat), l[j]?=some none -> (cnt (l.set j (some k))).length=(cnt l).length + 1
  |[], j, k, h=> by cases h
  | a :: l, 0, k, h => by obtain rfl : a = none := by simpa using h
                          rfl
  |none :: l, j + 1, k, h=> zim l j k (by simpa using h)
  |some a :: l, j + 1, k, h=> congrArg (· + 1) (zim l j k (by simpa using h))
theorem zjy:∀(l:List (Option Nat)),(cnt l).length<l.length->∃x:Nat,l[x]?=some none
 |[],h=>absurd h (yaT 0)|none::l,_=>⟨0,rfl⟩|some a::l,h=>let ⟨x,e⟩:=zjy l (ycB h);⟨x+1,by simpa using e⟩
structure LC(o:Ow)(k:Nat):Prop where
 size:o.size=32
 len:(cnt o.toList).length=k
 lt:∀x∈cnt o.toList,x<k
def lcF(acc:Option (Ow×Nat))(h:Int):Option (Ow×Nat):=do
  let (owner,k) ← acc
  let j ← layClean.free 31 owner (turns 31) (bits h % (31+1)) (bits h)
  pure (owner.setIfInBounds j (some k),k+1)
theorem zlG:∀(hs:List Int) (k:Nat) (o:Ow),LC o k->k+hs.length<=31->∃o',hs.foldl lcF (some (o,k))=some (o',k+hs.length)/\LC o' (k+hs.length)
 |[],k,o,L,_=>⟨o,rfl,L⟩|h::hs,k,o,L,i=>by
  rw[yad]at i;obtain⟨x,c⟩:=zjy o.toList (by rw[L.len,yba,L.size];omega);rw[ybC]at c;have a:=(ybx.mp c).1;rw[L.size]at a;obtain⟨n,g,m⟩:=zxV (.inr rfl) (show x<31+1 from a) h;obtain⟨j,l,d⟩:=zmc (o:=o) (turns 31) n _ _ (yan g (by decide)) (by rw[m];exact c)
  have q:o.toList[j]?=some none:=by rw[ybC];exact d
  obtain⟨o',f,e2⟩:=zlG hs (k+1) (o.setIfInBounds j (some k)) ⟨by rw[Array.size_setIfInBounds];exact L.size,by rw[Array.toList_setIfInBounds,zim _ _ _ q,L.len],fun y e=>by
   rw[Array.toList_setIfInBounds]at e;obtain⟨b,hb,p⟩:=ybA.mp e;obtain rfl:b=some y:=p
   rcases List.mem_or_eq_of_mem_set hb with z|z
   ·exact ybN (L.lt y (ybA.mpr ⟨_,z,rfl⟩))
   ·cases z;exact ycf _⟩ (by omega)
  rw[show k+1+hs.length=k+(h::hs).length by rw[yad];omega]at f e2;refine⟨o',?_,e2⟩;rw[List.foldl_cons,<-f];show hs.foldl lcF (layClean.free 31 o (turns 31) (bits h % (31+1)) (bits h) >>= fun j=>pure (o.setIfInBounds j (some k),k+1))=_;rw[l];rfl
theorem zlJ(hs:Array Int)(J:hs.size<=31):∃pl order,(∀f I led p,laid 31 f I led p hs=some ({mask:=31,place:=pl,dummies:=#[],finger:=f,led:=led,moves:=I,plain:=p},order))/\pl.size=hs.size/\∀{α:Type} (xs:Array α),xs.size=hs.size->(order.filterMap (xs[·]?)).size=hs.size:=by
 obtain⟨o,c,L⟩:=zlG hs.toList 0 (Array.replicate (31+1) none) ⟨rfl,rfl,fun x b=>by cases b⟩ (by simpa using J);rw[yc5,yba]at c L
 have k:layClean 31 hs=some o:=by
  unfold layClean;rw[<-Array.foldl_toList];exact congrArg (Option.map (·.1)) c
 have e:o.toList=(List.range 32).map fun j=>o.getD j none:=by
  refine List.ext_getElem (by simp[L.size]) fun i h1 h2=>?_
  have:i<o.size:=by simpa using h1
  simp[Array.getD,this]
 have e2:((List.range 32).filterMap fun j=>(o.getD j none).map (j,·)).map (·.2)=cnt o.toList:=by
  rw[e];unfold cnt;rw[yc2,List.map_filterMap];refine congrArg (List.filterMap · (List.range 32)) (funext fun j=>?_);show Option.map _ (Option.map _ (o.getD j none))=o.getD j none
  cases o.getD j none<;>rfl
 have g:((List.range 32).filterMap fun j=>(o.getD j none).map (j,·)).length=hs.size:=by rw[<-L.len,<-e2,yab]
 refine⟨_,_,fun f I led p=>by unfold laid;rw[k];rfl,?_,fun xs b=>?_⟩
 ·rw[yam,yab];exact g
 ·have key:∀l:List Nat,(∀x∈l,x<xs.size)->(l.filterMap (xs[·]?)).length=l.length:=fun l=>by
   induction l with
   |nil=>exact fun _=>rfl|cons a l d=>
    intro h;rw[List.filterMap_cons_some (ybI (h a yao)),yad,yad,d fun x b=>h x (yaj _ b)]
  have:=key (cnt o.toList) (by rw[b];exact L.lt);rw[L.len]at this;rw[<-this,<-e2,<-yba,Array.toList_filterMap]
noncomputable abbrev SS:=Nat×Array Nat×Array (List Int)
def zrz(H:List Int->Int)(st:SS)(k:List Int):Option SS:=match sr H st.1 st.2.1 st.2.2 k 100000 ((tb st.1 st.2.1).probeStart (H k))with
 |some none=>some st|some (some j)=>if(st.2.2.size+1)*5 ≥ st.1*3 then(laid 31 0 0 true true ((insertAt st.2.2 (below st.2.1 j) k).map H)).map fun r=>(31,r.1.place,r.2.filterMap ((insertAt st.2.2 (below st.2.1 j) k)[·]?))
  else some (st.1,insertAt st.2.1 (below st.2.1 j) j,insertAt st.2.2 (below st.2.1 j) k)
 |none=>none
structure Gd(st:SS)(n:Nat):Prop where
 m:(st.1=7/\st.2.2.size<=4)\/st.1=31
 z:st.2.1.size=st.2.2.size
 n:st.2.2.size<=n
def ziu{H:List Int->Int}{st:SS}{n:Nat}{k:List Int}(g:Gd st n)(J:n<=17):∃I,zrz H st k=some I/\Gd I (n+1)/\(∀y∈I.2.2,y=k\/y∈st.2.2)/\(k ∉ st.2.2->I.2.2.size=st.2.2.size+1):=by
 obtain⟨m,pl,ks⟩:=st;obtain⟨g1,g2,g3⟩:=g;dsimp only at g1 g2 g3;have hm:m=7\/m=31:=g1.imp And.left id;obtain⟨N,h1,h2⟩:=way (pl:=pl) hm (by rcases g1 with z|z<;>omega) (H k)
 have o:10*turns m<=100000:=by rcases hm with rfl|rfl<;>decide
 obtain⟨r,e,i⟩:=zoz (H:=H) (ks:=ks) (k:=k) g2 100000 N _ (by omega) h1 rfl h2;unfold zrz;dsimp only;rw[e]
 cases r with
 |none=>exact⟨_,rfl,⟨g1,g2,Nat.le_succ_of_le g3⟩,fun y a=>.inr a,fun z=>absurd (i rfl) z⟩|some j=>
  have im:∀y∈insertAt ks (below pl j) k,y=k\/y∈ks:=fun y a=>(zl2 (ybh.mpr a)).imp_right ybh.mp
  have b:(insertAt ks (below pl j) k).size=ks.size+1:=zdm ..;dsimp only;split
  ·rename_i l;obtain⟨h,order,l1,f,d⟩:=zlJ ((insertAt ks (below pl j) k).map H) (by rw[yaR,b];omega);rw[yaR,b]at f d;have c:=d (insertAt ks (below pl j) k) b;rw[l1];refine⟨_,rfl,⟨.inr rfl,f.trans c.symm,by show(order.filterMap _).size<=_;omega⟩,fun y a=>?_,fun _=>c⟩;obtain⟨q,_,e⟩:=Array.mem_filterMap.mp a;exact im y (yb6 e)
  ·rename_i l;refine⟨_,rfl,⟨?_,?_,?_⟩,im,fun _=>b⟩
   ·rcases g1 with⟨rfl,_⟩|rfl
    ·exact .inl ⟨rfl,by show(insertAt ks _ k).size<=4;omega⟩
    ·exact .inr rfl
   ·show(insertAt pl _ j).size=(insertAt ks _ k).size;rw[zdm,zdm,g2]
   ·show(insertAt ks _ k).size<=n+1;omega
section
variable{prog:Program}{w:World}{A:Around}{E:Z5}{s:Shared}
def TK.keep{h h':Heap}{k:List Int}{b:Addr}(x:TK prog w h k b)(e:∀o,h.get? b=some o->(∀es I t,o.data≠.set es I t)->(∀vs,o.data≠.fields vs)->h'.get? b=some o):TK prog w h' k b:=by
 obtain⟨o',items,n,a,c,hd,hi⟩:=x;exact⟨o',items,n,e _ a (fun _ _ _ z=>by rw[hd]at z;cases z) (fun _ z=>by rw[hd]at z;cases z),c,hd,hi⟩
noncomputable def zki(prog:Program)(w:World)(h:Heap)(a:Addr)(st:SS):Prop:=
 ∃(o:Obj) (b:Array (List Int×Addr)) (c:Nat) (t:SetTable),h.get? a=some o/\o.ExactSet/\o.data=.set (b.map (fE prog w)) c t/\t.mask=st.1/\t.place=st.2.1/\t.dummies=#[]/\t.fits b.size=true/\b.map (·.1)=st.2.2/\∀p∈b,TK prog w h p.1 p.2
def putS{h:Heap}{a:Addr}{o:Obj}{es es':Array (Int×Value)}{I:Nat}{t t':SetTable}(ho:h.get? a=some o)(J:o.ExactSet)(hd:o.data=.set es I t):
  ∃o',(h.update a (Obj.putSet es' t')).get? a=some o'/\o'.ExactSet/\o'.data=.set es' (I+1) t':=by
 refine⟨{o with data:=.set es' (I+1) t'},?_,J,rfl⟩;rw[ycM _ ho (by rw[putSet_of es' t' hd];rfl),putSet_of es' t' hd]
def TK.but{h h':Heap}{k:List Int}{b a:Addr}{o:Obj}{es J t}(x:TK prog w h k b)(ho:h.get? a=some o)(hd:o.data=.set es J t)(I:Heap.SameBut a h h'):TK prog w h' k b:=
 x.keep fun o' q n _=>(I.2 b (by rintro rfl;rw[ho]at q;cases q;exact n _ _ _ hd)).trans q
def zq9{t:SetTable}{n:Nat}(h:t.fits n=true):t.place.size=n/\t.fill<=t.mask:=by
 unfold SetTable.fits at h;rw[yaa]at h;exact⟨eq_of_beq h.1,yah h.2⟩
def zl3{α β:Type}(f:α->β)(xs:Array α)(p:Nat)(x:α):insertAt (xs.map f) p (f x)=(insertAt xs p x).map f:=by
 simp[insertAt,Array.map_extract]
def zlt{α β:Type}(f:α->β)(xs:Array α)(o:Array Nat):o.filterMap ((xs.map f)[·]?)=(o.filterMap (xs[·]?)).map f:=by
 rw[Array.map_filterMap];congr 1;funext i;rw[yb1]
theorem zpV{a:Addr}{st J:SS}{n:Nat}{k:List Int}{x:Addr}{Q:Bool->Shared->Prop}(S:zki prog w s.heap a st)(g:Gd st n)(hn:n<=17)(U:TK prog w s.heap k x)(hu:A.units<cLine)(I:zrz (th prog w) st k=some J)
  (h:∀h' c,Heap.SameBut a s.heap h'->zki prog w h' a J->Q c {s with heap:=h',toks:=s.toks+(k.length+1)}):wpAny (model prog w) A (setAdd a (.ref x)) Q E s:=by
 unfold setAdd;refine ybr (yac (wpAny_pyHash_tuple hu U ?_));obtain⟨o,b,ep,t,O,hex,hd,tm,tp,d,hf,q,B⟩:=id S;obtain⟨hz,_⟩:=zq9 hf;obtain⟨m,pl,ks⟩:=st;dsimp only at tm tp q;subst tm tp;obtain⟨g1,g2,g3⟩:=g;dsimp only at g1 g2 g3;have hm:t.mask=7\/t.mask=31:=g1.imp And.left id
 have hsz:b.size=ks.size:=by rw[<-q,yaR]
 generalize y:({s with toks:=s.toks+(k.length+1)}:Shared)=s1
 have C:s1.heap=s.heap:=by rw[<-y]
 have l:s1.heap.get? a=some o:=C ▸ O
 have L:t.fits (b.map (fE prog w)).size=true:=by rw[yaR];exact hf
 unfold setAddHashed;refine ybr ?_;unfold setAddHashedIn;refine yac (ycb l hd L ?_);dsimp only;rw[show byScan (.ref x) (b.map (fE prog w))=false by unfold byScan;rfl];refine yac ?_;unfold zrz at I;dsimp only at I;split at I
 ·rename_i e;cases I;refine zkS l hd hf d (by rcases hm with z|z<;>rw[z]) hu (fun p I=>C ▸ B p I) (C ▸ U) 100000 _ none none (q ▸ e) rfl ?_;subst y;exact yak (h s.heap false ⟨rfl,fun _ _=>rfl⟩ S)
 ·rename_i j e;refine zkS l hd hf d (by rcases hm with z|z<;>rw[z]) hu (fun p I=>C ▸ B p I) (C ▸ U) 100000 _ none (some j) (q ▸ e) rfl ?_
  have r:t.put j=({t with place:=insertAt t.place (below t.place j) j},below t.place j):=by
   unfold SetTable.put;rw[d,show has #[] j=false by unfold has below;rfl];simp[d]
  generalize hP:below t.place j=P at I r
  have fin:∀(t':SetTable),t'.mask=t.mask->t'.dummies=#[]->t'.place=insertAt t.place P j →
    wpAny (model prog w) A (do
     storeSet a (insertAt (b.map (fE prog w)) P (th prog w k,.ref x)) t'
     if(!false&&t'.tooFull)=true then setRelay a (grown ((b.map (fE prog w)).size+1))
     return true) Q E s1:=by
   intro t' W m2 V;have eI:=zl3 (fE prog w) b P (k,x);have Y:=zl3 (fun p:List Int×Addr=>p.1) b P (k,x);have N:(insertAt b P (k,x)).size=b.size+1:=zdm ..;rw[show((th prog w k,Value.ref x):Int×Value)=fE prog w (k,x)from rfl,eI,yaR];rw[q]at Y
   have u:∀{h'},Heap.SameBut a s.heap h'->∀p∈insertAt b P (k,x),TK prog w h' p.1 p.2:=fun sb p I=>by
    rcases zl2 (ybh.mpr I)with rfl|z
    ·exact U.but O hd sb
    ·exact(B p (ybh.mp z)).but O hd sb
   generalize insertAt b P (k,x)=K at*
   have H:t'.fill=b.size+1:=by unfold SetTable.fill;rw[m2,V,zdm,hz];rfl
   have F1:t'.fits K.size=true:=by
    unfold SetTable.fits;rw[H,V,zdm,hz,N,W,ybq];exact yap (by rcases g1 with z|z<;>omega)
   have Z:t'.fits (K.map (fE prog w)).size=true:=by rw[yaR];exact F1
   refine yac (wpAny_storeSet_of l hd ?_ (by rw[yaR,N];exact yav (show b.size+1<=18 by omega) (by decide)));obtain⟨o1,M,x1,T⟩:=putS (es':=K.map (fE prog w)) (t':=t') O hex hd;have v:Heap.SameBut a s.heap (s.heap.update a (Obj.putSet (K.map (fE prog w)) t')):=Heap.SameBut.update ..;subst y
   have tf:t'.tooFull=decide ((ks.size+1)*5 ≥ t.mask*3):=by unfold SetTable.tooFull;rw[H,W,hsz]
   rw[tf]
   by_cases R:(ks.size+1)*5 ≥ t.mask*3
   ·rw[if_pos R,show insertAt ks P k=K.map (·.1)from Y]at I
    have X:t.mask=7/\ks.size+1=5:=by rcases g1 with z|z<;>omega
    obtain⟨G,order,l1,l2,l3⟩:=zlJ ((K.map (·.1)).map (th prog w)) (by rw[yaR,yaR,N];omega);rw[l1]at I;cases I;rw[yap R,hsz,X.2];unfold setRelay;refine yac (yac (ycb (s:={s with heap:=s.heap.update a (Obj.putSet (K.map (fE prog w)) t'),toks:=s.toks+(k.length+1)}) M T Z ?_));rw[yaR,yaR]at l2 l3
    have eh:(K.map (fE prog w)).map (·.1)=(K.map (·.1)).map (th prog w):=by rw[Array.map_map,Array.map_map];rfl
    dsimp only;rw[if_neg (by decide),show t'.relaid ((K.map (fE prog w)).map (·.1)) (grown 5)=_ from eh ▸ l1 t'.finger (t'.movedTo 31) t'.led t'.plain];refine yac ?_;have D:=l3 (K.map (fE prog w)) (yaR ..);show wpAny _ _ (if((order.filterMap ((K.map (fE prog w))[·]?)).size != (K.map (fE prog w)).size)=true then _ else _) _ _ _;rw[if_neg (by rw[D,yaR];simp)];refine yak (wpAny_storeSet_of (s:={s with heap:=s.heap.update a (Obj.putSet (K.map (fE prog w)) t'),toks:=s.toks+(k.length+1)}) M T ?_ (by rw[D,N];exact yav (show b.size+1<=18 by omega) (by decide)));obtain⟨o2,q2,x2,d2⟩:=putS (es':=order.filterMap ((K.map (fE prog w))[·]?)) (t':={mask:=31,place:=G,dummies:=#[],finger:=t'.finger,led:=t'.led,moves:=t'.movedTo 31,plain:=t'.plain}) M x1 T;rw[zlt]at D d2;rw[yaR]at D;have F:=v.trans (Heap.SameBut.update (h:=s.heap.update a (Obj.putSet (K.map (fE prog w)) t')) (a:=a) (f:=Obj.putSet (order.filterMap ((K.map (fE prog w))[·]?)) {mask:=31,place:=G,dummies:=#[],finger:=t'.finger,led:=t'.led,moves:=t'.movedTo 31,plain:=t'.plain}));refine yak (h _ true F ⟨o2,_,_,_,q2,x2,d2,rfl,rfl,rfl,?_,by rw[<-zlt],fun p I=>?_⟩)
    ·unfold SetTable.fits SetTable.fill;dsimp only;rw[D,l2,ybq];exact yap (show K.size+0<=31 by omega)
    ·obtain⟨i,_,e⟩:=Array.mem_filterMap.mp I;exact u F p (yb6 e)
   ·rw[if_neg R]at I;cases I;rw[yaz R];refine yac (yak (yak (h _ true v ⟨o1,K,_,t',M,x1,T,W,V,m2,F1,Y.symm,u v⟩)))
  refine yac (ycb l hd L ?_);dsimp only;rw[r];dsimp only
  cases af:t.plain with
  |true=>exact yac (zof (C ▸ U) (fin _ rfl d rfl))|false=>exact yac (yak (fin _ rfl d rfl))
 ·cases I
end
noncomputable def st0:SS:=(7,#[],#[])
def zkq(H:List Int->Int)(ks:Z2):SS:=ks.foldl (fun st k=>(zrz H st k).getD st) st0
def zgo{H:List Int->Int}(ks:Z2)(k:List Int):zkq H (ks++[k])=(zrz H (zkq H ks) k).getD (zkq H ks):=List.foldl_append ..
theorem zjp{H:List Int->Int}{keys:Z2}(I:keys.length<=18):∀i,i<=keys.length->Gd (zkq H (keys.take i)) i
 |0,_=>⟨.inl ⟨rfl,yaJ _⟩,rfl,yai _⟩|i+1,hi=>by
  have g:=zjp (H:=H) I i (by omega);obtain⟨a,e,g',_⟩:=ziu (H:=H) (k:=keys[i]) g (by omega);rw[ycE,yal (show i<keys.length by omega),Option.toList_some,zgo,e];exact g'
section
variable{prog:Program}{w:World}{A:Around}{R:Result->Shared->Prop}{s:Shared}
theorem zki.keep{h h':Heap}{a it:Addr}{o:Obj}{vs:Array Value}{st:SS}(x:zki prog w h a st)(ho:h.get? it=some o)(hd:o.data=.fields vs)(e:∀b o,b≠it->h.get? b=some o->h'.get? b=some o):zki prog w h' a st/\a≠it:=by
 obtain⟨o',f,l,t,i,e2,g,v,u,s,r,q,m⟩:=x
 have c:a≠it:=by rintro rfl;rw[ho]at i;cases i;rw[hd]at g;cases g
 exact⟨⟨o',f,l,t,e a o' c i,e2,g,v,u,s,r,q,fun p k=>(m p k).keep fun j d _ n=>e p.2 j (by rintro rfl;rw[ho]at d;cases d;exact n _ hd) d⟩,c⟩
theorem zmK{S I ax:Addr}{aa:Array Value}{keys:Z2}(hh:A.in1.handled=none)(hu:A.in1.units<cLine)(hlen:aa.size=keys.length)(h5:keys.length<=18)(J:S≠ax)(U:ax≠I):
  ∀(k i:Nat) (s:Shared),keys.length-i=k->i<=keys.length->s.heap.IsTupleIter I ax i->s.heap.IsTuple ax aa->(∀(j:Nat) (v:Value),aa[j]?=some v->∃b,v=.ref b/\TK prog w s.heap (keys.getD j []) b) →
   zki prog w s.heap S (zkq (th prog w) (keys.take i)) →
   (∀h' tk,(∀b o,b≠S->b≠I->s.heap.get? b=some o->h'.get? b=some o)->zki prog w h' S (zkq (th prog w) keys)->R (.ok (.ret .none)) {s with heap:=h',toks:=tk}) →
   codeAny (model prog w) A (.builtin "set.update.loop" ⟨[.ref S,.ref I],[]⟩) R s:=by
 intro k
 induction k with
 |zero=>
  intro i s hk hi it y f ts N
  have e:i=keys.length:=by omega
  refine ycW F.entry_set_update_loop ?_;rw[Around.under_plainId ycs _];show wpAny _ A.in1 (pyNext (.ref I) >>= _) _ _ s;refine yac (wpAny_pyNext_tuple_end hh it y (Array.getElem?_eq_none (by rw[hlen,e];exact yai _)) fun h' B=>?_);obtain⟨o,D,e2,C⟩:=id it;rw[e,ych]at ts;exact yak (N h' s.toks (fun b o _ hb q=>B b o hb q) (ts.keep D C fun b o hb q=>B b o hb q).1)
 |succ k Q=>
  intro i s hk hi it y f ts N
  have h:i<keys.length:=by omega
  have d:i<aa.size:=by omega
  refine ycW F.entry_set_update_loop ?_;rw[Around.under_plainId ycs _];show wpAny _ A.in1 (pyNext (.ref I) >>= _) _ _ s;refine yac (wpAny_pyNext_tuple_item it y (x:=aa[i]) (ybI d) fun h1 L c=>?_);obtain⟨o,D,e2,C⟩:=id it;obtain⟨m,M⟩:=ts.keep (h':=h1) D C fun b o hb q=>(c.2 b hb).trans q
  obtain⟨b,B,G⟩:=f i aa[i] (ybI d);have p:∀{k' b'},TK prog w s.heap k' b'->TK prog w h1 k' b':=fun {k' b'} z=>z.keep fun Z q _ n=>(c.2 b' (by rintro rfl;rw[D]at q;cases q;exact n _ C)).trans q
  rw[B];show wpAny _ A.in1 (holding [Value.ref b] (setAdd S (.ref b)) >>= _) _ _ _
  have X:keys.take i++[keys.getD i []]=keys.take (i+1):=by
   rw[ycE,yal h,ycd,yal h];rfl
  have g:=zjp (H:=th prog w) h5 i hi;obtain⟨K,es,_⟩:=ziu (H:=th prog w) (k:=keys.getD i []) g (by omega);refine yac (ybr (zpV (s:={s with heap:=h1}) m g (by omega) (p G) hu es fun h2 r a l=>?_))
  have O:K=zkq (th prog w) (keys.take (i+1)):=by rw[<-X,zgo,es];rfl
  rw[O]at l;obtain⟨Y,V,W,tS,f1,f2,T,_⟩:=m;refine yak ⟨plainId_quiet ycs _,?_⟩
  refine Q (i+1) _ (by omega) h (L.at fun o q=>(a.2 I (Ne.symm M)).trans q) ((y.at fun o q=>(c.2 ax U).trans q).at fun o q=>(a.2 ax (Ne.symm J)).trans q) (fun j v hv=>?_) l fun h' tk kp E=>
   N h' tk (fun b' o u t q=>kp b' o u t ((a.2 b' u).trans ((c.2 b' t).trans q))) E
  obtain⟨b',P,z⟩:=f j v hv;exact⟨b',P,(p z).but f1 T a⟩
end
end ST
namespace PySem
open PyProof.Rows
section
variable{prog:Program}{w:World}{A:Around}{E:Z5}{s:Shared}
theorem zfi{l:Addr}{aa:Array Value}{keys:Z2}{Q:Z5}(hh:A.handled=none)(hu:A.units+8<cLine)(U:s.heap.IsTuple l aa)(hlen:aa.size=keys.length)(h5:keys.length<=18)
  (I:∀(j:Nat) (v:Value),aa[j]?=some v->∃b,v=.ref b/\ST.TK prog w s.heap (keys.getD j []) b)
  (h:∀h' tk,(∀b o,s.heap.get? b=some o->h'.get? b=some o)->ST.zki prog w h' s.heap.objs.size (ST.zkq (ST.th prog w) keys)->Q (.ref s.heap.objs.size) {s with heap:=h',toks:=tk}):
  wpAny (model prog w) A (call (.type "set") [.ref l]) Q E s:=by
 obtain⟨Y,tl,M⟩:=yb7.mro;have B:=yb7.made;have J:=yb7.sub;have h1:=yb7.notType;have h2:=yb7.canCreate;have T:=F.typeCall_set_1 (.ref l);refine ydd (codeAny_of_tree ?_);show wpAny _ _ (callAny (.type "set") _) _ _ _;refine yak ⟨Code.quiet_builtin _ (by decide +kernel),ycW F.entry_type_call ?_⟩;rw[Around.under_plain (weight_type_call_type "set" [.ref l] []) rfl]
 repeat (any_goals (first|assumption|wp_step))
 refine ybQ (code_set_new_1 (.ref l) (E:=E) (Q₁:=fun obj s1=>∃led:Bool,obj=.ref s.heap.objs.size/\s1={s with heap:=s.heap.push {cls:=.type "set",dict:=none,data:=.set #[] 0 (.fresh 0 0 led)}}) fun led=>⟨led,rfl,rfl⟩) ?_;intro r s1 g
 match r,g with
 |.error e,g=>exact g|.ok (.ret obj),g=>
  obtain⟨led,rfl,rfl⟩:=g;generalize D:s.heap.push {cls:=.type "set",dict:=none,data:=.set #[] 0 (.fresh 0 0 led)}=G;have N:G.get? s.heap.objs.size=some {cls:=.type "set",dict:=none,data:=.set #[] 0 (.fresh 0 0 led)}:=D ▸ yaw _ rfl;have d:∀b o,s.heap.get? b=some o->G.get? b=some o:=fun b o e=>D ▸ yag _ e
  have q:G.objs.size=s.heap.objs.size+1:=by rw[<-D,ya6]
  have W:Shared.TypeIs {s with heap:=G} (.ref s.heap.objs.size) "set":=⟨_,N,rfl⟩;have S:=yb7.init.lookup;have V:=yb7.init.bind (.ref s.heap.objs.size)
  repeat (any_goals (first|assumption|wp_step))
  refine ybQ (ycS (R:=wants (fun r s2=>r=.none/\∃h' tk,s2={s with heap:=h',toks:=tk}/\(∀b o,s.heap.get? b=some o->h'.get? b=some o)/\ST.zki prog w h' s.heap.objs.size (ST.zkq (ST.th prog w) keys)) E) yb7.init.plain F.entry_set_init (check_set_init_1 W ?_)) ?_
  ·obtain⟨⟨H,u,y,t⟩,k,p,nl,n⟩:=U;simp only at p n;subst p;subst n;have i:=d l _ k;have K:=F.sub_tuple_set;have L:=F.sub_tuple_frozenset
   have P:(Value.type "tuple"==Value.type "dict")=false:=by decide
   have f:G.IsTuple l aa:=⟨_,i,rfl,nl,rfl⟩;unfold Builtin.«set.__init__» noKeywords Builtin.Frozenset.updateFrom;generalize C:pyIter=PI
   wp_walk
   subst C;refine yco f ?_;refine yac (wpAny_runValue ?_);have m:l<s.heap.objs.size:=yau k;have c:∀b o,G.get? b=some o->(G.push {cls:=.type "tuple_iterator",data:=.fields #[.ref l,.int 0 0]}).get? b=some o:=fun b o e=>yag _ e
   refine ST.zmK (aa:=aa) (keys:=keys) (ax:=l) (by simp[hh]) (show A.units+3<cLine by omega) hlen h5 (ya1 m) (by rw[q];exact yaB (ybN m)) keys.length 0 _ (by omega) (yaJ _) ⟨_,yaw _ rfl,rfl,rfl⟩ (f.at fun o e=>c l o e) (fun j v hv=>?_) ?_ ?_
   ·obtain⟨b,X,z⟩:=I j v hv;exact⟨b,X,z.keep fun o e _ _=>c b o (d b o e)⟩
   ·exact⟨_,#[],0,.fresh 0 0 led,c _ _ N,⟨rfl,rfl,rfl⟩,by rw[Array.map_empty],rfl,rfl,rfl,rfl,by rw[Array.map_empty];rfl,fun x O=>absurd O (Array.not_mem_empty x)⟩
   ·intro h' tk kp ts;refine yak ?_;show wpAny _ _ (ret Value.none) _ _ _;refine yak ⟨rfl,h',tk,rfl,fun b o e=>kp b o (yaB (yau e)) ?_ (c b o (d b o e)),ts⟩;rw[q];exact yaB (ybN (yau e))
  ·intro r2 s2 a
   match r2,a with
   |.error e,a=>exact a|.ok (.ret v),a=>
    obtain⟨rfl,h',tk,rfl,kp,ts⟩:=a
    repeat (any_goals (first|assumption|wp_step))
    exact h h' tk kp ts
end
end PySem
namespace ST
open PySem
noncomputable def H0(k:List Int):Int:=reduceHash (Builtin.Tuple.tupleHashOf (k.map hashInt))
def zu3{prog:Program}{w:World}:th prog w=H0:=rfl
def ddN(ks:Z2):Nat:=(zkq H0 ks).2.2.size
def zwf{ks:Z2}(I:ks.length<=18)(nd:ks.Nodup):ddN ks=ks.length:=by
 have key:∀i,i<=ks.length->(zkq H0 (ks.take i)).2.2.size=i/\∀y∈(zkq H0 (ks.take i)).2.2,y∈ks.take i:=fun i=>by
  induction i with
  |zero=>exact fun _=>⟨rfl,fun y b=>absurd b (Array.not_mem_empty y)⟩|succ i f=>
   intro hi;obtain⟨h1,h2⟩:=f (by omega);have g:=zjp (H:=H0) I i (by omega);obtain⟨d,e,_,m,z⟩:=ziu (H:=H0) (k:=ks[i]) g (by omega)
   have c:ks.take (i+1)=ks.take i++[ks[i]]:=by rw[ycE,yal (show i<ks.length by omega)];rfl
   have a:(ks.take i++[ks[i]]).Nodup:=c ▸ List.Nodup.sublist (yc9 ..) nd;rw[c,zgo,e];refine⟨(z fun q=>(ybP.mp a).2.2 _ (h2 _ q) _ (yaE.mpr rfl) rfl).trans (by rw[h1]),fun y b=>?_⟩
   rcases m y b with rfl|q
   ·exact yay.mpr (.inr (yaE.mpr rfl))
   ·exact yay.mpr (.inl (h2 y q))
 have:=(key ks.length (yai _)).1;rwa[ych]at this
def zwg{ks:Z2}(I:ks.length<=18):ddN ks<=ks.length:=by
 have:=(zjp (H:=H0) I ks.length (yai _)).n;rwa[ych]at this
end ST
namespace L2
open PySem PySem.Spec PyProof.Rows
section
variable{X:Cx}{a b c:Expr}{ta tb tc:TE}{pos:Pos}
def zio:zdY X (.builtin "isinstance") (fun xs H Q=>∃x t c k,xs=[x,.ty c]/\TyOf X.K H x t/\PySem.W.kitOne X.K t (.type c)=some k/\Q (.bl k) H):=by
 intro pins s σ H xs us Q I r h;obtain⟨x,t,c,k,rfl,ty,e,q⟩:=h
 cases r with
 |cons d a=>
  cases a with
  |cons r2 b=>
   cases b;cases (show _=Value.type c from r2);exact zlX I d ty e fun tk=>⟨.bl k,H,I.tok tk,rfl,q⟩
def zf5(bs:List Bool):((List.range bs.length).all fun i=>(bs[i]?).getD true)=bs.all id:=by
 rw[Bool.eq_iff_iff,yaK,yaK];constructor
 ·intro h b hb;obtain⟨i,hi,e⟩:=List.mem_iff_getElem.mp hb;have:=h i (ybF.mpr hi);rwa[yal hi,e]at this
 ·intro h i hi;have a:=ybF.mp hi;rw[yal a];exact h _ (List.getElem_mem a)
def ziq(J:X.calm=true):zdY X (.builtin "all") (fun xs H Q=>∃(p:Addr) (bs:List Bool),xs=[.ref p]/\SqL X.K H p (bs.map V.bl)/\Q (.bl (bs.all id)) H):=by
 intro pins s σ H xs us Q I r h;obtain⟨p,bs,rfl,m,q⟩:=h;obtain⟨u,rfl,k⟩:=zgE r;cases k;obtain⟨aa,f,pl,y⟩:=I.list m;have c:=pl.isList
 have a:p<s.heap.objs.size:=by obtain⟨_,e,_⟩:=c;exact yau e
 have j:aa.length=bs.length:=by have:=f.length;rw[yab]at this;exact this.symm
 refine call_all_walk (wpAny_pyIter_list c ?_);refine⟨s.heap.objs.size,[s.heap.objs.size,p],[s.heap.objs.size],aa.toArray.size,_,_,fun i=>(bs[i]?).getD true,rfl,Walks.list (A:=X.A.in1) (I.ok.hd J) _ p (yaB a) aa.toArray,⟨⟨_,yaw _ rfl,rfl,rfl⟩,c.push _⟩,fun i v s' w z t n=>?_,fun h' tk hk=>?_⟩
 ·have hv:aa[i]?=some v:=by simpa using t
  have hi:i<bs.length:=by rw[<-j];exact(yas.mp hv).1
  obtain⟨u,g,l⟩:=f.get (i:=i) (x:=.bl bs[i]) (by rw[yaM,yal hi];rfl);rw[hv]at g;cases g;cases (show v=Value.bool bs[i]from l);refine ya3 ?_;have d:w ((bs[i]?).getD true) s':=n;rwa[yal hi]at d
 ·rw[yam,j,zf5];refine⟨.bl _,H,I.kept (t':=tk) fun b o e=>?_,rfl,q⟩;exact hk b o (fun hm=>by rw[yaE.mp hm]at e;exact yaT _ (yau e)) (yag _ e)
theorem zfE{prog:Program}{w:World}:∀{k:List Int}{aa:List Value},Vals (k.map V.int) aa->ItemsAre (intKind prog w) k aa
 |[],_,.nil=>.nil|i::k,_,.cons r t=>by
  obtain⟨t',rfl⟩:=r;exact .cons (by show Value.isInt i (.int i t')=true;simp[Value.isInt]) (zfE t)
def Inv.key{pins:Z3}{σ:St}{H:Hp}{s:Shared}(I:Inv X pins σ H s){p:Addr}{k:List Int}(h:SqT X.K H p (k.map V.int)){prog:Program}{w:World}:ST.TK prog w s.heap k p:=by
 obtain⟨aa,a,⟨o,e,c,n,d⟩,_⟩:=I.tuple h;exact⟨o,_,n,e,c,d,zfE a⟩
noncomputable def zhJ(K:PySem.W.Frag)(H:Hp)(ys:List V)(keys:Z2):Prop:=Paired (fun(v:V) (k:List Int)=>∃b,v=.ref b/\SqT K H b (k.map V.int)) ys keys
theorem zhJ.get{K:PySem.W.Frag}{H:Hp}:∀{ys:List V}{keys:Z2}{aa:List Value},zhJ K H ys keys->Vals ys aa->∀(j:Nat) (v:Value),aa[j]?=some v->∃b,v=.ref b/\SqT K H b ((keys.getD j []).map V.int)
 |_,_,_,.nil,.nil,j,v,e=>by simp at e
 |_,_,_,.cons ⟨b,c,hb⟩ t,.cons r a,0,v,e=>by
  subst c;cases r;simp at e;subst e;exact⟨b,rfl,by simpa using hb⟩
 |_,_,_,.cons _ t,.cons _ a,j+1,v,e=>by
  obtain⟨b,h1,h2⟩:=zhJ.get t a j v (by simpa using e);exact⟨b,h1,by simpa using h2⟩
noncomputable def zjD(a:Addr)(c:Nat)(h:Heap):Prop:=∃o es b t,h.get? a=some o/\o.ExactSet/\o.data=.set es b t/\t.fits es.size=true/\es.size=c
def zfu(U:X.calm=true)(J:X.A.units+8<cLine):zdY X (.type "set") (fun xs H Q=>∃(p:Addr) (ys:List V) (keys:Z2),xs=[.ref p]/\SqT X.K H p ys/\zhJ X.K H ys keys/\keys.length<=18 ∧
  ∀l,H l=none->Q (.ref l) (upd H l (.ext (zjD l (ST.ddN keys))))):=by
 intro pins s σ H xs us Q I r h;obtain⟨p,ys,keys,rfl,w,hk,a,q⟩:=h;obtain⟨u,rfl,m⟩:=zgE r;cases m;obtain⟨aa,d,pl,B⟩:=I.tuple w
 have x:aa.toArray.size=keys.length:=by rw[yam,<-d.length];exact hk.length
 refine zfi (I.ok.hd U) J (show s.heap.IsTuple p aa.toArray from pl) x a (fun j v hv=>?_) fun h' tk kp ts=>?_
 ·obtain⟨b,e,hb⟩:=hk.get d j v (by simpa using hv);exact⟨b,e,I.key hb⟩
 ·obtain⟨o,n,c,t,i,e2,z,_,_,_,y,g,_⟩:=ts;rw[ST.zu3]at g;refine⟨.ref s.heap.objs.size,_,I.laid (t':=tk) (o:=.ext (zjD s.heap.objs.size (ST.ddN keys))) kp (yai _) ?_,rfl,q _ (I.hok.fresh (yai _))⟩;exact⟨⟨o,_,c,t,i,e2,z,by rw[yaR];exact y,by rw[yaR];unfold ST.ddN;rw[<-g,yaR]⟩,⟨o,i⟩,fun h1 h2 ⟨o,es,c,t,f1,f⟩ k=>⟨o,es,c,t,k o f1,f⟩⟩
theorem zgw:zdY X (.builtin "len") (fun xs H Q=>∃a c,xs=[.ref a]/\H a=some (.ext (zjD a c))/\c<=1000/\Q (.int c) H):=by
 intro pins s σ H xs us Q I r h;obtain⟨a,c,rfl,e,j,q⟩:=h;obtain⟨u,rfl,d⟩:=zgE r;cases d;obtain⟨⟨o,es,k,t,i,e2,g,f,b⟩,_⟩:=I.hok a _ e;refine call_len_set i e2 g f ?_ ?_
 ·have:(es.size:Int)<=1000:=by rw[b];omega
  exact Int.lt_of_le_of_lt this (by decide)
 ·exact⟨.int c,H,I.tok _,⟨_,by rw[b]⟩,q⟩
def znv:OpR X (binaryOp .Add) (fun x y H Q=>∃(a b:Addr) (ys:List V),x=.ref a/\y=.ref b/\SqT X.K H a []/\SqT X.K H b ys/\Q (.ref b) H):=by
 intro pins s σ H x y v u Q I o m h;obtain⟨a,b,ys,rfl,rfl,w,hb,q⟩:=h;cases o;cases m;obtain⟨aa,p,r,_⟩:=I.tuple w;obtain⟨c,r2,p2,_⟩:=I.tuple hb;cases p;obtain⟨⟨cls,dd,data,sl⟩,j,k,n,hd⟩:=id r;obtain⟨⟨l,i,data2,g⟩,d,f,t,e⟩:=id p2;simp only at k hd f e;subst k hd f e
 exact concat_meets ⟨_,j,rfl⟩ ⟨_,d,rfl⟩ noFill_tuple_add seq_tuple_add ycA ycq (yck _ _)
  (tuple_addW0 a b ([]:List Value).toArray c.toArray n t dd i sl g (by rfl)) ⟨j,d,⟨.ref b,H,I,rfl,q⟩⟩
end
end L2
namespace PySem
open PySem.Spec PyProof.Rows
end PySem
namespace L2
open PySem PySem.Spec PyProof.Rows
inductive D where
 |non|bl (b:Bool)|int (i:Int)|str (x:Str)|tup (l:List D)|lst (l:List D)
end L2
namespace HT
open PySem PySem.Spec PyProof.Rows L2
section
variable{prog:Program}{w:World}{A:Around}{E:Z5}{s:Shared}
def zd9{t sl:Addr}{items:Array Value}{U J:Value}{lo hi:Option Int}{Q:Z5}(I:IsTup s.heap t items)(hs:s.heap.IsSliceOf sl U J .none)(pl:IsPart U lo)(pu:IsPart J hi)
  (h1:sIx items.size 0 lo=0) (h2:sIx items.size items.size hi=items.size) (h:Q (.ref t) s):wpAny (model prog w) A (getItem (.ref t) (.ref sl)) Q E s:=by
 obtain⟨os,a,b,d⟩:=id hs;have c:s.TypeIs (.ref sl) "slice":=⟨os,a,b⟩;unfold getItem
 try with_reducible refine ybr ?_
 first|refine yac (yak ?_)|skip
 refine yac (wpAny_sequenceKey I.typeIs (by decide) ?_)
 refine yac (ybf (name:=Str.ofString "__getitem__") I.typeIs yaW
  (ybz yaW I.typeIs entry_tuple_getitem ?_ (args_tuple_getitem _ _)))
 show wpAny _ _ (Builtin.Tuple.tupleItemsOf (.ref t) >>= _) _ _ s;refine yac (tupleItemsOf_ I ?_);refine yac (wpAny_typeOf c ?_);rw[if_pos (by decide)];refine yac (zcS hs pl pu ?_);rw[h1,h2];show wpAny _ _ (if((((0:Nat):Int)==0&&(1:Int)==1&&(items.size-0)==items.size)=true)then _ else _) _ _ s;rw[if_pos (by simp)];unfold Builtin.Tuple.tupleIsExact;refine yac (yac (wpAny_typeOf I.typeIs (yak ?_)));simp only[ybq,yci];refine yac (wpAny_rule ?_)
 first
  |exact yak ⟨_,rfl,yak h⟩
  |exact yac (yak (yak ⟨_,rfl,yak h⟩))
end
end HT
namespace L2
open PySem PySem.Spec PyProof.Rows
def zjJ:SlR X (fun x lo hi H Q=>∃(a:Addr) (xs:List V),x=.ref a/\SqT X.K H a xs/\HT.sIx xs.length 0 lo=0/\HT.sIx xs.length xs.length hi=xs.length/\Q (.ref a) H):=by
 intro pins s σ H x v f e lo hi sl Q I c hs pl pu h;obtain⟨a,xs,rfl,d,h1,h2,q⟩:=h;cases c;obtain⟨aa,r,b,g⟩:=I.tuple d
 have hlen:aa.toArray.size=xs.length:=by rw[yam];exact r.length.symm
 refine⟨"tuple",_,yaW.lookup,b.typeIs,?_⟩;exact HT.zd9 b hs pl pu (by rw[hlen];exact h1) (by rw[hlen];exact h2) ⟨.ref a,H,I,rfl,q⟩
mutual
noncomputable def D.py:D->PyData
 |.non=>.none|.bl b=>.bool b|.int i=>.int i|.str x=>.str x|.tup l=>.tuple (D.pys l)|.lst l=>.list (D.pys l)
noncomputable def D.pys:List D->List PyData
 |[]=>[]|d::l=>d.py::D.pys l
end
mutual
noncomputable def D.fit:Nat->D->Bool
 |_,.non=>true|_,.bl _=>false|_,.int _=>true|_,.str x=>PyData.strOk x|0,.tup _=>false|n+1,.tup l=>D.fits n l|0,.lst _=>false|n+1,.lst l=>D.fits n l
noncomputable def D.fits:Nat->List D->Bool
 |_,[]=>true|n,d::l=>d.fit n&&D.fits n l
end
theorem D.fits_iff:∀{l:List D},D.fits n l=true↔∀d∈l,d.fit n=true
 |[]=>by simp[D.fits]
 |d::l=>by simp[D.fits,D.fits_iff (l:=l)]
mutual
theorem D.lay:∀{n:Nat}{d:D},d.fit n=true->d.py.canLay0=true/\d.py.depth<=n
 |_,.non,_=>⟨rfl,yaJ _⟩|_,.bl _,h=>by simp[D.fit]at h
 |_,.int _,_=>⟨rfl,yaJ _⟩|_,.str x,h=>⟨by simpa[D.fit,D.py,PyData.canLay0]using h,yaJ _⟩
 |0,.tup _,h=>by simp[D.fit]at h
 |0,.lst _,h=>by simp[D.fit]at h
 |n+1,.tup l,h=>by
  have h':D.fits n l=true:=by simpa[D.fit]using h
  obtain⟨a,b⟩:=D.lays h';exact⟨by simpa[D.py,PyData.canLay0]using a,by simp only[D.py,PyData.depth];omega⟩
 |n+1,.lst l,h=>by
  have h':D.fits n l=true:=by simpa[D.fit]using h
  obtain⟨a,b⟩:=D.lays h';exact⟨by simpa[D.py,PyData.canLay0]using a,by simp only[D.py,PyData.depth];omega⟩
theorem D.lays:∀{n:Nat}{l:List D},D.fits n l=true->PyData.canLayAll0 (D.pys l)=true/\PyData.depthAll (D.pys l)<=n
 |_,[],_=>⟨rfl,yaJ _⟩|n,d::l,h=>by
  simp only[D.fits,yaa]at h;obtain⟨a,b⟩:=D.lay h.1;obtain⟨c,e⟩:=D.lays h.2;exact⟨by simp[D.pys,PyData.canLayAll0,a,c],by simp only[D.pys,PyData.depthAll];omega⟩
end
section
variable{X:Cx}
def zhY(I:d.canLay0=true)(r:Reads h v d as):SeqAt.readOf h v=d:=by
 have a:∃d as,Reads h v d as:=⟨d,as,r⟩;unfold SeqAt.readOf;rw[dif_pos a];obtain⟨bs,b⟩:=a.choose_spec;exact(SeqAt.Reads.unique _ _ _ _ _ I r b).symm
end
def CXE(P:Program)(w:World):CXT:=fun outer H s E e s'=>∃(a:Addr) (cls a0:Value) (H':Hp) (B:Heap),e=.ref a/\Heap.FlyingW B outer a cls a0 s'.heap ∧
 (∀b o,s'.heap.get? b=some o->H' b≠none->B.get? b=some o)/\(∀b o,s.heap.get? b=some o->H b=none->b ∉ frs outer->B.get? b=some o) ∧
 (∀b o,s.heap.get? b=some o->b ∉ frs outer->∃o',B.get? b=some o') ∧
 s'.os=s.os/\AllBare s'.gens/\Un (frs outer) [] H H' s.heap s'.heap/\HOk P w H' s'.heap/\E cls none H'
def zbg.has(x:zbg P w H h a o):∃ob,h.get? a=some ob:=by
 cases o with
 |lst xs=>obtain⟨_,_,_,_,e⟩:=x;exact⟨_,e⟩|tup xs=>obtain⟨_,_,_,ob,e,_⟩:=x;exact⟨_,e⟩|dK kvs=>obtain⟨_,_,_,_,o,_,_,e,_⟩:=x;exact⟨_,e⟩|dT kvs=>obtain⟨_,_,_,_,o,_,_,e,_⟩:=x;exact⟨_,e⟩|set S n=>obtain⟨o,_,_,_,e,_⟩:=x;exact⟨_,e⟩|ins C dx fs=>obtain⟨_,_,_,e,_⟩:=x;exact⟨_,e⟩|own y=>exact x|xd fs=>obtain⟨_,⟨_,_,_,e,_⟩,_⟩:=x;exact⟨_,e⟩|rng lo hi=>obtain⟨_,_,_,e⟩:=x;exact⟨_,e⟩|frz ob u=>obtain⟨e,_⟩:=x;exact⟨_,e⟩|tbl ps=>exact⟨_,(show h.get? a=some _ from x)⟩|met f y=>exact⟨_,(show h.get? a=some _ from x)⟩|ext b=>obtain⟨_,e,_⟩:=x;exact e
def HOk.same(x:HOk P w H h)(k:∀b u,h.get? b=some u->H b≠none->h'.get? b=some u):HOk P w H h':=fun a o e=>
 (x a o e).stay (fun b u hb q=>k b u q (hb.elim (fun z=>by rw[z,e];exact yaF _) (fun z=>by rw[z];exact yaF _))) (fun _ q=>q) fun _ _ q=>q
section
variable{X:Cx}{pins:Z3}{σ:St}{H:Hp}{s:Shared}{M:Model}
def znX(l:List Env):∀env∈l,∀b,env.frame=some b->b∈frs l:=fun env he b hb=>ybA.mpr ⟨env,he,hb⟩
def zj3(I:Inv X pins σ H s)(hx:X.ex=[])(hs:X.stack=X.env::X.outer)(hf:X.env.frame=some X.env.locals)(mk:Heap.MadeExcOf s.heap h' e cls vs)(q:E cls none H):
  wpAny M X.A (leaving X.env (.ref e)) (fun _ U=>CXE X.prog X.w X.outer X.H₀ X.s₀ E (.ref e) U) Er {s with heap:=h'}:=by
 have l:X.A.frames=some (X.env::X.outer):=by rw[<-hs];exact I.ok.frames
 have j:s.heap.FunFrames X.base (X.env::X.outer):=by rw[<-hs];exact I.stack
 refine wpAny_leaves_madeW (base:=PySem.W.hideAll s.heap (frs (X.env::X.outer))) l hf (fun b o z=>PySem.W.of_hideAll _ z) (PySem.W.funFrames_hide j (znX _)) mk fun h2 t h tup _ up=>?_
 have a:∀b o,s.heap.get? b=some o->b ∉ frs (X.env::X.outer)->(PySem.W.hideAll s.heap (frs (X.env::X.outer))).get? b=some o:=fun b o z n=>PySem.W.hideAll_get _ z n
 have sub:∀b,b∈frs (X.env::X.outer)->b=X.env.locals\/b∈X.fs:=fun b hb=>by
  rw[<-hs]at hb;exact yaq.mp (I.stkSub b hb)
 have g:∀b,b∈frs (X.env::X.outer)->H b=none:=fun b hb=>by rw[<-hs]at hb;exact I.stkFree b hb
 have old:∀b o,X.s₀.heap.get? b=some o->b ∉ frs X.outer->b ∉ frs (X.env::X.outer):=fun b o z n hb=>by
  rcases sub b hb with r|r
  ·exact absurd (yan (yau z) I.ok.above) (by rw[r];exact yaT _)
  ·exact n r
 have nx:∀b:Addr,b ∉ X.ex:=fun b z=>by rw[hx]at z;cases z
 have trk:∀b o,s.heap.get? b=some o->H b≠none->h2.get? b=some o:=fun b o z n=>h.1 b o (a b o z fun hb=>n (g b hb))
 have f:HOk X.prog X.w H h2:=I.hok.same trk
 have d:∀b o,s.heap.get? b=some o->b∈frs X.stack->∃sl,h2.get? b=some {o with slots:=sl}:=fun b o z hb=>by
  obtain⟨_,o',c,hd⟩:=I.stack.mem hb;rw[z]at c;cases c;exact up b o (mk.keeps b o z) hd
 have i:Un (frs X.stack) [] H H s.heap h2:=⟨fun b o z n hb _=>h.1 b o (a b o z (by rw[<-hs];exact hb)),fun b o z n hb _=>d b o z hb,fun b o z n _=>n,
  fun b o z _=>by
   by_cases hb:b∈frs X.stack
   ·obtain⟨sl,r⟩:=d b o z hb;exact⟨_,r⟩
   ·exact⟨o,h.1 b o (a b o z (by rw[<-hs];exact hb))⟩,
  fun _ _ z=>z,fun _ _ _ z=>z,fun _ ps z=>⟨#[],by rw[z,Array.append_empty]⟩⟩
 have J:=I.call (g':=s.gens) (t':=s.toks) (d':=s.drawn) (ch:=[]) i f I.bare (fun b z=>absurd z (by simp));refine⟨e,cls,.ref t,H,_,rfl,h,fun b o z n=>?_,fun b o z n hb=>?_,fun b o z hb=>?_,J.os,J.bare,?_,J.hok,q⟩
 ·cases k:H b with
  |none=>exact absurd k n|some u=>
   obtain⟨o',c⟩:=(I.hok b u k).has;have:=trk b o' c n;rw[show h2.get? b=some o from z]at this;cases this;exact a b o c fun hb=>n (g b hb)
 ·exact a b o (I.base.keep b o z n hb (nx b)) (old b o z hb)
 ·obtain⟨o',c⟩:=I.base.there b o z (nx b);exact⟨o',a b o' c (old b o z hb)⟩
 ·have:=J.base;rwa[hx]at this
def zje(I:Inv X pins σ H s)(hx:X.ex=[])(hs:X.stack=X.env::X.outer)(hf:X.env.frame=some X.env.locals)(q:CXE X.prog X.w X.stack H s E e s'):
  wpAny M X.A (leaving X.env e) (fun _ U=>CXE X.prog X.w X.outer X.H₀ X.s₀ E e U) Er s':=by
 have j:X.A.frames=some (X.env::X.outer):=by rw[<-hs];exact I.ok.frames
 obtain⟨a,cls,a0,H',B,rfl,t,c1,c2,m,os,bare,un,hok,q⟩:=q
 have l:Heap.FlyingW B (X.env::X.outer) a cls a0 s'.heap:=by rw[<-hs];exact t
 refine wpAny_leaves_onW j hf l fun h2 c up=>?_
 have sub:∀b,b∈frs X.stack->b=X.env.locals\/b∈X.fs:=fun b hb=>yaq.mp (I.stkSub b hb)
 have old:∀b o,X.s₀.heap.get? b=some o->b ∉ frs X.outer->b ∉ frs X.stack:=fun b o z n hb=>by
  rcases sub b hb with r|r
  ·exact absurd (yan (yau z) I.ok.above) (by rw[r];exact yaT _)
  ·exact n r
 have nx:∀b:Addr,b ∉ X.ex:=fun b z=>by rw[hx]at z;cases z
 have trk:∀b o,s'.heap.get? b=some o->H' b≠none->h2.get? b=some o:=fun b o z n=>c.1 b o (c1 b o z n)
 have g:HOk X.prog X.w H' h2:=hok.same trk
 have f:∀b o,s.heap.get? b=some o->H b=none->b∈frs X.stack->∃sl,h2.get? b=some {o with slots:=sl}:=fun b o z n hb=>by
  obtain⟨_,o',d,hd⟩:=I.stack.mem hb;rw[z]at d;cases d;obtain⟨sl,r⟩:=un.slot b o z n hb (by simp);obtain⟨i,p⟩:=up b ({o with slots:=sl}:Obj) r hd;exact⟨i,p⟩
 have h:Un (frs X.stack) [] H H' s.heap h2:=⟨fun b o z n hb _=>c.1 b o (c2 b o z n hb),fun b o z n hb _=>f b o z n hb,un.free,
  fun b o z _=>by
   by_cases hb:b∈frs X.stack
   ·obtain⟨sl,r⟩:=f b o z (I.stkFree b hb) hb;exact⟨_,r⟩
   ·obtain⟨o',r⟩:=m b o z hb
    exact⟨o',c.1 b o' r⟩,
  un.tups,un.frzs,un.tbls⟩
 have J:=I.call (g':=s'.gens) (t':=s'.toks) (d':=s'.drawn) (ch:=[]) h g bare (fun b z=>absurd z (by simp));refine⟨a,cls,a0,H',B,rfl,c,fun b o z n=>?_,fun b o z n hb=>?_,fun b o z hb=>?_,os.trans I.os,bare,?_,J.hok,q⟩
 ·cases k:H' b with
  |none=>exact absurd k n|some u=>
   obtain⟨o',d⟩:=(hok b u k).has;have:=trk b o' d n;rw[show h2.get? b=some o from z]at this;cases this;exact c1 b o d n
 ·exact c2 b o (I.base.keep b o z n hb (nx b)) (I.base.free b o z n (nx b)) (old b o z hb)
 ·obtain⟨o',d⟩:=I.base.there b o z (nx b);exact m b o' d (old b o z hb)
 ·have:=J.base;rwa[hx]at this
end
def zsM{P:Program}{K:PySem.W.Frag}:
  zpj (CXE P w) (zik (CXE P w) P w K mg base N qual scope f cd A outer s H E) E:=fun pins σ H1 s1 e s' I q=>
 zje (X:=zik (CXE P w) P w K mg base N qual scope f cd A outer s H E) I rfl rfl rfl q
def zie{K:PySem.W.Frag}{h:Heap}(k:K.In h)(z:PySem.W.excIn K C J I=true):
  ∃bm N nm U bs hd sn sub ab col dd c0 c1 c2 c3 c5 mN,h.get? C=some (excClassObj nm U C N bs bm hd sn sub ab col dd c0 c1 c2 c3 c5 I)/\h.Ns N mN/\mN "__init__"=none/\OwnTail h J bm:=by
 unfold PySem.W.excIn at z;split at z
 case h_2=>cases z
 case h_1 dd cd sl ho=>
  split at z
  case h_2=>cases z
  case h_1 D bm c0 c1 c2 c3 n c5 e1 e2=>
   simp only[yaa,ybT,yaH]at z;obtain⟨⟨⟨⟨⟨g,f⟩,c⟩,e⟩,b⟩,d⟩:=z;subst g f
   have a:sl=#[c0,c1,c2,c3,some (.builtin n),c5]:=by
    cases sl with
    |mk l=>exact congrArg Array.mk e2
   have hcd:cd={cd with mro:=.ref D::bm,hasDel:=false}:=by
    cases cd;simp only at e1 c;simp only[e1,c]
   rw[a,hcd]at ho;exact⟨bm,cd.ns,cd.name,_,cd.bases,_,_,_,_,_,dd,c0,c1,c2,c3,c5,_,k _ _ ho,.of_isNs (PySem.W.isNs_of_in k b),PySem.W.nsMap_none_of_in k b d,PySem.W.tail_of_in k e⟩
noncomputable def zup(X:Cx)(E:XK):Prop:=∀(C:Addr) (pins:Z3) (σ:St) (H:Hp) (s:Shared) (e:Addr) (h':Heap) (vs:List Value),Inv X pins σ H s->Heap.MadeExcOf s.heap h' e (.ref C) vs->E (.ref C) none H->X.xe (.ref e) {s with heap:=h'}
def zlg{P:Program}{K:PySem.W.Frag}:
  zup (zik (CXE P w) P w K mg base N qual scope f cd A outer s H E) E:=fun C pins σ H1 s1 e h' vs I mk q=>
 zj3 (X:=zik (CXE P w) P w K mg base N qual scope f cd A outer s H E) I rfl rfl rfl mk q
noncomputable def XP(X:Cx)(pins:Z3)(σ:St)(E:XK)(e:Value)(s':Shared):Prop:=∃H1 s1,Inv X pins σ H1 s1/\CXE X.prog X.w X.stack H1 s1 E e s'
noncomputable abbrev TX:=St->Hp->VK->XK->Prop
def zgc{M:Model}{A:Around}{E:Z5}{K:PySem.W.Frag}{s:Shared}{C D e:Addr}{I:Obj}{bC J:List Value}{iC iD:String}{Q:Bool->Shared->Prop}(k:K.In s.heap)(zC:PySem.W.excIn K C bC iC=true)(U:PySem.W.excIn K D J iD=true)
  (he:s.heap.get? e=some I) (hc:I.cls=.ref C) (hb:J.contains (.type "BaseException")=true) (up:∃cd d cl sl,K.lookup C=some ⟨cl,d,.cls cd,sl⟩/\cd.mro.contains (.ref D)=true) (q:Q true s):wpAny M A (excMatches (.ref e) (.ref D)) Q E s:=by
 obtain⟨bm,N,nm,F,bs,hd,sn,sub,ab,col,dd,Y,c1,c2,X,V,mN,m,L,H,G⟩:=zie k zC;obtain⟨i,Z,u,p,z,x,o,j,B,n,y,d0,T,S,R,P,v,l,p2,p3,r⟩:=zie k U;obtain⟨cd,d,cl,sl,w,ct⟩:=up;have a:=k _ _ w;rw[m]at a;have hcd:=congrArg Obj.data (Option.some.inj a)
 have b:(Value.ref C::bm).contains (.ref D)=true:=by
  injection hcd with h
  rwa[<-h]at ct
 have c:(Value.ref D::i).contains (.type "BaseException")=true:=by rw[yct,r.hasType hb,Bool.or_true]
 have f:=tc_notTuple;obtain⟨h,g,O,t,os⟩:=s;unfold excMatches
 repeat (first|(with_reducible refine ybt he ?_;rw[hc])|with_reducible refine ybt l ?_|(with_reducible refine wpAny_isSubtype_exc l ?_;rw[c])|(with_reducible refine wpAny_isSubtype_exc m ?_;rw[b])|wp_step)
 exact q
section
variable{X:Cx}{pins:Z3}{σ:St}{H:Hp}{s:Shared}
def zq3{M:Model}{A:Around}{E:Z5}{i:Nat}{x:Str}{Q:Unit->Shared->Prop}(I:Inv X pins σ H s)(hN:X.N.Nodup)(hi:X.N[i]?=some x)(hk:X.env.scope.names.lookup x=some .local)(hv:∃v,σ[i]?=some (some v))
  (h:∀s',Inv X pins (σ.set i none) H s'->Q () s'):wpAny M A (unbindName X.env x) Q E s:=by
 obtain⟨m,K,l⟩:=id I.loc
 have g:(X.env.scope.kind==.class||(X.env.scope.kind==.module&&X.env.locals != X.env.globals))=false:=by rw[I.ok.kind];rfl
 obtain⟨v,hv⟩:=hv;obtain⟨u,r,G⟩:=l i x v hi hv (.inl hk)
 have hm:m x=some u:=by
  rcases G with⟨_,z⟩|⟨z,_⟩
  ·exact z
  ·have z:X.env.scope.names.lookup x=some .cell\/X.env.scope.names.lookup x=some .free:=z;rw[hk]at z
   rcases z with z|z<;>cases z
 refine wpAny_unbindName_local hk K hm g fun h' O k hs=>h _ ?_
 have far:∀b o,X.s₀.heap.get? b=some o->b≠X.env.locals:=fun b o z=>yaB (yan (yau z) I.ok.above)
 refine⟨I.ok,I.os,I.bare,⟨?_,?_,I.base.free,?_,I.base.tups,I.base.frzs,I.base.tbls⟩,⟨_,k,?_⟩,?_,I.free,I.freeC,?_,?_,by simpa using I.len⟩
 ·exact fun b o z n hb f=>(hs.2 b (far b o z)).trans (I.base.keep b o z n hb f)
 ·exact fun b o z n hb f=>let ⟨sl,a⟩:=I.base.slot b o z n hb f;⟨sl,(hs.2 b (far b o z)).trans a⟩
 ·exact fun b o z f=>let ⟨o',a⟩:=I.base.there b o z f;⟨o',(hs.2 b (far b o z)).trans a⟩
 ·intro j y w B e2 L
  have t:j≠i:=fun z=>by
   subst z;have l1:j<σ.length:=(yas.mp hv).1;rw[yaG l1]at e2;cases e2
  rw[yaS (Ne.symm t)]at e2;obtain⟨u1,C,q⟩:=l j y w B e2 L;refine⟨u1,C,?_⟩
  rcases q with⟨k1,z⟩|⟨k1,c,z,a⟩
  ·have D:y≠x:=fun e=>t (zga hN B (e ▸ hi))
   exact .inl ⟨k1,by simp[D,z]⟩
  ·exact .inr ⟨k1,c,z,a.sameBut hs (I.cne y c z)⟩
 ·exact fun y c z=>let ⟨w,a⟩:=I.cell y c z;⟨w,a.sameBut hs (I.cne y c z)⟩
 ·exact fun p J=>let ⟨z,n,ne,F,d⟩:=I.pin p J;⟨(hs.2 p.1 ne).trans z,n,ne,F,d⟩
 ·exact I.hok.same fun b o z n=>(hs.2 b fun e=>n (by rw[e];exact I.free)).trans z
def zgl{M:Model}{A:Around}{E:Z5}{i:Nat}{x:Str}{pos:Pos}{Q:Unit->Shared->Prop}(I:Inv X pins σ H s)(hN:X.N.Nodup)(hi:X.N[i]?=some x)(hk:X.env.scope.names.lookup x=some .local)
  (h:∀s',Inv X pins (σ.set i none) H s'->Q () s'):wpAny M A (do bindName X.env x .none;unbindBehindTheSuite X.env x pos) Q E s:=by
 refine yac (wpAny_bindName (zdc (v:=.non) I hN hi (.inl hk) rfl (fun s2 c=>?_) (.inr hk)));unfold unbindBehindTheSuite;refine wpAny_onRaise ?_
 have l1:i<σ.length:=by rw[I.len];exact(yas.mp hi).1
 refine zq3 c hN hi hk ⟨.non,yaG l1⟩ fun a b=>h a ?_
 rwa[List.set_set]at b
end
section
variable{X:Cx}{pins:Z3}{σ:St}{H H':Hp}{s s':Shared}{B h2:Heap}{a:Addr}{cls a0:Value}
noncomputable abbrev Cx.inH(X:Cx)(a:Addr):Cx:={X with A:=X.A.mark (some (.ref a)),calm:=false,xe:=fun _ _=>False}
theorem Inv.inH(I:Inv X pins σ H s)(a:Addr):Inv (X.inH a) pins σ H s:=
 ⟨⟨I.ok.mod,I.ok.kind,I.ok.glob,I.ok.blt,I.ok.above,I.ok.inj,I.ok.has,I.ok.cab,(fun z=>nomatch z),I.ok.frames,I.ok.stk,I.ok.exf,I.ok.bs,I.ok.bsz,I.ok.noex,I.ok.exfs,I.ok.funs,I.ok.frf⟩,I.os,I.bare,I.base,I.loc,I.cell,I.free,I.freeC,I.pin,I.hok,I.len⟩
def Inv.outH(J:X.Ok)(I:Inv (X.inH a) pins σ H s):Inv X pins σ H s:=⟨J,I.os,I.bare,I.base,I.loc,I.cell,I.free,I.freeC,I.pin,I.hok,I.len⟩
def zfO(I:Inv X pins σ H s)(J:Heap.FlyingW B X.stack a cls a0 h2)(up:s'.heap.UpToSlots h2)(c1:∀b o,s'.heap.get? b=some o->H' b≠none->B.get? b=some o)
  (c2:∀b o,s.heap.get? b=some o->H b=none->b ∉ frs X.stack->B.get? b=some o) (c3:∀b o,s.heap.get? b=some o->b ∉ frs X.stack->∃o',B.get? b=some o')
  (os:s'.os=s.os) (bare:AllBare s'.gens) (un:Un (frs X.stack) [] H H' s.heap s'.heap) (hok:HOk X.prog X.w H' s'.heap):
  Inv X pins σ H' {s' with heap:=h2}/\∃ob,ob.cls=cls/\h2.get? a=some ob/\H' a=none/\Inv X pins σ (upd H' a (.frz ob (.own a))) {s' with heap:=h2}:=by
 have trk:∀b o,s'.heap.get? b=some o->H' b≠none->h2.get? b=some o:=fun b o z n=>J.1 b o (c1 b o z n)
 have d:HOk X.prog X.w H' h2:=hok.same trk
 have h:∀b o,s.heap.get? b=some o->H b=none->b∈frs X.stack->∃sl,h2.get? b=some {o with slots:=sl}:=fun b o z n hb=>by
  obtain⟨_,o',f,hd⟩:=I.stack.mem hb;rw[z]at f;cases f;obtain⟨sl,r⟩:=un.slot b o z n hb (by simp);obtain⟨i,p⟩:=up b ({o with slots:=sl}:Obj) r hd;exact⟨i,p⟩
 have th:∀b o,s.heap.get? b=some o->b ∉ ([]:List Addr)->∃o',h2.get? b=some o':=fun b o z _=>by
  by_cases hb:b∈frs X.stack
  ·obtain⟨sl,r⟩:=h b o z (I.stkFree b hb) hb;exact⟨_,r⟩
  ·obtain⟨o',r⟩:=c3 b o z hb;exact⟨o',J.1 b o' r⟩
 have g:Un (frs X.stack) [] H H' s.heap h2:=⟨fun b o z n hb _=>J.1 b o (c2 b o z n hb),fun b o z n hb _=>h b o z n hb,un.free,th,un.tups,un.frzs,un.tbls⟩;refine⟨I.call' (s':={s' with heap:=h2}) (ch:=[]) os g d bare (fun b z=>absurd z (by simp)),?_⟩;obtain⟨l,vs,he,v,hd,_⟩:=J.first
 have m:H' a=none:=by
  cases k:H' a with
  |none=>rfl|some u=>
   obtain⟨o',f⟩:=(hok a u k).has;have:=c1 a o' f (by rw[k];exact yaF _);rw[J.2.1]at this;cases this
 have ns:∀o,s.heap.get? a=some o->False:=fun o z=>by
  by_cases hb:a∈frs X.stack
  ·obtain⟨_,o',f,j⟩:=J.2.2.1.mem hb;rw[he]at f;cases f;exact j _ hd
  ·obtain⟨o',r⟩:=c3 a o z hb;rw[J.2.1]at r;cases r
 have ne:∀{b:Addr}{u:HO},H' b=some u->b≠a:=fun {b u} z e=>by rw[e,m]at z;cases z
 refine⟨l,v,he,m,I.call' (s':={s' with heap:=h2}) (ch:=[]) os ⟨g.keep,g.slot,fun b o z n t=>?_,th,fun b xs z=>?_,fun b o u z=>?_,fun b ps z=>?_⟩ (fun b u z=>?_) bare (fun b z=>absurd z (by simp))⟩
 ·rw[zab (a:=a) (b:=b) fun e=>ns o (by rw[<-e];exact z)];exact un.free b o z n t
 ·have:=un.tups b xs z;rw[zab (ne this)];exact this
 ·have:=un.frzs b o u z;rw[zab (ne this)];exact this
 ·obtain⟨more,this⟩:=un.tbls b ps z;exact⟨more,by rw[zab (ne this)];exact this⟩
 ·by_cases e:b=a
  ·subst e;unfold upd at z;rw[if_pos rfl]at z;cases z;exact⟨he,l,he⟩
  ·rw[zab e]at z;exact(d b u z).stay (fun _ _ _ q=>q) (fun c q=>by rw[zab (ne q)];exact q) (fun c xs q=>by rw[zab (ne q)];exact q)
end
noncomputable def zrs(K:PySem.W.Frag)(C D:Addr):Prop:=(∃b a,PySem.W.excIn K C b a=true)/\∃cd d cl sl,K.lookup C=some ⟨cl,d,.cls cd,sl⟩/\cd.mro.contains (.ref D)=true
noncomputable def Ends.goes(D:Ends)(i:Nat):Ends:={nx:=fun σ H=>D.nx (σ.set i none) H,rt:=D.rt,bk:=fun σ H=>D.bk (σ.set i none) H,ct:=fun σ H=>D.ct (σ.set i none) H}
def zpO{X:Cx}{a:Addr}{pins:Z3}{D:Ends}{i:Nat}{n:Str}{pos:Pos}{f:Flow}{s:Shared}{E:Z5}(J:X.Ok)(hN:X.N.Nodup)(hi:X.N[i]?=some n)(hk:X.env.scope.names.lookup n=some .local)(h:SP (X.inH a) pins (D.goes i) f s):
  wpAny (model X.prog X.w) X.A (do bindName X.env n .none;unbindBehindTheSuite X.env n pos) (fun _ U=>SP X pins D f U) E s:=by
 cases f with
 |next=>
  obtain⟨b,H',I,q⟩:=h;exact zgl (I.outH J) hN hi hk fun s' c=>⟨_,H',c,q⟩
 |brk=>
  obtain⟨b,H',I,q⟩:=h;exact zgl (I.outH J) hN hi hk fun s' c=>⟨_,H',c,q⟩
 |cont=>
  obtain⟨b,H',I,q⟩:=h;exact zgl (I.outH J) hN hi hk fun s' c=>⟨_,H',c,q⟩
 |ret u=>
  obtain⟨v,b,H',I,r,q⟩:=h;exact zgl (I.outH J) hN hi hk fun s' c=>⟨v,_,H',c,r,q⟩
end L2
namespace PySem.W
open PySem
structure ExcCls(K:Frag)(C:Addr):Prop where
 ga:findIn K (.ref C) "__getattribute__"=some (some (.builtin "BaseException.__getattribute__"))
 gt:findIn K (.ref C) "__getattr__"=some none
 cl:findIn K (.ref C) "__class__"=some (some (.builtin "object.__class__"))
 ob:subIn K (.ref C) (.type "object")=some true
 be:subIn K (.ref C) (.type "BaseException")=some true
 is:∃c d cd sl,K.lookup C=some ⟨c,d,.cls cd,sl⟩
section
variable{prog:Program}{w:World}{A:Around}{E:Z5}{h:Heap}{g:Array GenState}{d:Drawn}{t:Nat}{os:OsState}{a C:Addr}{o:Obj}{K:Frag}
theorem zgr{R:Result->Shared->Prop}(k:K.In h)(X:ExcCls K C)(I:h.get? a=some o)(J:o.cls=.ref C)(U:R (.ok (.ret (.ref C))) ⟨h,g,d,t,os⟩):
  codeAny (model prog w) A (.call (.builtin "getset_descriptor.__get__") ⟨[.builtin "object.__class__",.ref a,.ref C],[]⟩) R ⟨h,g,d,t,os⟩:=by
 have b:Shared.TypeIs ⟨h,g,d,t,os⟩ (.builtin "object.__class__") "getset_descriptor":=ycN
 have c:subIn K (.ref C) (.type (".".intercalate ("object.__class__".cutAt '.').dropLast))=some true:=by rw[F.owner_object_class];exact X.ob
 refine ycS F.slot_gs_get.plain F.entry_gs_get ?_;refine F.slot_gs_get.check _ _ _ _ _ _ _ _ b (F.args_gs_get _ _ _) ?_
 repeat (any_goals (first|assumption|(with_reducible refine ybt I ?_;rw[J])|with_reducible refine Looks.at (looks_subIn k c) ?_|wp_step))
 refine And.intro (Code.quiet_builtin _ (by decide +kernel)) ?_;refine ycW F.entry_object_class ?_
 repeat (any_goals (first|assumption|(with_reducible refine ybt I ?_;rw[J])|wp_step))
def zfd{tk:Tok}{Q:Fin->Shared->Prop}(k:K.In h)(X:ExcCls K C)(I:h.get? a=some o)(J:o.cls=.ref C)(U:Q (.done (.ret (.ref C))) ⟨h,g,d,t,os⟩):
  wpAny (model prog w) A (Builtin.«object.__getattribute__» {pos:=[.ref a,.str "__class__" tk],kw:=[]}) Q E ⟨h,g,d,t,os⟩:=by
 have b:Shared.TypeIs ⟨h,g,d,t,os⟩ (.builtin "object.__class__") "getset_descriptor":=ycN;have known:=And.intro ycN (And.intro F.slot_gs_get.lookup F.slot_gs_set.lookup);obtain⟨f,e,c⟩:=known
 repeat (any_goals (first|assumption|(with_reducible refine ybt I ?_;rw[J])|with_reducible refine Looks.at (looks_findIn k X.cl) ?_|wp_step))
 refine zgr k X I J ?_
 repeat any_goals first|assumption|wp_step
end
section
variable{prog:Program}{w:World}{A:Around}{E:Z5}{h:Heap}{g:Array GenState}{d:Drawn}{t:Nat}{os:OsState}{a C:Addr}{o:Obj}{K:Frag}
theorem zfe{M:Model}{I:Value}{Q:Unit->Shared->Prop}(k:K.In h)(X:ExcCls K C)(J:h.get? a=some o)(hc:o.cls=.ref C)(U:Q () ⟨h,g,d,t,os⟩):
  wpAny M A (checkBuiltinCall "BaseException.__getattribute__" ⟨[.ref a,I],[]⟩) Q E ⟨h,g,d,t,os⟩:=by
 have k1:builtinKind "BaseException.__getattribute__"=some .slot:=by decide +kernel
 have k2:splitId "BaseException.__getattribute__"=some ("BaseException","__getattribute__"):=by decide +kernel
 have fits:=F.args_bexc_ga (.ref a) I;simp only[checkBuiltinCall,k1,k2];refine yac ?_;unfold isInstance
 repeat (first|(with_reducible refine ybt J ?_;rw[hc])|with_reducible refine Looks.at (looks_subIn k X.be) ?_|wp_step)
 exact U
def zfr{tk:Tok}{R:Result->Shared->Prop}(k:K.In h)(X:ExcCls K C)(I:h.get? a=some o)(J:o.cls=.ref C)(U:R (.ok (.ret (.ref C))) ⟨h,g,d,t,os⟩):
  codeAny (model prog w) A (.call (.builtin "BaseException.__getattribute__") ⟨[.ref a,.str "__class__" tk],[]⟩) R ⟨h,g,d,t,os⟩:=
 ycS F.attr_ValueError.ga.plain F.entry_bexc_ga (zfe k X I J (zfd k X I J U))
theorem zhk{tk:Tok}{fill expr:Bool}{Q:Z5}(k:K.In h)(X:ExcCls K C)(I:h.get? a=some o)(J:o.cls=.ref C)(U:Q (.ref C) ⟨h,g,d,t,os⟩):
  wpAny (model prog w) A (getAttrBy (.ref a) (.str "__class__" tk) fill expr) Q E ⟨h,g,d,t,os⟩:=by
 have f:=F.attr_ValueError.ga.bind (.ref a)
 have e:(expr&&onTheHeap (Value.builtin "BaseException.__getattribute__"))=false:=by cases expr<;>rfl
 have b:(Value.builtin "BaseException.__getattribute__"==Value.builtin "object.__getattribute__")=false:=by decide +kernel
 have c:(onTheHeap (Value.ref C)&&Value.builtin "BaseException.__getattribute__"==Value.builtin "object.__getattribute__")=false:=by rw[b];rfl
 repeat (any_goals (first|assumption|(with_reducible refine ybt I ?_;rw[J])|with_reducible refine Looks.at (looks_findIn k X.ga) ?_|with_reducible refine Looks.at (looks_findIn k X.gt) ?_|wp_step))
 refine zfr k X I J ?_
 repeat any_goals first|assumption|wp_step
def zfs{Q:Option Value->Shared->Prop}(k:K.In h)(X:ExcCls K C)(I:h.get? a=some o)(J:o.cls=.ref C)(U:Q (some (.ref C)) ⟨h,g,d,t+1,os⟩):wpAny (model prog w) A (getAttr? (.ref a) "__class__") Q E ⟨h,g,d,t,os⟩:=by
 unfold getAttr? getAttrBy?
 repeat (any_goals (first|assumption|with_reducible apply zhk k X I J|wp_step))
end
def znK{K:Frag}{a C:Addr}(X:ExcCls K C):KitX K (.ref a) (.ref C) (fun h=>∃o,h.get? a=some o/\o.cls=.ref C)where
 ty:=fun M h _ p=>by
  obtain⟨o,h1,h2⟩:=p;rw[<-h2];exact Looks.andThen (Looks.ld h1) .now
 it:=fun _ _ k _=>by
  obtain⟨c,d,cd,sl,b⟩:=X.is;intro r l m s' kk q;unfold isType loadHead;exact yac (wpAny_loadPart (kk _ _ (k _ _ b)) (yak q))
 ne:=fun h i dd aa n sl k f=>by
  obtain⟨c,d,cd,j,b⟩:=X.is;refine Bool.eq_false_iff.mpr fun q=>?_
  have e:C=i:=Value.ref.inj (ybT.mp q);have z:=k _ _ b;rw[e,f]at z;cases z
 ca:=fun {_ _ _ _ _ s} k p q=>by
  obtain⟨o,h1,h2⟩:=p;obtain⟨h,g,d,t,os⟩:=s;exact zfs k X h1 h2 q
end PySem.W
namespace L2
open PySem PySem.Spec PyProof.Rows
def zkb{X:Cx}:zdY X (.builtin "isinstance") (fun xs H Q=>∃(a C:Addr) (ob:Obj) (c:V) (J:Value) (k:Bool),xs=[.ref a,c]/\H a=some (.frz ob (.own a))/\ob.cls=.ref C/\PySem.W.ExcCls X.K C/\(∀u,zaZ c u->u=J)/\PySem.W.kitOne X.K (.ref C) J=some k/\Q (.bl k) H):=by
 intro pins s σ H xs us Q I r h;obtain⟨a,C,ob,c,J,k,rfl,i,g,Z,hv,e,q⟩:=h
 cases r with
 |cons f b=>
  cases b with
  |cons r2 d=>
   cases d;cases (show _=Value.ref a from f);rw[hv _ r2];obtain⟨h1,_⟩:=(show zbg X.prog X.w H s.heap a (.frz ob (.own a))from I.hok a _ i);exact ya2 (PySem.W.znK Z) I.kIn ⟨ob,h1,g⟩ e (fun z=>nomatch z) fun tk=>⟨.bl k,H,I.tok tk,rfl,q⟩
open PySem PySem.Spec PyProof.Rows PySem.SeqAt
end L2
namespace S2
open PySem PySem.Spec PyProof.Rows L2
mutual
noncomputable def D.py:D->PyData
 |.non=>.none|.bl b=>.bool b|.int i=>.int i|.str x=>.str x|.tup l=>.tuple (D.pys l)|.lst l=>.list (D.pys l)|.scr l=>.list (l.map PyData.int)|.dic _=>.none|.ref _=>.none|.exc _=>.none
noncomputable def D.pys:List D->List PyData
 |[]=>[]|d::l=>d.py::D.pys l
end
mutual
noncomputable def D.fit:Nat->D->Bool
 |_,.non=>true|_,.bl _=>true|_,.int _=>true|_,.str x=>PyData.strOk x|0,.tup _=>false|n+1,.tup l=>D.fits n l|0,.lst _=>false|n+1,.lst l=>D.fits n l|0,.scr _=>false|_+1,.scr _=>true|_,.dic _=>false|_,.ref _=>false|_,.exc _=>false
noncomputable def D.fits:Nat->List D->Bool
 |_,[]=>true|n,d::l=>d.fit n&&D.fits n l
end
theorem D.fits_iff:∀{l:List D},D.fits n l=true↔∀d∈l,d.fit n=true
 |[]=>by simp[D.fits]
 |d::l=>by simp[D.fits,D.fits_iff (l:=l)]
theorem zjl:∀(l:List Int),PyData.canLayAll0 (l.map PyData.int)=true/\PyData.depthAll (l.map PyData.int)=0
 |[]=>⟨rfl,rfl⟩|i::l=>by
  obtain⟨a,b⟩:=zjl l;exact⟨by simp[PyData.canLayAll0,PyData.canLay0,a],by simp[PyData.depthAll,PyData.depth,b]⟩
mutual
theorem D.lay:∀{n:Nat}{d:D},d.fit n=true->d.py.canLay0=true/\d.py.depth<=n
 |_,.non,_=>⟨rfl,yaJ _⟩|_,.bl _,h=>⟨rfl,yaJ _⟩|_,.int _,_=>⟨rfl,yaJ _⟩|_,.str x,h=>⟨by simpa[D.fit,D.py,PyData.canLay0]using h,yaJ _⟩
 |0,.tup _,h=>by simp[D.fit]at h
 |0,.lst _,h=>by simp[D.fit]at h
 |0,.scr _,h=>by simp[D.fit]at h
 |n+1,.scr l,h=>by
  obtain⟨a,b⟩:=zjl l;exact⟨by simpa[D.py,PyData.canLay0]using a,by simp only[D.py,PyData.depth];omega⟩
 |_,.dic _,h=>by simp[D.fit]at h
 |_,.ref _,h=>by simp[D.fit]at h
 |_,.exc _,h=>by simp[D.fit]at h
 |n+1,.tup l,h=>by
  have h':D.fits n l=true:=by simpa[D.fit]using h
  obtain⟨a,b⟩:=D.lays h';exact⟨by simpa[D.py,PyData.canLay0]using a,by simp only[D.py,PyData.depth];omega⟩
 |n+1,.lst l,h=>by
  have h':D.fits n l=true:=by simpa[D.fit]using h
  obtain⟨a,b⟩:=D.lays h';exact⟨by simpa[D.py,PyData.canLay0]using a,by simp only[D.py,PyData.depth];omega⟩
theorem D.lays:∀{n:Nat}{l:List D},D.fits n l=true->PyData.canLayAll0 (D.pys l)=true/\PyData.depthAll (D.pys l)<=n
 |_,[],_=>⟨rfl,yaJ _⟩|n,d::l,h=>by
  simp only[D.fits,yaa]at h;obtain⟨a,b⟩:=D.lay h.1;obtain⟨c,e⟩:=D.lays h.2;exact⟨by simp[D.pys,PyData.canLayAll0,a,c],by simp only[D.pys,PyData.depthAll];omega⟩
end
section
variable{X:Cx}{cl:Cf}{w:Wd}
def TopV.lstI(h:TopV cl w v (.lst ds)):∃a xs,v=.ref a/\w.H a=some (.lst xs)/\Shds cl w xs ds:=by
 cases h with
 |sh h=>cases h with
  |lst e k r=>exact⟨_,_,rfl,e,r⟩
 |ow e t=>cases t with
  |lst r=>exact⟨_,_,rfl,e,r⟩
def TopV.tupI(h:TopV cl w v (.tup ds)):∃a xs,v=.ref a/\w.H a=some (.tup xs)/\w.ow a=none/\Shds cl w xs ds:=by
 cases h with
 |sh h=>cases h with
  |tup e k r=>exact⟨_,_,rfl,e,k,r⟩
 |ow e t=>cases t
def TopV.intI(h:TopV cl w v (.int i)):v=.int i:=by
 cases h with
 |sh h=>cases h;rfl|ow e t=>cases t
def TopV.strI(h:TopV cl w v (.str i)):v=.str i:=by
 cases h with
 |sh h=>cases h;rfl|ow e t=>cases t
def TopV.blI(h:TopV cl w v (.bl i)):v=.bl i:=by
 cases h with
 |sh h=>cases h;rfl|ow e t=>cases t
def TopV.nonI(h:TopV cl w v .non):v=.non:=by
 cases h with
 |sh h=>cases h;rfl|ow e t=>cases t
def Shd.scrI(I:X.K=cl.K)(h:Shd cl w v (.scr l)):∃a,v=.ref a/\SqL X.K w.H a (l.map V.int):=by
 cases h with
 |scr e k=>exact⟨_,rfl,.inl (.inr ⟨_,e⟩)⟩|scrK h=>exact⟨_,rfl,by rw[I];exact h _⟩
theorem TopV.scrI(I:X.K=cl.K)(h:TopV cl w v (.scr l)):∃a,v=.ref a/\SqL X.K w.H a (l.map V.int):=by
 cases h with
 |sh h=>exact h.scrI I|ow e t=>cases t
def zi2(I:Inv X pins σ w.H s)(J:X.K=cl.K)(h:Shd cl w v (.scr l))(r:zaZ v u):∃as,Reads s.heap u (D.scr l).py as:=by
  obtain⟨a,rfl,e⟩:=h.scrI J;cases r;obtain⟨aa,c,p,_⟩:=I.list e;obtain⟨o,f,g,n,hd⟩:=id p.isList
  have go:∀{l:List Int}{us:List Value},Vals (l.map V.int) us->∃as,ReadsAll s.heap us (l.map PyData.int) as:=by
   intro l
   induction l with
   |nil=>intro us h;cases h;exact⟨_,.nil⟩|cons i l d=>
    intro us h
    cases h with
    |cons h1 h2=>
     obtain⟨t,rfl⟩:=h1;obtain⟨as,b⟩:=d h2;exact⟨_,.cons (.int i t) b⟩
  obtain⟨as,b⟩:=go c;exact⟨_,.list f g hd (by simpa using b)⟩
def zn1{n:Nat}{l:List D}(h:(D.tup l).fit n=true):∃m,n=m+1:=by
 cases n with
 |zero=>simp[D.fit]at h|succ m=>exact⟨m,rfl⟩
def zn2{n:Nat}{l:List D}(h:(D.lst l).fit n=true):∃m,n=m+1:=by
 cases n with
 |zero=>simp[D.fit]at h|succ m=>exact⟨m,rfl⟩
mutual
theorem zsk{pins:Z3}{σ:St}{s:Shared}(I:Inv X pins σ w.H s)(J:X.K=cl.K):∀{v:V}{d:D}{n:Nat},Shd cl w v d->d.fit n=true->∀{u:Value},zaZ v u->∃as,Reads s.heap u d.py as
 |_,_,_,.non,_,_,r=>by cases r;exact⟨_,.none⟩
 |_,_,_,.bl b,_,_,r=>by cases r;exact⟨_,.bool b⟩
 |_,_,_,.int i,_,_,r=>by obtain⟨t,rfl⟩:=r;exact⟨_,.int i t⟩
 |_,_,_,.str x,_,_,r=>by obtain⟨t,rfl⟩:=r;exact⟨_,.str x t⟩
 |_,_,n,.tup (a:=a) e _ rs,h,_,r=>by
  obtain⟨n,rfl⟩:=zn1 h;cases r;obtain⟨aa,c,p,_⟩:=I.tuple (SqT.of (K:=X.K) e);obtain⟨o,g,j,n,hd⟩:=id p;obtain⟨as,f⟩:=zeM I J rs (by simpa[D.fit]using h) c;exact⟨_,.tuple g j hd (by simpa using f)⟩
 |_,_,n,.lst (a:=a) e _ rs,h,_,r=>by
  obtain⟨n,rfl⟩:=zn2 h;cases r;obtain⟨aa,c,p,_⟩:=I.list (SqL.of (K:=X.K) e);obtain⟨o,g,j,n,hd⟩:=id p.isList;obtain⟨as,f⟩:=zeM I J rs (by simpa[D.fit]using h) c;exact⟨_,.list g j hd (by simpa using f)⟩
 |_,_,n,.scr e k,h,_,r=>zi2 I J (.scr e k) r|_,_,n,.scrK e,h,_,r=>zi2 I J (.scrK e) r|_,_,n,.dicK _ _ _,h,_,_=>by simp[D.fit]at h
 |_,_,n,.ref _,h,_,_=>by simp[D.fit]at h
 |_,_,n,.exc _ _ _,h,_,_=>by simp[D.fit]at h
theorem zeM{pins:Z3}{σ:St}{s:Shared}(I:Inv X pins σ w.H s)(J:X.K=cl.K):∀{vs:List V}{ds:List D}{n:Nat},Shds cl w vs ds->D.fits n ds=true->∀{us:List Value},Vals vs us->∃as,ReadsAll s.heap us (D.pys ds) as
 |_,_,_,.nil,_,_,r=>by cases r;exact⟨_,.nil⟩
 |_,_,n,.cons h t,f,_,r=>by
  simp only[D.fits,yaa]at f
  cases r with
  |cons c r2=>
   obtain⟨as,a⟩:=zsk I J h f.1 c;obtain⟨bs,b⟩:=zeM I J t f.2 r2;exact⟨_,.cons a b⟩
end
def zhZ(I:Inv X pins σ w.H s)(J:X.K=cl.K)(h:TopV cl w v d)(f:d.fit n=true)(r:zaZ v u):∃as,Reads s.heap u d.py as:=by
 cases h with
 |sh h=>exact zsk I J h f r|ow e t=>
  cases t with
  |lst rs=>
   cases n with
   |zero=>simp[D.fit]at f|succ n=>
    cases r;obtain⟨aa,a,p,_⟩:=I.list (SqL.of (K:=X.K) e);obtain⟨o,c,g,n,hd⟩:=id p.isList;obtain⟨as,b⟩:=zeM I J rs (by simpa[D.fit]using f) a;exact⟨_,.list c g hd (by simpa using b)⟩
  |dicK _=>simp[D.fit]at f
noncomputable def zf6(d e:D):Bool:=d.py.eqv e.py
def eqD(d e:D):Option D:=if d.fit 9&&e.fit 9 then some (.bl (zf6 d e))else none
noncomputable def neD(d e:D):Option D:=if d.fit 9&&e.fit 9 then some (.bl (!zf6 d e))else none
theorem zvF(J:X.K=cl.K)(U:X.A.units+64<cLine):OpD X cl (compareOp .Eq) eqD:=by
 intro pins s σ H x y v u Q I c b h;obtain⟨w,d,e,r,rfl,k,j,a,q⟩:=h;unfold eqD at a;split at a
 ·rename_i hf;cases a;rw[yaa]at hf;obtain⟨as,g⟩:=zhZ I J k hf.1 c;obtain⟨bs,f⟩:=zhZ I J j hf.2 b;obtain⟨l1,m⟩:=D.lay hf.1;obtain⟨i,l⟩:=D.lay hf.2;exact SeqAt.compareEq_reads g f l1 i (by omega) ⟨.bl _,w.H,I,rfl,q _ w (Grow.refl _) (.bl _)⟩
 ·cases a
def zs1(J:X.K=cl.K)(U:X.A.units+64<cLine):OpD X cl (compareOp .NotEq) neD:=by
 intro pins s σ H x y v u Q I c b h;obtain⟨w,d,e,r,rfl,k,j,a,q⟩:=h;unfold neD at a;split at a
 ·rename_i hf;cases a;rw[yaa]at hf;obtain⟨as,g⟩:=zhZ I J k hf.1 c;obtain⟨bs,f⟩:=zhZ I J j hf.2 b;obtain⟨l1,m⟩:=D.lay hf.1;obtain⟨i,l⟩:=D.lay hf.2;exact SeqAt.compareNe_reads g f l1 i (by omega) ⟨.bl _,w.H,I,rfl,q _ w (Grow.refl _) (.bl _)⟩
 ·cases a
noncomputable def zlB(d:D)(l:List D):Bool:=l.any fun e=>zf6 e d
noncomputable def zw8(d e:D):Option Bool:=match d,e with|.str x,.str y=>some (!(Builtin.Str.occurrences y x 0 y.length 1).isEmpty)|_,_=>none
def inD(d e:D):Option D:=(zw8 d e).map D.bl
noncomputable def zqD(d:D):D->Option D|.lst l=>if d.fit 8&&D.fits 8 l then some (.bl (!zlB d l))else none|_=>none
def zke{s:Shared}{aa:List Value}{d:D}(I:ReadsAll s.heap aa (D.pys ds) as)(f:D.fits 8 ds=true):(aa.toArray.any fun y=>(SeqAt.readOf s.heap y).eqv d.py)=zlB d ds:=by
 rw[SeqAt.any_by_data (vs:=aa.toArray) (xs:=D.pys ds) (as:=as) (by simpa using I) (D.lays f).1]
 have:∀{l:List D},((D.pys l).any fun y=>y.eqv d.py)=zlB d l:=by
  intro l
  induction l with
  |nil=>rfl|cons e l a=>
   show(e.py.eqv d.py||(D.pys l).any fun y=>y.eqv d.py)=(zf6 e d||zlB d l);rw[a];rfl
 exact this
theorem zdR{A:Around}{s:Shared}{d:D}(J:A.units+64<cLine)(I:Reads s.heap x d.py bs)(fd:d.fit 8=true):∀{aa:List Value}{ds:List D}{as:List Addr},ReadsAll s.heap aa (D.pys ds) as->D.fits 8 ds=true->∀y,y∈aa.toArray->SeqAt.EqAt A.in1 s y x ((SeqAt.readOf s.heap y).eqv d.py)
 |[],[],_,_,_,y,a=>by simp at a
 |[],_::_,_,h,_,_,_=>by cases h
 |_::_,[],_,h,_,_,_=>by cases h
 |v::aa,e::ds,_,h,f,y,a=>by
  simp only[D.fits,yaa]at f
  cases h with
  |cons h1 h2=>
   simp at a
   rcases a with rfl|a
   ·rw[zhY (D.lay f.1).1 h1];refine SeqAt.eqAt_reads _ _ _ _ _ _ _ _ h1 I (D.lay f.1).1 (D.lay fd).1 ?_;have:=(D.lay f.1).2;show A.units+1+_<cLine;omega
   ·exact zdR J I fd h2 f.2 y (by simpa using a)
theorem zvE(U:X.K=cl.K)(J:X.A.units+64<cLine):OpD X cl (compareOp .In) inD:=by
 intro pins s σ H x y v u Q I c a h;obtain⟨w,d,e,r,rfl,g,f,i,q⟩:=h;obtain⟨b,hb,rfl⟩:=ya5.mp i;unfold zw8 at hb;split at hb
 ·cases hb;obtain rfl:=g.strI;obtain rfl:=f.strI;exact zlu pins s σ w.H _ _ v u Q I c a ⟨_,_,rfl,rfl,q _ w (Grow.refl _) (.bl _)⟩
 ·cases hb
def zs0(J:X.K=cl.K)(U:X.A.units+64<cLine):OpD X cl (compareOp .NotIn) zqD:=by
 intro pins s σ H x y v u Q I g f h;obtain⟨w,d,e,r,rfl,l,k,b,q⟩:=h;unfold zqD at b;split at b
 ·split at b
  ·rename_i hf;cases b;rw[yaa]at hf;obtain⟨bs,j⟩:=zhZ I J l hf.1 g;obtain⟨a,xs,rfl,e,rs⟩:=k.lstI;cases f;obtain⟨aa,i,p,_⟩:=I.list (SqL.of (K:=X.K) e);obtain⟨as,c⟩:=zeM I J rs hf.2 i;refine SeqAt.notIn_listAt _ p.isList (zdR U j hf.1 c hf.2) ?_;rw[zke c hf.2];exact⟨.bl _,w.H,I,rfl,q _ w (Grow.refl _) (.bl _)⟩
  ·cases b
 ·cases b
def za0:D->D->Option D
 |.int i,.int j=>some (.int (i+j))|.tup a,.tup b=>if zau (a.length+b.length)then some (.tup (a++b))else none
 |.lst a,.lst b=>if zau (a.length+b.length)then some (.lst (a++b))else none
 |.str a,.str b=>if zau (a.length+b.length)then some (.str (a++b))else none
 |_,_=>none
def zoR:OpD X cl (binaryOp .Add) za0:=by
 intro pins s σ H x y v u Q I m k h;obtain⟨w,d,e,r,rfl,C,B,f,q⟩:=h;unfold za0 at f;split at f
 ·cases f;rename_i i j;obtain rfl:=C.intI;obtain rfl:=B.intI;exact zsX pins s σ w.H _ _ v u Q I m k ⟨i,j,rfl,rfl,q _ w (Grow.refl _) (.int _)⟩
 ·rename_i a b;split at f
  ·rename_i n;cases f;obtain⟨p,xs,rfl,A,kp,rs⟩:=C.tupI;obtain⟨p2,ys,rfl,g,D,c⟩:=B.tupI
   by_cases o:xs=[]
   ·subst o;cases rs;exact znv pins s σ w.H _ _ v u Q I m k ⟨p,p2,ys,rfl,rfl,SqT.of A,SqT.of g,q _ w (Grow.refl _) (.tup g D c)⟩
   ·refine zqx pins s σ w.H _ _ v u Q I m k ⟨p,p2,xs,ys,rfl,rfl,SqT.of A,SqT.of g,o,by rw[rs.length,c.length];exact zaI n,fun z=>?_,fun z l t=>?_⟩
    ·subst z;cases c;rw[yaQ]at q;exact q _ w (Grow.refl _) (.tup A kp rs)
    ·exact q _ (w.add l _) (zaw t _) (Shd.newT t (rs.append c))
  ·cases f
 ·rename_i a b;split at f
  ·rename_i n;cases f;obtain⟨p,xs,rfl,A,rs⟩:=C.lstI;obtain⟨p2,ys,rfl,g,c⟩:=B.lstI;exact zsW pins s σ w.H _ _ v u Q I m k ⟨p,p2,xs,ys,rfl,rfl,A,g,by rw[rs.length,c.length];exact zaI n,fun l t=>q _ (w.add l _) (zaw t _) (Shd.newL t (rs.append c))⟩
  ·cases f
 ·rename_i a b;split at f
  ·rename_i n;cases f;obtain rfl:=C.strI;obtain rfl:=B.strI;exact zjY pins s σ w.H _ _ v u Q I m k ⟨a,b,rfl,rfl,zaI n,q _ w (Grow.refl _) (.str _)⟩
  ·cases f
 ·cases f
noncomputable def zbV(i:Int):Bool:=decide (-(2 ^ 64)<i/\i<2 ^ 64)
def zja:D->D->Option D
 |.int i,.int j=>if zbV i||zbV j then some (.int (i*j))else none
 |_,_=>none
theorem zs2:OpD X cl (binaryOp .Mult) zja:=by
 intro pins s σ H x y v u Q I f c h;obtain⟨w,d,e,r,rfl,k,g,a,q⟩:=h;unfold zja at a;split at a
 ·rename_i i j;split at a
  ·rename_i b;cases a;obtain rfl:=k.intI;obtain rfl:=g.intI;refine zsS pins s σ w.H _ _ v u Q I f c ⟨i,j,rfl,rfl,?_,q _ w (Grow.refl _) (.int _)⟩;rw[ycu]at b;exact b.imp (fun z=>yah z) fun z=>yah z
  ·cases a
 ·cases a
noncomputable def zj0:D->D->Option D|.int i,.int j=>if 0<j then some (.int (i % j))else none|_,_=>none
noncomputable def zo7:D->D->Option D|.int i,.int j=>if 0<j/\j<1073741824 then some (.int (i / j))else none|_,_=>none
def zs3:OpD X cl (binaryOp .Mod) zj0:=by
 intro pins s σ H x y v u Q I c b h;obtain⟨w,d,e,r,rfl,k,g,a,q⟩:=h;unfold zj0 at a;split at a
 ·rename_i i j;split at a
  ·rename_i f;cases a;obtain rfl:=k.intI;obtain rfl:=g.intI;exact zsT pins s σ w.H _ _ v u Q I c b ⟨i,j,rfl,rfl,f,q _ w (Grow.refl _) (.int _)⟩
  ·cases a
 ·cases a
def zs6:OpD X cl (binaryOp .FloorDiv) zo7:=by
 intro pins s σ H x y v u Q I c b h;obtain⟨w,d,e,r,rfl,k,g,a,q⟩:=h;unfold zo7 at a;split at a
 ·rename_i i j;split at a
  ·rename_i f;cases a;obtain rfl:=k.intI;obtain rfl:=g.intI;exact zqw pins s σ w.H _ _ v u Q I c b ⟨i,j,rfl,rfl,f,q _ w (Grow.refl _) (.int _)⟩
  ·cases a
 ·cases a
noncomputable def znA:D->Option D|.int i=>some (.int (-i))|_=>none
def zrF:UnD X cl (unaryOp .USub) znA:=by
 intro pins s σ H x v Q I b h;obtain⟨w,d,r,rfl,c,a,q⟩:=h;unfold znA at a;split at a
 ·cases a;rename_i i;obtain rfl:=c.intI;exact zrE pins s σ w.H _ v Q I b ⟨i,rfl,q _ w (Grow.refl _) (.int _)⟩
 ·cases a
noncomputable def zt7(p:Int->Int->Bool):D->D->Option D|.int i,.int j=>some (.bl (p i j))|_,_=>none
def zh4(ho:OpR X (compareOp op) (rI0 fun i j=>.bl (p i j))):OpD X cl (compareOp op) (zt7 p):=by
 intro pins s σ H x y v u Q I c b h;obtain⟨w,d,e,r,rfl,g,f,a,q⟩:=h;unfold zt7 at a;split at a
 ·cases a;rename_i i j;obtain rfl:=g.intI;obtain rfl:=f.intI;exact ho pins s σ w.H _ _ v u Q I c b ⟨i,j,rfl,rfl,q _ w (Grow.refl _) (.bl _)⟩
 ·cases a
noncomputable def zvL:D->D->Option D
 |.str a,.str b=>some (.bl (!decide (b.cps.toList<a.cps.toList)))|d,e=>zt7 (fun i j=>decide (i<=j)) d e
def zs4:OpD X cl (compareOp .LtE) zvL:=by
 intro pins s σ H x y v u Q I g f h;obtain⟨w,d,e,r,rfl,j,i,c,q⟩:=h;unfold zvL at c;split at c
 ·cases c;rename_i a b;obtain rfl:=j.strI;obtain rfl:=i.strI;exact zsU pins s σ w.H _ _ v u Q I g f ⟨a,b,rfl,rfl,q _ w (Grow.refl _) (.bl _)⟩
 ·exact zh4 zvB pins s σ w.H _ _ v u Q I g f ⟨w,_,_,r,rfl,j,i,c,q⟩
noncomputable def ze2:D->Bool|.non=>true|_=>false
def zjk(d e:D):Option D:=if ze2 e then some (.bl (ze2 d))else none
def TopV.non_iff(h:TopV cl w v d):decide (v=.non)=ze2 d:=by
 cases h with
 |sh h=>cases h<;>simp[ze2]|ow e t=>cases t<;>simp[ze2]
def zhg(h:ze2 d=true):d=.non:=by cases d<;>simp[ze2]at h;rfl
def zs5:OpD X cl (compareOp .Is) zjk:=by
 intro pins s σ H x y v u Q I f c h;obtain⟨w,d,e,r,rfl,i,b,a,q⟩:=h;unfold zjk at a;split at a
 ·rename_i g;cases a;rw[zhg g]at b;obtain rfl:=b.nonI;refine zsV pins s σ w.H _ _ v u Q I f c ⟨rfl,?_⟩;rw[i.non_iff];exact q _ w (Grow.refl _) (.bl _)
 ·cases a
def ixD:D->D->Option D
 |.lst l,.int i=>atI l i|.tup l,.int i=>atI l i|.scr l,.int i=>(atI l i).map D.int|.str x,.int i=>if zau x.length then(atI x.cps.toList i).map fun c=>.str ⟨#[c]⟩else none
 |_,_=>none
def ziX(r:Shds cl w xs ds)(h:atI ds i=some d):∃v,atI xs i=some v/\Shd cl w v d:=by
 unfold atI at h ⊢;rw[r.length]
 cases e:ixN ds.length i with
 |none=>rw[e]at h;cases h|some j=>
  rw[e]at h;exact r.at h
def ztL(J:X.K=cl.K)(U:X.A.units+64<cLine):IxD X cl ixD:=by
 intro value slice pins s σ H x y v u Q I o n h a;obtain⟨w,d,e,r,rfl,B,t,b,q⟩:=h;unfold ixD at b;split at b
 ·rename_i l i;obtain⟨p,xs,rfl,g,rs⟩:=B.lstI;obtain rfl:=t.intI;obtain⟨z,m,e2⟩:=ziX rs b;exact zlV value slice pins s σ w.H _ _ v u Q I o n ⟨p,xs,i,z,rfl,rfl,SqL.of g,m,q _ w (Grow.refl _) e2⟩ a
 ·rename_i l i;obtain⟨p,xs,rfl,g,_,rs⟩:=B.tupI;obtain rfl:=t.intI;obtain⟨z,m,e2⟩:=ziX rs b;exact ztE value slice pins s σ w.H _ _ v u Q I o n ⟨p,xs,i,z,rfl,rfl,SqT.of g,m,q _ w (Grow.refl _) e2⟩ a
 ·rename_i l i;obtain⟨p,rfl,g⟩:=B.scrI J;obtain rfl:=t.intI
  cases f:atI l i with
  |none=>rw[f]at b;cases b|some k=>
   rw[f]at b;cases b
   have m:atI (l.map V.int) i=some (.int k):=by
    unfold atI at f ⊢;rw[yab]
    cases e:ixN l.length i with
    |none=>rw[e]at f;cases f|some j=>
     rw[e]at f;have C:l[j]?=some k:=f;show(l.map V.int)[j]?=_;rw[yaM,C];rfl
   exact zlV value slice pins s σ w.H _ _ v u Q I o n ⟨p,_,i,_,rfl,rfl,g,m,q _ w (Grow.refl _) (.int _)⟩ a
 ·rename_i x i;split at b
  ·rename_i D;obtain⟨c,E,rfl⟩:=ya5.mp b;obtain rfl:=B.strI;obtain rfl:=t.intI;exact ztF value slice pins s σ w.H _ _ v u Q I o n ⟨x,i,c,rfl,rfl,zaI D,E,q _ w (Grow.refl _) (.str _)⟩ a
  ·cases b
 ·cases b
def zen:List D->Option D
 |[.lst l]=>some (.int l.length)|[.tup l]=>some (.int l.length)|[.scr l]=>some (.int l.length)|[.str x]=>if zau x.length then some (.int x.length)else none
 |_=>none
def zt9(J:X.K=cl.K):zkj X cl (.builtin "len") zen:=by
 intro pins s σ H xs us Q I r h;obtain⟨w,ds,d,rfl,c,a,q⟩:=h;unfold zen at a;split at a
 ·rename_i l;cases a
  cases c with
  |cons h1 h2=>
   cases h2;obtain⟨p,ys,rfl,b,rs⟩:=h1.lstI;refine zco pins s σ w.H _ us Q I r ⟨p,ys,rfl,.inl (SqL.of b),?_⟩;rw[rs.length];exact q _ w (Grow.refl _) (.int _)
 ·rename_i l;cases a
  cases c with
  |cons h1 h2=>
   cases h2;obtain⟨p,ys,rfl,b,_,rs⟩:=h1.tupI;refine zco pins s σ w.H _ us Q I r ⟨p,ys,rfl,.inr (SqT.of b),?_⟩;rw[rs.length];exact q _ w (Grow.refl _) (.int _)
 ·rename_i l;cases a
  cases c with
  |cons h1 h2=>
   cases h2;obtain⟨p,rfl,b⟩:=h1.scrI J;refine zco pins s σ w.H _ us Q I r ⟨p,l.map V.int,rfl,.inl b,?_⟩;rw[yab];exact q _ w (Grow.refl _) (.int _)
 ·rename_i x;split at a
  ·rename_i e;cases a
   cases c with
   |cons h1 h2=>
    cases h2;obtain rfl:=h1.strI;exact zhy pins s σ w.H _ us Q I r ⟨x,rfl,zaI e,q _ w (Grow.refl _) (.int _)⟩
  ·cases a
 ·cases a
noncomputable def zcv:List D->Option D
 |[.lst l]=>some (.tup l)|[.tup l]=>some (.tup l)|_=>none
def zoe:zkj X cl (.type "tuple") zcv:=by
 intro pins s σ H xs us Q I r h;obtain⟨w,ds,d,rfl,c,a,q⟩:=h;unfold zcv at a;split at a
 ·rename_i l;cases a
  cases c with
  |cons h1 h2=>
   cases h2;obtain⟨p,ys,rfl,b,rs⟩:=h1.lstI;exact zdX pins s σ w.H _ us Q I r ⟨p,ys,rfl,.inl ⟨SqL.of b,fun l e=>q _ (w.add l _) (zaw e _) (Shd.newT e rs)⟩⟩
 ·rename_i l;cases a
  cases c with
  |cons h1 h2=>
   cases h2;obtain⟨p,ys,rfl,b,kp,rs⟩:=h1.tupI;exact zdX pins s σ w.H _ us Q I r ⟨p,ys,rfl,.inr ⟨SqT.of b,q _ w (Grow.refl _) (.tup b kp rs)⟩⟩
 ·cases a
noncomputable def zgx:List D->Option (List Bool)
 |[]=>some []|.bl b::l=>(zgx l).map (b::·)|_=>none
def zoj:∀{xs:List V},Shds cl w xs ds->zgx ds=some bs->xs=bs.map V.bl:=by
 induction ds generalizing bs with
 |nil=>intro xs r h;cases r;cases h;rfl|cons d ds c=>
  intro xs r e
  cases r with
  |cons h t=>
   cases d with
   |bl b=>
    cases h;unfold zgx at e
    cases a:zgx ds with
    |none=>rw[a]at e;cases e|some cs=>rw[a]at e;cases e;rw[c t a];rfl
   |_=>cases e
def zmH:List D->Option D
 |[.lst l]=>(zgx l).map fun bs=>.bl (bs.all id)|_=>none
def zua(J:X.calm=true):zkj X cl (.builtin "all") zmH:=by
 intro pins s σ H xs us Q I r h;obtain⟨w,ds,d,rfl,b,a,q⟩:=h;unfold zmH at a;split at a
 ·rename_i l
  cases hb:zgx l with
  |none=>rw[hb]at a;cases a|some bs=>
   rw[hb]at a;cases a
   cases b with
   |cons h1 h2=>
    cases h2;obtain⟨p,ys,rfl,c,rs⟩:=h1.lstI;obtain rfl:=zoj rs hb;exact ziq J pins s σ w.H _ us Q I r ⟨p,bs,rfl,SqL.of c,q _ w (Grow.refl _) (.bl _)⟩
 ·cases a
noncomputable def zeo:List D->Option (List Int)
 |[]=>some []|.int b::l=>(zeo l).map (b::·)|_=>none
def zl0:∀{xs:List V},Shds cl w xs ds->zeo ds=some bs->xs=bs.map V.int:=by
 induction ds generalizing bs with
 |nil=>intro xs r h;cases r;cases h;rfl|cons d ds c=>
  intro xs r e
  cases r with
  |cons h t=>
   cases d with
   |int b=>
    cases h;unfold zeo at e
    cases a:zeo ds with
    |none=>rw[a]at e;cases e|some cs=>rw[a]at e;cases e;rw[c t a];rfl
   |_=>cases e
end
end S2
namespace L2
open PySem PySem.Spec PyProof.Rows
theorem zgp{α β:Type}{f g:α->Option β}:∀{l:List α},(∀x∈l,f x=g x)->l.filterMap f=l.filterMap g
 |[],_=>rfl|x::l,h=>by
  have:=zgp fun y a=>h y (.tail x a)
  rw[ybu,ybu,h x (.head _),this]
theorem zjq{α:Type}(l:List α):∀n,n<=l.length->(List.range n).filterMap (fun k=>l[k]?)=l.take n
 |0,_=>rfl|n+1,h=>by
  rw[List.range_succ,List.filterMap_append,zjq l n (by omega),ycE]
  cases h2:l[n]? with
  |none=>rw[List.getElem?_eq_none_iff]at h2;omega|some x=>simp[h2]
def zne(aa:List Value):slicePick aa.toArray none none (some (-1))=aa.reverse.toArray:=by
 unfold slicePick
 have e:sliceBounds none none (some (-1)) aa.toArray.size=((aa.length:Int)-1,-1,-1):=by simp[sliceBounds]
 rw[e];congr 1;unfold sliceRange;dsimp only
 have a:(if(-1:Int) > 0 then(if(aa.length:Int)-1 < -1 then(-1-((aa.length:Int)-1)+-1-1) / -1 else 0)else(if(aa.length:Int)-1 > -1 then((aa.length:Int)-1 - -1 - -1-1) / (- -1)else 0)).toNat=aa.length:=by
  rw[if_neg (by decide)];split
  ·have:((aa.length:Int)-1 - -1 - -1-1) / (- -1)=(aa.length:Int):=by
    rw[show(- -1:Int)=1 by decide,Int.ediv_one];omega
   rw[this];simp
  ·have:aa.length=0:=by omega
   rw[this];rfl
 rw[a,yc2]
 have h1:((List.range aa.length).filterMap ((fun k=>aa.toArray[k]?)∘fun k:Nat=>((aa.length:Int)-1+-1*(k:Int)).toNat))=(List.range aa.length).filterMap fun k=>aa[aa.length-1-k]?:=by
  apply zgp;intro k _;show aa.toArray[((aa.length:Int)-1+-1*(k:Int)).toNat]?=_
  have:((aa.length:Int)-1+-1*(k:Int)).toNat=aa.length-1-k:=by omega
  rw[this];simp
 rw[h1]
 have h2:(List.range aa.length).filterMap (fun k=>aa[aa.length-1-k]?)=aa.reverse:=by
  have:(List.range aa.length).filterMap (fun k=>aa[aa.length-1-k]?)=(List.range aa.length).filterMap fun k=>aa.reverse[k]?:=by
   apply zgp;intro k hk;rw[List.getElem?_reverse (ybF.mp hk)]
  rw[this]
  have e2:aa.length=aa.reverse.length:=by simp
  rw[e2];rw[zjq aa.reverse _ (yai _),ych]
 rw[h2]
section
variable{X:Cx}{e st:Expr}{te ts:TE}{pos p2:Pos}
def znh(he:PE X e te)(J:PE X st ts):PE X (.Subscript e (.Slice none none (some st) p2) pos) (fun σ H Q=>te σ H fun x H1=>ts σ H1 fun y H2=>y=.int (-1)/\∃a xs,x=.ref a/\SqL X.K H2 a xs/\∀p,H2 p=none->Q (.ref p) (upd H2 p (.lst xs.reverse))):=by
 intro pins s σ H Q I h;refine Subscript_ (thn (he pins s σ H _ I h) fun v s1 ⟨x,H1,z,i,k⟩=>?_);refine wpAny_Slice ?_;rw[evalPart_none];refine yak (yak ?_);rw[evalPart_some];refine thn (J pins s1 σ H1 _ z k) fun u c ⟨y,B,n,g,j⟩=>?_
 obtain⟨rfl,a,xs,rfl,m,q⟩:=j;obtain⟨t,rfl⟩:=g;cases i;have d:Inv X pins σ B {c with heap:=c.heap.push {cls:=.type "slice",data:=.fields #[.none,.none,.int (-1) t]}}:=n.kept (t':=c.toks) fun b ob q=>yag _ q
 obtain⟨aa,r,f,l⟩:=d.list m;have hlen:=r.length;show wpAny (model X.prog X.w) X.A (subscriptTail e (.Slice none none (some st) p2) (.ref a) (.ref c.heap.objs.size)) (EP X pins σ Q) X.xe {c with heap:=c.heap.push {cls:=.type "slice",data:=.fields #[.none,.none,.int (-1) t]}};refine tail_any (ops:=[.ref a,.ref c.heap.objs.size]) f.isList.typeIs slot_list_getitem.lookup ?_ (by with_unfolding_all rfl);refine wpAny_getItem_list_slice f.isList (Heap.IsSliceOf.new ..) .none .none (.int (-1) t) (by decide) ?_ (by rw[yam]<;>omega);rw[zne];refine⟨.ref _,_,d.laid (t':=c.toks) (o:=.lst xs.reverse) (fun b ob q=>yag _ q) (yai _) ?_,rfl,q _ (d.hok.fresh (yai _))⟩;exact⟨by rw[ycj];exact l,_,0,r.reverse,yaw _ rfl⟩
end
end L2
namespace S2
open PySem PySem.Spec PyProof.Rows L2
def zcC(g g':D->D->Option D)(f h k:Fe):Fe:=fun ρ S=>(f ρ S).bind fun a S1=>(h ρ S1).bind fun b S2=>match(g a b).bind isB with
 |some true=>(k ρ S2).bind fun c d=>Out.of (g' b c) d|some false=>.ok (.bl false) S2|none=>.bad
section
variable{X:Cx}{cl:Cf}{E:St->XK}{a b c e:Expr}{f h k:Fe}{pos:Pos}
def ziR(hr:∀x y H Q,(∃w d e r,w.H=H/\TopV cl w x d/\TopV cl w y e/\g d e=some r/\∀v w',Grow w w'->Shd cl w' v r->Q v w'.H)->r x y H Q)
  (I:∀x y H Q,(∃w d e r,w.H=H/\TopV cl w x d/\TopV cl w y e/\g' d e=some r/\∀v w',Grow w w'->Shd cl w' v r->Q v w'.H)->U x y H Q) (q:tE cl E (zcC g g' f h k) σ H Q):zkK r U (tH cl E f) (tH cl E h) (tH cl E k) σ H Q:=by
 obtain⟨B,w,ρ,S,rfl,R,q⟩:=q;refine⟨B,w,ρ,S,rfl,R,?_⟩;unfold zcC at q
 cases hf:f ρ S with
 |bad=>rwa[hf]at q|exc c S1=>rwa[hf]at q|ok d S1=>
  rw[hf]at q;intro v J M o h1;refine⟨B,J,ρ,S1,rfl,M,?_⟩;dsimp only[Out.bind]at q
  cases u:h ρ S1 with
  |bad=>rwa[u]at q|exc c S2=>rw[u]at q;exact fun s R2 b=>q s R2 (o.trans b)|ok e S2=>
   rw[u]at q;intro y s R2 b h2;dsimp only at q
   cases m:g d e with
   |none=>rw[m]at q;exact q.elim|some z=>
    rw[m]at q;dsimp only[Option.bind]at q
    cases hb:isB z with
    |none=>rw[hb]at q;exact q.elim|some D=>
     rw[hb]at q;rw[zdk hb]at m;refine hr _ _ _ _ ⟨s,d,e,_,rfl,(h1.up b).top R2,h2.top R2,m,fun C A j sh=>⟨D,zgN sh,?_⟩⟩;have F:=R2.grow j
     cases D with
     |false=>exact zo1 (q _ A F (o.trans (b.trans j.fut)) (.bl _))|true=>
      refine zo0 ⟨B,A,ρ,S2,rfl,F,?_⟩;dsimp only at q
      cases hk:k ρ S2 with
      |bad=>rwa[hk]at q|exc c L=>rw[hk]at q;exact fun p l n=>q p l (o.trans (b.trans (j.fut.trans n)))|ok c L=>
       rw[hk]at q;intro N p l n K;dsimp only at q
       cases a:g' e c with
       |none=>rw[a]at q;exact q.elim|some r2=>
        rw[a]at q;exact I _ _ _ _ ⟨p,e,c,r2,rfl,(h2.up (j.fut.trans n)).top l,K.top l,a,fun C G i t=>q C G (l.grow i) (o.trans (b.trans (j.fut.trans (n.trans i.fut)))) t⟩
def zmX(ho:OpD X cl (compareOp op) g)(J:OpD X cl (compareOp I) g')(ha:PE X a (tH cl E f))(hb:PE X b (tH cl E h))(U:PE X c (tH cl E k))(hm:lastMarks [op,I] [b,c]=false):PE X (.Compare a [op,I] [b,c] pos) (tE cl E (zcC g g' f h k)):=
 PE.imp (znr ho J ha hb U hm) fun _ _ _ q=>ziR (fun _ _ _ _ z=>z) (fun _ _ _ _ z=>z) q
def zmP(ho:OpD X cl (compareOp op) g)(J:OpD X cl (compareOp I) g')(ha:PE X a (tH cl E f))(hb:PE X b (tH cl E h))(U:PE X c (tH cl E k))(hm:lastMarks [op,I] [b,c]=false):PT X (.Compare a [op,I] [b,c] pos) (tTr cl E (zcC g g' f h k)):=
 PT.imp (zm9 ho J ha hb U hm) fun _ _ _ q=>ziR (fun _ _ _ _ z=>z) (fun _ _ _ _ z=>z) (zgG q)
def zhL{α:Type}(l:List α)(lo hi:Option Int):List α:=(l.drop (HT.sIx l.length 0 lo)).take (HT.sIx l.length l.length hi-HT.sIx l.length 0 lo)
def slD(d:D)(lo hi:Option Int):Option D:=match d with
 |.lst l=>some (.lst (zhL l lo hi))|.tup l=>some (.tup (zhL l lo hi))|.str x=>if zau x.length then some (.str (Txt.slice x lo hi))else none
 |_=>none
def zcT(o:Option Fe)(ρ:Env)(S:Sto):Out (Option Int):=match o with
 |none=>.ok none S|some f=>(f ρ S).bind fun d S1=>match d with|.int i=>.ok (some i) S1|_=>.bad
def eSl(f:Fe)(lo hi:Option Fe):Fe:=fun ρ S=>(f ρ S).bind fun d S1=>(zcT lo ρ S1).bind fun l S2=>(zcT hi ρ S2).bind fun u a=>Out.of (slD d l u) a
def zht(r:Shds cl w xs ds)(lo hi:Option Int):Shds cl w (zpb xs lo hi) (zhL ds lo hi):=by
 unfold zpb zhL;rw[r.length];exact(r.drop _).take _
noncomputable def SlD(X:Cx)(cl:Cf):Prop:=SlR X fun x lo hi H Q=>∃w d r,w.H=H/\TopV cl w x d/\slD d lo hi=some r/\∀v w',Grow w w'->Shd cl w' v r->Q v w'.H
def zvn:SlD X cl:=by
 intro pins s σ H x v f e lo hi sl Q I g hs pl pu h;obtain⟨w,d,r,rfl,y,a,q⟩:=h;unfold slD at a;split at a
 ·rename_i l;cases a;obtain⟨p,xs,rfl,c,rs⟩:=y.lstI;exact zpQ pins s σ w.H _ v f e lo hi sl Q I g hs pl pu ⟨p,xs,rfl,SqL.of c,fun n b=>q _ (w.add n _) (zaw b _) (Shd.newL b (zht rs lo hi))⟩
 ·rename_i l;cases a;obtain⟨p,xs,rfl,c,kp,rs⟩:=y.tupI
  by_cases hw:HT.sIx xs.length 0 lo=0/\HT.sIx xs.length xs.length hi=xs.length
  ·refine zjJ pins s σ w.H _ v f e lo hi sl Q I g hs pl pu ⟨p,xs,rfl,SqT.of c,hw.1,hw.2,q _ w (Grow.refl _) (.tup c kp ?_)⟩
   have:zhL l lo hi=l:=by
    unfold zhL;rw[<-rs.length,hw.1,hw.2,ycG,Nat.sub_zero,ybX (by rw[rs.length];exact yai _)]
   rw[this];exact rs
  ·exact zr2 pins s σ w.H _ v f e lo hi sl Q I g hs pl pu ⟨p,xs,rfl,SqT.of c,hw,fun n b=>q _ (w.add n _) (zaw b _) (Shd.newT b (zht rs lo hi))⟩
 ·rename_i x;split at a
  ·rename_i z;cases a;obtain rfl:=y.strI;obtain⟨t,rfl⟩:=g;obtain⟨o,B,C,hd⟩:=hs
   have fin:∀l u:Option (Int×Tok),f=partValue l->e=partValue u->lo=l.map (·.1)->hi=u.map (·.1)->wpAny (model X.prog X.w) X.A (getItem (.str x t) (.ref sl)) (EP X pins σ Q) X.xe s:=fun l u G e2 E D=>by
    subst G e2 E D;refine wpAny_getItem_str_slice (st:=none) ⟨o,B,C,hd⟩ rfl ?_;exact post_val_or_str ⟨yav (yc6 x _ _) (zaI z),fun t' k=>⟨.str _,w.H,I.tok _,⟨_,rfl⟩,q _ w (Grow.refl _) (.str _)⟩⟩
   refine⟨"str",_,F.slot_str_getitem.lookup,yb8 _ _ _,?_⟩
   cases pl with
   |none=>cases pu with
    |none=>exact fin none none rfl rfl rfl rfl|int j m=>exact fin none (some (j,m)) rfl rfl rfl rfl
   |int i ti=>cases pu with
    |none=>exact fin (some (i,ti)) none rfl rfl rfl rfl|int j m=>exact fin (some (i,ti)) (some (j,m)) rfl rfl rfl rfl
  ·cases a
 ·cases a
noncomputable def zux(cl:Cf)(E:St->XK)(o:Option Fe):TO:=match o with|none=>zkH|some f=>zrJ (tH cl E f)
def zvj{lo hi:Option Expr}{J I:Option Fe}{p2:Pos}(he:PE X e (tH cl E f))(hl:PO X lo (zux cl E J))(U:PO X hi (zux cl E I)):PE X (.Subscript e (.Slice lo hi none p2) pos) (tE cl E (eSl f J I)):=by
 refine PE.imp (zni (zvn (cl:=cl)) he hl U) ?_;rintro σ H Q ⟨B,w,ρ,S,rfl,R,q⟩;refine⟨B,w,ρ,S,rfl,R,?_⟩;unfold eSl at q
 cases hf:f ρ S with
 |bad=>rwa[hf]at q|exc c S1=>rwa[hf]at q|ok d S1=>
  rw[hf]at q;intro v o z t h1;dsimp only[Out.bind]at q
  have last:∀(l u:Option Int) (a:Wd) (g:Sto),Rel cl B σ a ρ g->Fut o a->(match Out.of (slD d l u) g with
    |.ok d S'=>∀v w',Rel cl B σ w' ρ S'->Fut w w'->Shd cl w' v d->Q v w'.H|.exc c S'=>∀w',Rel cl B σ w' ρ S'->Fut w w'->E σ (.ref (cl c)) none w'.H|.bad=>False)->∃w d r,w.H=a.H/\TopV cl w v d/\slD d l u=some r/\∀v w',Grow w w'->Shd cl w' v r->Q v w'.H:=by
   intro l u a g h k p
   cases s:slD d l u with
   |none=>rw[s]at p;exact p.elim|some r=>
    rw[s]at p;exact⟨a,d,r,rfl,(h1.up k).top h,s,fun A w' x sh=>p A w' (h.grow x) (t.trans (k.trans x.fut)) sh⟩
  have second:∀(l:Option Int) (j:Wd) (S2:Sto),Rel cl B σ j ρ S2->Fut o j->(match(zcT I ρ S2).bind fun u g=>Out.of (slD d l u) g with
    |.ok d S'=>∀v w',Rel cl B σ w' ρ S'->Fut w w'->Shd cl w' v d->Q v w'.H|.exc c S'=>∀w',Rel cl B σ w' ρ S'->Fut w w'->E σ (.ref (cl c)) none w'.H|.bad=>False)->zux cl E I σ j.H fun u F=>∃w d r,w.H=F/\TopV cl w v d/\slD d l u=some r/\∀v w',Grow w w'->Shd cl w' v r->Q v w'.H:=by
   intro l j S2 R2 n b
   cases I with
   |none=>exact last l none j S2 R2 n b|some I=>
    refine⟨B,j,ρ,S2,rfl,R2,?_⟩;unfold zcT at b;dsimp only at b
    cases m:I ρ S2 with
    |bad=>rwa[m]at b|exc c g=>rw[m]at b;exact fun a h k=>b a h (t.trans (n.trans k))|ok D g=>
     rw[m]at b;intro y a h k C;dsimp only[Out.bind]at b
     cases D with
     |int i=>
      refine⟨i,(C.top h).intI,?_⟩;exact last l (some i) a g h (n.trans k) b
     |_=>exact b.elim
  cases J with
  |none=>exact second none o S1 z (Fut.refl _) q|some J=>
   refine⟨B,o,ρ,S1,rfl,z,?_⟩;unfold zcT at q;dsimp only at q
   cases m:J ρ S1 with
   |bad=>rwa[m]at q|exc c g=>rw[m]at q;exact fun a h k=>q a h (t.trans k)|ok dl S2=>
    rw[m]at q;intro y j R2 n h2;dsimp only[Out.bind]at q
    cases dl with
    |int i=>
     refine⟨i,(h2.top R2).intI,?_⟩;exact second (some i) j S2 R2 n q
    |_=>exact q.elim
noncomputable def zcK(T:String)(d:D):Option D:=
 if T="int"then(match d with|.int _=>some (.bl true)|.bl _=>some (.bl true)|.non=>some (.bl false)|.str _=>some (.bl false)|.tup _=>some (.bl false)|.lst _=>some (.bl false)|_=>none)
 else if T="bool"then(match d with|.int _=>some (.bl false)|.bl _=>some (.bl true)|.non=>some (.bl false)|.str _=>some (.bl false)|.tup _=>some (.bl false)|.lst _=>some (.bl false)|_=>none)
 else if T="tuple"then(match d with|.int _=>some (.bl false)|.bl _=>some (.bl false)|.non=>some (.bl false)|.str _=>some (.bl false)|.tup _=>some (.bl true)|.lst _=>some (.bl false)|_=>none)
 else if T="str"then(match d with|.int _=>some (.bl false)|.bl _=>some (.bl false)|.non=>some (.bl false)|.str _=>some (.bl true)|.tup _=>some (.bl false)|.lst _=>some (.bl false)|_=>none)
 else none
def zdl{K:PySem.W.Frag}{t:Value}{r:D}{T:String}{b1 b2 U J:Bool}(I:(if T="int"then some (D.bl b1)else if T="bool"then some (.bl b2)else if T="tuple"then some (.bl U)else if T="str"then some (.bl J)else none)=some r)(k1:PySem.W.kitOne K t (.type "int")=some b1)(k2:PySem.W.kitOne K t (.type "bool")=some b2)(k3:PySem.W.kitOne K t (.type "tuple")=some U)(k4:PySem.W.kitOne K t (.type "str")=some J):∃b,PySem.W.kitOne K t (.type T)=some b/\r=.bl b:=by
 split at I
 ·rename_i e;cases I;exact⟨b1,by rw[e];exact k1,rfl⟩
 split at I
 ·rename_i e;cases I;exact⟨b2,by rw[e];exact k2,rfl⟩
 split at I
 ·rename_i e;cases I;exact⟨U,by rw[e];exact k3,rfl⟩
 split at I
 ·rename_i e;cases I;exact⟨J,by rw[e];exact k4,rfl⟩
 ·cases I
def zq1{r:D}{T:String}(I:(if T="int"then none else if T="bool"then none else if T="tuple"then none else if T="str"then none else none)=some r):False:=by
 simp at I
def zq0{K:PySem.W.Frag}{w:Wd}(h:TopV cl w v d)(I:zcK T d=some r):∃t b,TyOf K w.H v t/\PySem.W.kitOne K t (.type T)=some b/\r=.bl b:=by
 cases d with
 |int i=>obtain rfl:=h.intI;obtain⟨b,h1,h2⟩:=zdl (K:=K) (t:=.type "int") I (by with_unfolding_all rfl) (by with_unfolding_all rfl) (by with_unfolding_all rfl) (by with_unfolding_all rfl);exact⟨_,b,.int _,h1,h2⟩
 |bl i=>obtain rfl:=h.blI;obtain⟨b,h1,h2⟩:=zdl (K:=K) (t:=.type "bool") I (by with_unfolding_all rfl) (by with_unfolding_all rfl) (by with_unfolding_all rfl) (by with_unfolding_all rfl);exact⟨_,b,.bl _,h1,h2⟩
 |non=>obtain rfl:=h.nonI;obtain⟨b,h1,h2⟩:=zdl (K:=K) (t:=.type "NoneType") I (by with_unfolding_all rfl) (by with_unfolding_all rfl) (by with_unfolding_all rfl) (by with_unfolding_all rfl);exact⟨_,b,.non,h1,h2⟩
 |str i=>obtain rfl:=h.strI;obtain⟨b,h1,h2⟩:=zdl (K:=K) (t:=.type "str") I (by with_unfolding_all rfl) (by with_unfolding_all rfl) (by with_unfolding_all rfl) (by with_unfolding_all rfl);exact⟨_,b,.str _,h1,h2⟩
 |tup i=>obtain⟨_,_,rfl,e,_⟩:=h.tupI;obtain⟨b,h1,h2⟩:=zdl (K:=K) (t:=.type "tuple") I (by with_unfolding_all rfl) (by with_unfolding_all rfl) (by with_unfolding_all rfl) (by with_unfolding_all rfl);exact⟨_,b,.tup e,h1,h2⟩
 |lst i=>obtain⟨_,_,rfl,e,_⟩:=h.lstI;obtain⟨b,h1,h2⟩:=zdl (K:=K) (t:=.type "list") I (by with_unfolding_all rfl) (by with_unfolding_all rfl) (by with_unfolding_all rfl) (by with_unfolding_all rfl);exact⟨_,b,.lst e,h1,h2⟩
 |_=>exact(zq1 I).elim
theorem zhA:bootBuiltins "isinstance"=some (.builtin "isinstance"):=by decide +kernel
def zp0(I:Gl X "isinstance")(hm:X.mg "isinstance"=none)(a3:Gl X x)(U:X.mg x=none)(J:bootBuiltins x=some (.type T))(hn:x ≠ "__name__")(a4:(x==("__debug__":Str))=false)(hp:zbi e=true)(he:PE X e (tH cl E f)):
  PE X (.Call (.Name "isinstance" p) [e,.Name x p2] [] pos) (tE cl E (eUn (zcK T) f)):=by
 refine PE.imp (zcJ zio I hm zhA (za2 he (za2 (zlp (v:=.ty T) a3 U J rfl hn a4) zbU rfl) (za4 hp)) (he:=za4 hp) (af:=rfl)) ?_;rintro σ H Q ⟨B,w,ρ,S,rfl,R,q⟩;refine⟨B,w,ρ,S,rfl,R,?_⟩;unfold eUn at q
 cases hf:f ρ S with
 |bad=>rwa[hf]at q|exc c S1=>rwa[hf]at q|ok d S1=>
  rw[hf]at q;intro v g a i h1;dsimp only[Out.bind]at q
  cases I:zcK T d with
  |none=>rw[I]at q;exact q.elim|some r=>
   rw[I]at q;obtain⟨t,b,h2,h,rfl⟩:=zq0 (K:=X.K) (h1.top a) I;exact⟨v,t,T,b,rfl,h2,h,q _ g a i (.bl _)⟩
noncomputable def zle:D->D->Option D
 |.lst l,.int i=>if i=-1 then some (.lst l.reverse)else none
 |_,_=>none
def zmV{a b:Expr}{h:Fe}{p2:Pos}(I:PE X a (tH cl E f))(hb:PE X b (tH cl E h)):PE X (.Subscript a (.Slice none none (some b) p2) pos) (tE cl E (zaf zle f h)):=
 PE.imp (znh I hb) (two (r2:=fun x y H Q=>y=.int (-1)/\∃a xs,x=.ref a/\SqL X.K H a xs/\∀p,H p=none->Q (.ref p) (upd H p (.lst xs.reverse))) fun x y H Q z=>by
  obtain⟨w,d,e,r,rfl,m,k,c,q⟩:=z;unfold zle at c;split at c
  ·rename_i l i;split at c
   ·rename_i hi;subst hi;cases c;obtain⟨p,xs,rfl,n,rs⟩:=m.lstI;exact⟨k.intI,p,xs,rfl,SqL.of n,fun j g=>q _ (w.add j _) (zaw g _) (Shd.newL g rs.rev)⟩
   ·cases c
  ·cases c)
noncomputable def zhQ(x:Str):List D:=x.cps.toList.map fun c=>D.str ⟨#[c]⟩
def zii(f:Fe):Fi:=fun ρ S=>(f ρ S).bind fun d S1=>match d with|.str x=>.ok (zhQ x) S1|_=>.bad
def zr5{tg:Expr}(he:PE X e (tE cl E f)):PI X tg e (tI cl E (zii f)):=by
 refine PI.imp (zsC he) ?_;rintro σ H Q ⟨B,w,ρ,S,rfl,R,q⟩;refine⟨B,w,ρ,S,rfl,R,?_⟩;unfold zii at q
 cases hf:f ρ S with
 |bad=>rwa[hf]at q|exc c S1=>rwa[hf]at q|ok d S1=>
  rw[hf]at q;intro v w' j k h';dsimp only[Out.bind]at q
  cases h' with
  |str x=>
   refine⟨x,rfl,q _ w' j k ?_⟩
   have b:(zhQ x).length=x.cps.size:=by simp[zhQ]
   refine⟨fun a g i hi=>?_,fun a g=>?_,fun a g i d v H1 hd y=>?_⟩
   ·show i<x.cps.size;rw[<-b];exact hi
   ·exact b
   ·obtain⟨rfl,c,h,rfl⟩:=y;refine⟨a,rfl,Grow.refl _,?_⟩
    have e:(zhQ x)[i]?=some (.str ⟨#[c]⟩):=by
     unfold zhQ;rw[yaM,ybC,h];rfl
    rw[hd]at e;cases e;exact .str _
  |_=>exact q.elim
def zaG(f:Fe):Fi:=fun ρ S=>(f ρ S).bind fun d S1=>match d with|.str x=>.ok (zhQ x) S1|.lst l=>.ok l S1|.tup l=>.ok l S1|_=>.bad
def zr6(J:X.K=cl.K)(he:PE X e (tE cl E f)):PI X tg e (tI cl E (zaG f)):=by
 intro pins s σ H a I q;obtain⟨B,w,ρ,S,rfl,R,q⟩:=q;unfold zaG at q
 cases hf:f ρ S with
 |bad=>rw[hf]at q;exact q.elim|exc c S1=>
  refine zkP he pins s σ w.H a I ⟨B,w,ρ,S,rfl,R,?_⟩;unfold zju;rw[hf]at q ⊢;exact q
 |ok d S1=>
  rw[hf]at q;dsimp only[Out.bind]at q
  cases d with
  |lst l=>
   refine zkP he pins s σ w.H a I ⟨B,w,ρ,S,rfl,R,?_⟩;unfold zju;rw[hf];exact q
  |tup l=>
   refine zr4 he pins s σ w.H a I ⟨B,w,ρ,S,rfl,R,?_⟩;unfold zih;rw[hf];exact q
  |str x=>
   refine zr5 he pins s σ w.H a I ⟨B,w,ρ,S,rfl,R,?_⟩;unfold zii;rw[hf];exact q
  |_=>exact q.elim
end
end S2
namespace L2
open PySem PySem.Spec PyProof.Rows
noncomputable abbrev IsT(h:Heap)(T:Addr)(os:List Value):Prop:=h.get? T=some {cls:=.type "tuple",data:=.seq os.toArray}
noncomputable abbrev Stops(h:Heap)(e:Addr):Prop:=∃o,h.get? e=some o/\o.cls=.type "StopIteration"
structure ZSt(a l m i:Nat)(f:Value)(h:Heap):Prop where
 z:IsZip h (a+4) (a+2) (a+3) f
 ti:IsT h (a+2) [.ref a,.ref (a+1)]
 to:∃x y,IsT h (a+3) [x,y]
 i1:h.IsTupleIter a l i
 i2:h.IsTupleIter (a+1) m i
section
variable{prog:Program}{w:World}{A:Around}{E:Z5}{s:Shared}{a l m k:Nat}{us vs:Array Value}
def ziH{h h':Heap}{t:Addr}(p:h.IsTuple t vs)(q:∀o,h.get? t=some o->h'.get? t=some o):h'.IsTuple t vs:=by
 obtain⟨o,a,r⟩:=p;exact⟨o,q o a,r⟩
theorem zpm{β:Type}{f:Value×Nat->β->Sem (ForInStep β)}{b:β}{Q:β->Shared->Prop}{x0 y0:Value}
  (hf:∀(c l n:Nat) (vs:Array Value) (os:List Value) (s:Shared) (Q:ForInStep β->Shared->Prop),l<c->c<a+3->os.length=2->IsZip s.heap (a+4) (a+2) (a+3) .ellipsis->IsT s.heap (a+3) os->s.heap.IsTupleIter c l k->s.heap.IsTuple l vs->k<=vs.size →
   (∀x h' tk,vs[k]?=some x->IsT h' (a+3) (os.set n x)->h'.IsTupleIter c l (k+1)->h'.objs.size=s.heap.objs.size->(∀(d:Nat) (o:Obj),d≠a+3->d≠c->s.heap.get? d=some o->h'.get? d=some o)->Q (.yield b) {s with heap:=h',toks:=tk}) →
   (k=vs.size->∀h' e tk,(∀(d:Nat) (o:Obj),d≠a+4->d≠c->s.heap.get? d=some o->h'.get? d=some o)->Stops h' e->E (.ref e) {s with heap:=h',toks:=tk})->wpAny (model prog w) A (f (.ref c,n) b) Q E s)
  (hl:l<a) (hm:m<a) (J:IsZip s.heap (a+4) (a+2) (a+3) .ellipsis) (hO:IsT s.heap (a+3) [x0,y0]) (h1:s.heap.IsTupleIter a l k) (h2:s.heap.IsTupleIter (a+1) m k) (hu:s.heap.IsTuple l us) (hv:s.heap.IsTuple m vs) (hk:k<=us.size) (I:k<=vs.size)
  (hQ:∀x y h' tk,us[k]?=some x->vs[k]?=some y->IsT h' (a+3) [x,y]->h'.IsTupleIter a l (k+1)->h'.IsTupleIter (a+1) m (k+1)->h'.objs.size=s.heap.objs.size->(∀(d:Nat) (o:Obj),d≠a->d≠a+1->d≠a+3->s.heap.get? d=some o->h'.get? d=some o)->Q b {s with heap:=h',toks:=tk})
  (U:(k=us.size\/k=vs.size)->∀h' e tk,(∀(d:Nat) (o:Obj),(d<a\/a+4<d)->s.heap.get? d=some o->h'.get? d=some o)->Stops h' e->E (.ref e) {s with heap:=h',toks:=tk}):
  wpAny (model prog w) A (forIn [((.ref a:Value),0),(.ref (a+1),1)] b f) Q E s:=by
 rw[yb3];refine yac (hf a l 0 us _ s _ hl (by omega) rfl J hO h1 hu hk (fun x g tk F u z r k1=>?_) (fun e h' B tk k1=>U (.inl e) h' B tk fun d o p q=>k1 d o (by omega) (by omega) q));show wpAny _ _ (forIn [((.ref (a+1):Value),1)] b f) _ _ _;rw[yb3];refine yac (hf (a+1) m 1 vs _ _ _ (by omega) (by omega) rfl (k1 _ _ (by omega) (by omega) J) u (h2.at fun o e=>k1 _ o (by omega) (by omega) e) (ziH hv fun o e=>k1 _ o (by omega) (by omega) e) I (fun y g2 h D t v j k2=>?_) (fun e h' B i k2=>U (.inr e) h' B i fun d o p q=>k2 d o (by omega) (by omega) (k1 d o (by omega) (by omega) q)));exact yak (hQ x y g2 h F D t (z.at fun o e=>k2 _ o (by omega) (by omega) e) v (j.trans r) fun d o C p2 p3 e=>k2 d o p3 p2 (k1 d o p3 C e))
theorem ziz{Q:Z5}(hh:A.handled=none)(Z:ZSt a l m k .none s.heap)(hl:l<a)(hm:m<a)(hu:s.heap.IsTuple l us)(hv:s.heap.IsTuple m vs)(hk:k<=us.size)(U:k<=vs.size)
  (hQ:∀x y h' tk,us[k]?=some x->vs[k]?=some y->ZSt a l m (k+1) (rawInt s.heap.objs.size) h'->IsT h' s.heap.objs.size [x,y]->(∀(c:Nat) (o:Obj),(c<a\/a+4<c)->s.heap.get? c=some o->h'.get? c=some o)->Q (.ref s.heap.objs.size) {s with heap:=h',toks:=tk})
  (hE:(k=us.size\/k=vs.size)->∀h' e tk,(∀(c:Nat) (o:Obj),(c<a\/a+4<c)->s.heap.get? c=some o->h'.get? c=some o)->Stops h' e->E (.ref e) {s with heap:=h',toks:=tk}):
  wpAny (model prog w) A (Builtin.«zip.__next__» ⟨[.ref (a+4)],[]⟩) (fun fin s'=>∃v,fin=.done (.ret v)/\Q v s') E s:=by
 obtain⟨G,N,⟨x0,y0,S⟩,h1,h2⟩:=Z;show wpAny _ _ (field (.ref (a+4)) 2 >>= _) _ _ _;refine yac (ybG G rfl (x:=.bool false) rfl ?_);show wpAny _ _ (field (.ref (a+4)) 3 >>= _) _ _ _;refine yac (ybG G rfl (x:=.ref (a+2)) rfl ?_);refine yac (ybU N rfl ?_);show wpAny _ _ (Builtin.SmallTypes.ownedTupleIsFree (.ref (a+4)) >>= _) _ _ _;refine yac ?_;unfold Builtin.SmallTypes.ownedTupleIsFree;refine yac (ybG G rfl (x:=.none) rfl (yak ?_));simp only[yci];refine yac (wpAny_rule ?_);refine yac (ybG G rfl (x:=.ref (a+3)) rfl ?_);refine yac (ycv G (by simp) fun g r C=>?_);replace r:IsZip g (a+4) (a+2) (a+3) .ellipsis:=r;have k₁:∀(c:Nat) (o:Obj),c≠a+4->s.heap.get? c=some o->g.get? c=some o:=fun c o J e=>C.extBut _ _ J e
 refine yac (zpm (a:=a) (l:=l) (m:=m) (k:=k) (us:=us) (vs:=vs) (fun c l n vs os s Q J hb ho G S N hv hk O he=>?_) hl hm r (k₁ _ _ (by omega) S) (h1.at fun o e=>k₁ _ o (by omega) e) (h2.at fun o e=>k₁ _ o (by omega) e) (ziH hu fun o e=>k₁ _ o (by omega) e) (ziH hv fun o e=>k₁ _ o (by omega) e) hk U (fun x y b tk O X i i1 i2 f k₂=>?_) (fun e h' Y tk k'=>hE e h' Y tk fun c o J q=>k' c o J (k₁ c o (by omega) q)))
 ·have D:=zmi (prog:=prog) (w:=w) hh c l (yaB J) vs;refine yac (wpAny_onRaise ?_);show wpAny _ _ (Builtin.SmallTypes.nextOf (.ref c) >>= _) _ _ _
  rcases Nat.lt_or_eq_of_le hk with P|rfl
  ·refine yac (D.item k _ _ _ P ⟨N,hv⟩ fun x b F px I f=>yak ?_);have i:IsT b (a+3) os:=f.extBut _ _ (ya1 hb) S;refine yac (ybU i rfl ?_)
   have V:os.length<=9:=by omega
   refine yac (wpAny_updateSeq i rfl ?_ (by simp;exact yav V (by decide)) (by simp;exact yav V (by decide)));have h:=Heap.SameBut.update b (a+3) (Obj.mapSeq (·.setIfInBounds n x));refine yac (wpAny_letGo (yak (O x _ F px ?_ (I.1.at fun o e=>h.extBut _ _ (yaB hb) e) (h.1.trans f.1) fun d o c1 c2 e=>h.extBut _ _ c1 (f.extBut _ _ c2 e))));show Heap.get? _ (a+3)=_;rw[ycM _ i rfl];simp[Obj.mapSeq]
  ·refine yac (D.done _ _ _ ⟨N,hv⟩ fun b e f hs=>?_);obtain⟨W,H,M⟩:=hs;have j:=f _ _ (show a+4≠c by omega) G
   have R:e≠a+4:=fun x=>by subst x;rw[j]at H;cases H;simp at M
   exact ycv j (by simp) fun L _ h=>he rfl L e _ (fun d o c1 c2 q=>h.extBut _ _ c1 (f _ _ c2 q)) ⟨W,h.extBut _ _ R H,M⟩
 ·refine yac (ybU i rfl ?_);refine yac (wpAny_newTuple ?_ (hsz:=by show(2:Nat)<=_;decide));have j:IsZip b (a+4) (a+2) (a+3) .ellipsis:=k₂ _ _ (by omega) (by omega) (by omega) r;have hsz:b.objs.size=s.heap.objs.size:=f.trans C.1;show wpAny _ _ (Builtin.SmallTypes.ownedTupleHandOut (.ref (a+4)) (.ref b.objs.size) >>= _) _ _ _;refine yac ?_;unfold Builtin.SmallTypes.ownedTupleHandOut;refine yac (ycv (yag _ j) (by simp) fun K t B=>?_);replace t:IsZip K (a+4) (a+2) (a+3) (rawInt b.objs.size):=t;refine ycv t (by simp) fun u p z=>?_
  replace p:IsZip u (a+4) (a+2) (a+3) (rawInt b.objs.size):=p;have lt:a+4<b.objs.size:=yau j;have up:∀(c:Nat) (o:Obj),c≠a+4->b.get? c=some o->u.get? c=some o:=fun c o c1 e=>z.extBut _ _ c1 (B.extBut _ _ c1 (yag _ e))
  have T:IsT u b.objs.size [x,y]:=z.extBut _ _ (ya1 lt) (B.extBut _ _ (ya1 lt) (yaw _ rfl));rw[hsz]at p T;refine yak ⟨_,rfl,?_⟩;show Q (.ref b.objs.size) _;rw[hsz];exact hQ x y u tk O X ⟨p,up _ _ (by omega) (k₂ _ _ (by omega) (by omega) (by omega) (k₁ _ _ (by omega) N)),⟨x,y,up _ _ (by omega) i⟩,i1.at fun o e=>up _ o (by omega) e,i2.at fun o e=>up _ o (by omega) e⟩ T fun c o J e=>up c o (by omega) (k₂ c o (by omega) (by omega) (by omega) (k₁ c o (by omega) e))
def zlC:Meets (Builtin.«zip.__new__» ⟨[.type "zip",.ref l,.ref m],[]⟩) (fun _ R s=>s.heap.IsTuple l us/\s.heap.IsTuple m vs ∧
   ∀h' n,n=s.heap.objs.size->(∀(c:Nat) (o:Obj),s.heap.get? c=some o->h'.get? c=some o)->ZSt n l m 0 .none h'->R (.ok (.ret (.ref (n+4)))) {s with heap:=h'}):=
 .of_wp fun prog w A R s h=>by
  obtain⟨q,g,d,tk,os⟩:=s;obtain⟨f,b,h⟩:=h;have k:=sub_zip;have j:Heap.IsTuple (Shared.heap ⟨q,g,d,tk,os⟩) l us:=f;have i:Heap.IsTuple (Shared.heap ⟨q.push {cls:=.type "tuple_iterator",data:=.fields #[.ref l,.int 0 0]},g,d,tk,os⟩) m vs:=ziH b fun o e=>yag _ e
  wp_walk using yco j,yco i
  refine⟨_,rfl,?_⟩;have p {h:Heap}{o':Obj}{a:Addr}{o:Obj} (e:h.get? a=some o):(h.push o').get? a=some o:=yag _ e
  have u:∀{h:Heap}{o:Obj}{a:Addr},a=h.objs.size->o.isFreed=false->(h.push o).get? a=some o:=fun e r=>by rw[e];exact yaw _ r
  simp only[ya6];exact h _ _ rfl (fun c o e=>p (p (p (p (p e))))) ⟨u (by simp only[ya6]) rfl,p (p (u (by simp only[ya6]) rfl)),⟨_,_,p (u (by simp only[ya6]) rfl)⟩,⟨_,p (p (p (p (u rfl rfl)))),rfl,rfl⟩,⟨_,p (p (p (u (by simp only[ya6]) rfl))),rfl,rfl⟩⟩
end
noncomputable def zFp(a:Nat):List Addr:=(List.range 5).map (a+·)
theorem zdZ{a b:Nat}:b∈zFp a↔a<=b/\b<a+5:=by
 unfold zFp;rw[yaf];exact⟨fun⟨j,c,e⟩=>by rw[ybF]at c;have e:a+j=b:=e;omega,fun⟨h1,h2⟩=>⟨b-a,ybF.mpr (by omega),by show a+(b-a)=b;omega⟩⟩
theorem zhN{a b:Nat}(h:b ∉ zFp a):b<a\/a+4<b:=by rw[zdZ]at h;omega
theorem ZSt.keep{a l m i:Nat}{f:Value}{h h':Heap}(Z:ZSt a l m i f h)(k:∀(c:Nat) (o:Obj),a<=c->c<a+5->h.get? c=some o->h'.get? c=some o):ZSt a l m i f h':=
 ⟨k _ _ (by omega) (by omega) Z.z,k _ _ (by omega) (by omega) Z.ti,let ⟨x,y,e⟩:=Z.to;⟨x,y,k _ _ (by omega) (by omega) e⟩,Z.i1.at fun o e=>k _ o (by omega) (by omega) e,Z.i2.at fun o e=>k _ o (by omega) (by omega) e⟩
section
variable{X:Cx}{pins:Z3}{σ:St}{H:Hp}{s:Shared}
noncomputable def ItZ(l m:Addr):It:=
 ⟨fun i H=>∃xs ys,H l=some (.tup xs)/\H m=some (.tup ys)/\i<xs.length/\i<ys.length,
  fun i H v H'=>∃t x y xs ys,v=.ref t/\H t=none/\H'=upd H t (.tup [x,y])/\H l=some (.tup xs)/\H m=some (.tup ys)/\xs[i]?=some x/\ys[i]?=some y,
  fun i H=>∃xs ys,H l=some (.tup xs)/\H m=some (.tup ys)/\i<=xs.length/\i<=ys.length/\(i=xs.length\/i=ys.length)⟩
def zpn{fp:List Addr}{T:Addr}{h2:Heap}{tk:Nat}{us:List Value}{ys:List V}(I:Inv X pins σ H s)(hf:∀b∈fp,zmE X pins H b)(J:T=s.heap.objs.size)(te:IsT h2 T us)
  (k:∀b o,b ∉ fp->s.heap.get? b=some o->h2.get? b=some o) (r:Vals ys us) (U:us.length<=9):Inv X pins σ (upd H T (.tup ys)) {s with heap:=h2,toks:=tk}/\H T=none:=by
 have fr:H T=none:=by rw[J];exact I.hok.fresh (yai _)
 refine⟨?_,fr⟩;have e:Inv X pins σ H {s with heap:=h2,toks:=tk}:=I.turnedL (ch:=fp) (fun b o hb q=>k b o hb q) hf;refine e.track fr (by rw[J];exact I.sz) (by rw[J];exact ya1 I.lt) (fun z c q=>?_) (fun p a=>?_) ?_
 ·obtain⟨v,d⟩:=I.cell z c q;rw[J];exact yaB d.lt
 ·rw[J];exact yaB (yau (I.pin p a).1)
 ·exact⟨yav (r.length ▸ U) (by decide),us,r,_,te,rfl,_,rfl,rfl⟩
theorem zmL{P:Program}{w:World}{K:PySem.W.Frag}{elts:List Expr}{x1:Nat}{pos:Pos}{a l m:Nat}(hl:l<a)(hm:m<a):
  Turn P w K (.Tuple elts x1 pos) (ItZ l m) (zFp a) (a+4) (fun i h=>ZSt a l m i .none h)where
 mem:=zdZ.mpr (by omega)
 obj:=fun i h st b hb=>by
  obtain⟨hz,hI,⟨x,y,hO⟩,⟨o1,Y,_,d1⟩,⟨o2,e2,_,d2⟩⟩:=st;obtain⟨h1,h2⟩:=zdZ.mp hb;obtain⟨j,rfl⟩:∃j,b=a+j:=⟨b-a,(Nat.add_sub_cancel' h1).symm⟩
  match j,h2 with
  |0,_=>exact⟨_,Y,fun v e=>by rw[d1]at e;cases e⟩
  |1,_=>exact⟨_,e2,fun v e=>by rw[d2]at e;cases e⟩
  |2,_=>exact⟨_,hI,fun v e=>by cases e⟩
  |3,_=>exact⟨_,hO,fun v e=>by cases e⟩
  |4,_=>exact⟨_,hz,fun v e=>by cases e⟩
  |j+5,h=>omega
 keep:=fun i h h' st k=>st.keep fun c o c1 c2 e=>k _ (zdZ.mpr ⟨c1,c2⟩) _ e
 item:=by
  intro X U N V n i pins s σ H E I hf st Q;subst U N V;obtain⟨xs,ys,g1,g2,hi,O⟩:=Q;obtain⟨us,f,t1,_⟩:=I.tuple (SqT.of g1);obtain⟨vs,d,B,_⟩:=I.tuple (SqT.of g2);have p:s.TypeIs (.ref (a+4)) "zip":=⟨_,st.z,rfl⟩;unfold pyNext
  refine yac (wpAny_attempt (ybf (name:=Str.ofString "__next__") p ycX (ybz ycX p F.entry_zip_next
   (ziz (A:=X.A.in1) (I.ok.hd n) st hl hm t1 B (by rw[yam,<-f.length];exact ycH hi) (by rw[yam,<-d.length];exact ycH O) (fun x y h' tk u t a1 a4 a5=>yak ?_)
    (fun e=>by rw[yam,yam,<-f.length,<-d.length]at e;omega)) (F.args_zip_next_1 _))))
  have C:a+4<s.heap.objs.size:=yau st.z;refine⟨_,rfl,wpAny_letOwnedTupleGo_zip a1.z fun r D Z=>?_⟩;have g:∀(c:Nat) (o:Obj),c≠a+4->h'.get? c=some o->r.get? c=some o:=fun c o n e=>(Z.2 c n).trans e
  obtain⟨x',M,L⟩:=f.get (yal hi);obtain⟨y',J,G⟩:=d.get (yal O);rw[List.getElem?_toArray,M]at u;cases u;rw[List.getElem?_toArray,J]at t;cases t;obtain⟨I2,fr⟩:=zpn (tk:=tk) (h2:=r) I hf rfl (g _ _ (ya1 C) a4) (fun b o hb q=>g b o (by have:=zhN hb;omega) (a5 b o (zhN hb) q)) (.cons L (.cons G .nil)) (by simp);refine⟨.ref s.heap.objs.size,_,I2,rfl,⟨_,_,_,xs,ys,rfl,fr,rfl,g1,g2,yal hi,yal O⟩,⟨D,g _ _ (by omega) a1.ti,let ⟨x,y,e⟩:=a1.to;⟨x,y,g _ _ (by omega) e⟩,a1.i1.at fun o e=>g _ o (by omega) e,a1.i2.at fun o e=>g _ o (by omega) e⟩,fun b hb=>?_⟩;rw[zab (fun e=>by have:=(zdZ.mp (e ▸ hb)).2;omega)];exact(hf b hb).1
 done:=by
  intro X U N V n i pins s σ H E I hf st Q;subst U N V;obtain⟨xs,ys,g1,g2,h1,h2,hi⟩:=Q;obtain⟨us,f,t1,_⟩:=I.tuple (SqT.of g1);obtain⟨vs,d,B,_⟩:=I.tuple (SqT.of g2);have p:s.TypeIs (.ref (a+4)) "zip":=⟨_,st.z,rfl⟩;unfold pyNext
  refine yac (wpAny_attempt (ybf (name:=Str.ofString "__next__") p ycX (ybz ycX p F.entry_zip_next
   (ziz (A:=X.A.in1) (I.ok.hd n) st hl hm t1 B (by rw [yam,<-f.length];exact h1) (by rw [yam,<-d.length];exact h2) (fun x y h' tk u t=>by
     have Y:=(ybx.mp u).1;have e2:=(ybx.mp t).1;rw[yam,<-f.length]at Y;rw[yam,<-d.length]at e2
     omega) (fun _ h' e tk hk R=>?_)) (F.args_zip_next_1 _))))
  obtain⟨o,ho,S⟩:=R;refine yac (wpAny_isInstance (T:="StopIteration") (b:=true) ⟨o,ho,S⟩ isSubtype_stop ?_);exact yak ⟨rfl,I.turnedL (ch:=zFp a) (fun b o hb q=>hk b o (zhN hb) q) hf⟩
 self:=fun _ _ _ _ _ st h=>wpAny_pyIter_zip st.z h
theorem zog:bootBuiltins "zip"=some (.type "zip"):=by decide +kernel
def zrB(I:Inv X pins σ H1 s1)(g1:H1 l=some (.tup xs))(g2:H1 m=some (.tup ys))(q:R (ItZ l m) H1):
  wpAny (model X.prog X.w) X.A (call (.type "zip") [.ref l,.ref m]) (fun v s2=>wpAny (model X.prog X.w) X.A (pyIter v) (PIE X pins σ (.Tuple elts J U) R) X.xe s2) X.xe s1:=by
 obtain⟨us,g,t1,_⟩:=I.tuple (SqT.of g1);obtain⟨vs,f,d,_⟩:=I.tuple (SqT.of g2);refine callType_new F.called_zip (by decide) (F.typeCall_zip_2 _ _) (F.newCall_zip_2 _ _) (fun o=>F.args_object_init_3 o _ _) F.entry_zip_new zlC ⟨t1,d,fun h' n b hk Z=>?_⟩;refine⟨⟨_,Z.z,rfl⟩,wpAny_pyIter_zip Z.z ?_⟩;refine⟨n+4,zFp n,_,_,H1,rfl,I.kept (t':=s1.toks) hk,zmL ?_ ?_,Z,fun c hb=>?_,q⟩
 ·obtain⟨o,a,_⟩:=t1;rw[b];exact yau a
 ·obtain⟨o,a,_⟩:=d;rw[b];exact yau a
 ·have e:s1.heap.objs.size<=c:=b ▸ (zdZ.mp hb).1;exact I.fpOk e (I.hok.fresh e)
end
end L2
namespace S2
open PySem PySem.Spec PyProof.Rows L2
section
variable{X:Cx}{cl:Cf}{E:St->XK}{e tg:Expr}{f:Fe}{own:Bool}{pos pos':Pos}
noncomputable def zgB:List D->List D->List D
 |x::xs,y::ys=>.tup [x,y]::zgB xs ys|_,_=>[]
theorem ziA:∀(xs ys:List D),(zgB xs ys).length=min xs.length ys.length
 |[],_=>by simp[zgB]
 |_::_,[]=>by simp[zgB]
 |_::xs,_::ys=>by simp[zgB,ziA xs ys]
theorem ziB:∀{xs ys:List D}{i:Nat}{d:D},(zgB xs ys)[i]?=some d->∃x y,xs[i]?=some x/\ys[i]?=some y/\d=.tup [x,y]
 |[],_,_,_,h=>by simp[zgB]at h
 |_::_,[],_,_,h=>by simp[zgB]at h
 |x::xs,y::ys,0,d,h=>by
  simp only[zgB,List.getElem?_cons_zero,Option.some.injEq]at h;exact⟨x,y,rfl,rfl,h.symm⟩
 |x::xs,y::ys,i+1,d,h=>by
  simp only[zgB,ycw]at h ⊢;exact ziB h
def zry(f g:Fe):Fi:=fun ρ S=>(zap [f,g] ρ S).bind fun ds S1=>match ds with|[.tup l,.tup k]=>.ok (zgB l k) S1|_=>.bad
theorem ztG(h1:∀w',Fut w w'->w'.H l1=some (.tup xs))(h2:∀w',Fut w w'->w'.H J=some (.tup ys))(I:Shds cl w xs ds)(r2:Shds cl w ys es):ItOk cl w (ItZ l1 J) (zgB ds es):=by
 have q:=I.length;have e2:=r2.length;have p:=ziA ds es;refine⟨fun b a i hi=>⟨xs,ys,h1 b a,h2 b a,by omega,by omega⟩,fun b a=>⟨xs,ys,h1 b a,h2 b a,by omega,by omega,by omega⟩,fun b a i d x H1 hd y=>?_⟩;obtain⟨t,v1,v2,k,j,rfl,h,rfl,g1,g2,m,l⟩:=y;obtain⟨o,n,e,c,rfl⟩:=ziB hd;cases (h1 b a).symm.trans g1;cases (h2 b a).symm.trans g2;obtain⟨s,g,s1⟩:=I.get m;obtain⟨r,f,s2⟩:=r2.get l;rw[e]at g;cases g;rw[c]at f;cases f;exact⟨b.add t _,rfl,zaw h _,Shd.newT h (.cons (s1.up a) (.cons (s2.up a) .nil))⟩
def zr3(U:Gl X "zip")(hm:X.mg "zip"=none)(ha:PA X [a,e] (tAs cl E [fa,f]))(hs:starEach [a,e] X.env=(false,eval a X.env)::starEach [e] X.env)(J:(backTo pos (starEach [e] X.env)).any (·.1)=false):PI X (.Tuple es kk tp) (.Call (.Name "zip" p) [a,e] [] pos) (tI cl E (zry fa f)):=by
 intro pins s σ H o I q;refine Call_ (zhd I U hm L2.zog (yb2 (thn (ha pos pins s σ H (fun vs H1=>∃l m xs ys,vs=[.ref l,.ref m]/\H1 l=some (.tup xs)/\H1 m=some (.tup ys)/\o (ItZ l m) H1) I ?_) fun us s1 ⟨vs,H1,r,b,i⟩=>?_) hs J))
 ·obtain⟨B,w,ρ,S,rfl,R,q⟩:=q;refine⟨B,w,ρ,S,rfl,R,?_⟩;dsimp only[zry]at q
  cases hf:zap [fa,f] ρ S with
  |bad=>rw[hf]at q;exact q.elim|exc c S1=>rwa[hf]at q|ok ds S1=>
   rw[hf]at q;dsimp only[Out.bind]at q;intro vs w' R2 t sh
   have j:(∃l k,ds=[.tup l,.tup k])\/(match ds with|[.tup l,.tup k]=>Out.ok (zgB l k) S1|_=>.bad)=.bad:=by
    split
    ·exact .inl ⟨_,_,rfl⟩
    ·exact .inr rfl
   rcases j with⟨l,k,rfl⟩|e
   ·cases sh with
    |cons h1 h2=>
     cases h2 with
     |cons h2 n=>
      cases n
      cases h1 with
      |tup g k1 b=>
       cases h2 with
       |tup e2 k2 r2=>
        exact⟨_,_,_,_,rfl,(Fut.refl w').keep _ _ g k1 |>.1,(Fut.refl w').keep _ _ e2 k2 |>.1,q _ w' R2 t (ztG (fun h d=>(d.keep _ _ g k1).1) (fun h d=>(d.keep _ _ e2 k2).1) b r2)⟩
   ·rw[e]at q;exact q.elim
 ·obtain⟨l,m,xs,ys,rfl,g1,g2,q⟩:=i
  cases b with
  |cons a1 b=>
   cases b with
   |cons a2 b=>cases b;cases a1;cases a2;exact zrB r g1 g2 q
def zk1(i:Nat)(fe:Fe):Fs:=fun ρ S=>match ρ[i]? with
 |some (some (true,.lst l))=>(match fe ρ S with
  |.ok (.lst k) S'=>if zau (l.length+k.length)then .nx (ρ.set i (some (true,.lst (l++k)))) S' else .bad
  |.ok _ _=>.bad|.exc c S'=>.ex c ρ S'|.bad=>.bad)
 |_=>.bad
def zrZ{i:Nat}{x:Str}{ap cp:Pos}(hN:X.N[i]?=some x)(hv:Vis X.env.scope x)(hd:(x==("__debug__":Str))=false)(hcd:(x==("__classdict__":Str))=false)(he:PE X e (tH cl E f))
  (af:zbi e=true) (I:(ap.endLine==cp.line)=true):PS X (.Expr (.Call (.Attribute (.Name x pos') "extend" ap) [e] [] cp) pos) (tS cl E own (zk1 i f)):=by
 refine PS.imp (zd3 (zjW (es:=[]) ybg PySem.F.slot_list_extend PySem.F.type_list_extend zly (zaT hN hv hd hcd) (za2 he zbU (za4 af)) (hfew:=ze9 (by simp[af]) (by simp)) (aj:=I) (hs:=za4 af) (aq:=rfl))) ?_;rintro z σ H ⟨B,w,ρ,S,rfl,R,q⟩;unfold zk1 at q;split at q
 ·rename_i l u;obtain⟨a,xs,p,h1,h2,t⟩:=R.list u;refine⟨_,p,.inl ⟨rfl,_,SqL.of h2⟩,B,w,ρ,S,rfl,R,?_⟩
  cases hf:f ρ S with
  |bad=>rwa[hf]at q|exc c S1=>rw[hf]at q;exact fun w' m r=>q σ w' m r|ok d S1=>
   rw[hf]at q;intro v w' m r h'
   cases d with
   |lst k=>
    dsimp only at q
    cases n:zau (l.length+k.length)with
    |false=>rw[n,if_neg (by decide)]at q;exact q.elim
    |true=>
     rw[n,if_pos rfl]at q;obtain⟨a',g,j,h,o,t'⟩:=m.list u;rw[p]at j;cases j;obtain⟨b,zs,rfl,y,s⟩:=(h'.top m).lstI;refine⟨a,b,g,zs,rfl,rfl,o,y,by rw[t'.length,s.length];exact zaI n,?_⟩;exact q σ (w'.mut a (.lst (g++zs))) (m.mut (d0:=.non) p h (.lst (t'.append s))) (r.trans (zdx (by rw[h];exact yaF _)))
   |_=>exact q.elim
 ·exact q.elim
end
section
variable{X:Cx}{cl:Cf}{E:St->XK}{e:Expr}{f:Fe}{pos':Pos}
def eMt(g:List D->D->Option D)(i:Nat)(f:Fe):Fe:=fun ρ S=>match ρ[i]? with|some (some (_,.lst l))=>(f ρ S).bind fun d S1=>Out.of (g l d) S1|_=>.bad
def zfK(l:List D)(d:D):Option D:=if d.fit 8&&D.fits 8 l then some (.int ((l.countP (zf6 · d):Nat):Int))else none
def zfF(l:List D)(d:D):Option D:=if d.fit 8&&D.fits 8 l&&decide (l.length<=1000000)&&zlB d l then some (.int ((l.findIdx (zf6 · d):Nat):Int))else none
def Rel.lstAny{B:Base}{σ:St}{w:Wd}{ρ:Env}{S:Sto}{i:Nat}{o:Bool}{l:List D}(R:Rel cl B σ w ρ S)(h:ρ[i]?=some (some (o,.lst l))):∃a xs,σ[i]?=some (some (.ref a))/\w.H a=some (.lst xs)/\Shds cl w xs l:=by
 cases o with
 |true=>obtain⟨a,xs,b,_,h2,t⟩:=R.list h;exact⟨a,xs,b,h2,t⟩|false=>
  obtain⟨v,b,sh⟩:=R.slots i false _ h
  cases sh with
  |lst c k r=>exact⟨_,_,b,c,r⟩
noncomputable def MtB(X:Cx)(cl:Cf)(id:String)(g:List D->D->Option D):Prop:=MtM X id fun x vs H Q=>∃(a:Addr) (xs:List V) (l:List D) (w:Wd) (d:D) (v:V) (r:Int),w.H=H/\x=.ref a/\vs=[v]/\w.H a=some (.lst xs)/\Shds cl w xs l/\TopV cl w v d/\g l d=some (.int r)/\Q (.int r) H
theorem zeq{s:Shared}{d:D}:∀{aa:List Value}{ds:List D}{as:List Addr},ReadsAll s.heap aa (D.pys ds) as->D.fits 8 ds=true->aa.countP (fun y=>(SeqAt.readOf s.heap y).eqv d.py)=ds.countP (zf6 · d)
 |[],[],_,_,_=>rfl|[],_::_,_,h,_=>by cases h
 |_::_,[],_,h,_=>by cases h
 |v::aa,e::ds,_,h,f=>by
  simp only[D.fits,yaa]at f
  cases h with
  |cons h1 h2=>
   rw[List.countP_cons,List.countP_cons,zeq h2 f.2,zhY (D.lay f.1).1 h1];rfl
theorem zd7{s:Shared}{d:D}:∀{aa:List Value}{ds:List D}{as:List Addr},ReadsAll s.heap aa (D.pys ds) as->D.fits 8 ds=true->∀(m:Nat) (hm:m<aa.length),∃e,ds[m]?=some e/\(SeqAt.readOf s.heap aa[m]).eqv d.py=zf6 e d
 |[],_,_,_,_,m,hm=>by simp at hm
 |_::_,[],_,h,_,_,_=>by cases h
 |v::aa,e::ds,_,h,f,m,hm=>by
  simp only[D.fits,yaa]at f
  cases h with
  |cons h1 h2=>
   cases m with
   |zero=>exact⟨e,rfl,by show(SeqAt.readOf s.heap v).eqv d.py=_;rw[zhY (D.lay f.1).1 h1];rfl⟩
   |succ m=>
    obtain⟨c,b,a⟩:=zd7 h2 f.2 m (by simpa using hm);exact⟨c,by simpa using b,by simpa using a⟩
theorem zfz{s:Shared}:∀{aa:List Value}{ds:List D}{as:List Addr},ReadsAll s.heap aa (D.pys ds) as->aa.length=ds.length
 |[],[],_,_=>rfl|[],_::_,_,h=>by cases h
 |_::_,[],_,h=>by cases h
 |_::aa,_::ds,_,h=>by
  cases h with
  |cons _ h2=>rw[yad,yad,zfz h2]
def znE(J:X.K=cl.K)(U:X.A.units+64<cLine):MtB X cl "list.count" zfK:=by
 intro pins s σ H x vs v us Q I f g h;obtain⟨a,xs,l,w,d,o,r,rfl,rfl,rfl,m,sh,tv,b,q⟩:=h;unfold zfK at b;split at b
 ·rename_i hf;cases b;rw[yaa]at hf;cases f;obtain⟨u,rfl,i⟩:=g.one;obtain⟨bs,j⟩:=zhZ I J tv hf.1 i;obtain⟨z,aa,n,r,p,e⟩:=I.lstM m;obtain⟨as,c⟩:=zeM I J sh hf.2 r;refine ybM F.slot_list_count ⟨_,e,rfl⟩ F.entry_list_count (F.args_list_count_2 _ _) (SeqAt.list_countAt a _ n none #[] u (fun y=>(SeqAt.readOf s.heap y).eqv d.py)) ⟨e,fun y k=>zdR U j hf.1 c hf.2 y k,?_⟩;rw[zeq c hf.2];exact⟨.int _,w.H,I.tok _,⟨_,rfl⟩,q⟩
 ·cases b
theorem znD(J:X.K=cl.K)(U:X.A.units+64<cLine):MtB X cl "list.index" zfF:=by
 intro pins s σ H x vs v us Q I j k h;obtain⟨a,xs,l,w,d,E,r,rfl,rfl,rfl,C,sh,tv,f,q⟩:=h;unfold zfF at f;split at f
 ·rename_i hf;cases f;simp only[yaa,yaA]at hf;obtain⟨⟨⟨f1,f2⟩,L⟩,i⟩:=hf;cases j;obtain⟨u,rfl,o⟩:=k.one;obtain⟨bs,p⟩:=zhZ I J tv f1 o;obtain⟨z,aa,n,r,G,e⟩:=I.lstM C;obtain⟨as,c⟩:=zeM I J sh f2 r;have hlen:=zfz c
  have b:l.findIdx (zf6 · d)<l.length:=by
   rw[List.findIdx_lt_length];unfold zlB at i;rwa[List.any_eq_true]at i
  refine ybM F.slot_list_index ⟨_,e,rfl⟩ F.entry_list_index (F.args_list_index_2 _ _) (SeqAt.list_indexAt a _ n none #[] u (fun y=>(SeqAt.readOf s.heap y).eqv d.py) (l.findIdx (zf6 · d)) (by rw[yam];omega) (by omega) ?_ ?_) ⟨e,fun y B=>zdR U p f1 c f2 y B,?_⟩
  ·obtain⟨D,h1,h2⟩:=zd7 (d:=d) c f2 (l.findIdx (zf6 · d)) (by omega);simp only[List.getElem_toArray];rw[h2];rw[yal b]at h1;cases h1;exact List.findIdx_getElem (w:=b)
  ·intro m hm g
   have t:m<aa.length:=by rwa[yam]at hm
   obtain⟨D,h1,h2⟩:=zd7 (d:=d) c f2 m t;simp only[List.getElem_toArray];rw[h2];rw[yal (by omega)]at h1;cases h1;exact List.not_of_lt_findIdx g
  ·exact⟨.int _,w.H,I.tok _,⟨_,rfl⟩,q⟩
 ·cases f
def zsc{id:String}{ap cp:Pos}(slot:Slot "list" name id)(I:typeOf (.builtin id)=pure (.type "method_descriptor"))(hm:MtB X cl id g)(U:∀l d r,g l d=some r->∃n,r=.int n)
  (hN:X.N[i]?=some x) (hv:Vis X.env.scope x) (hd:(x==("__debug__":Str))=false) (hcd:(x==("__classdict__":Str))=false) (he:PE X e (tH cl E f)) (af:zbi e=true) (J:(ap.endLine==cp.line)=true):
  PE X (.Call (.Attribute (.Name x pos') name ap) [e] [] cp) (tE cl E (eMt g i f)):=by
 refine PE.imp (zjW (es:=[]) ybg slot I hm (zaT hN hv hd hcd) (zkQ he zoA (za4 af)) (hfew:=ze9 (by simp[af]) (by simp)) (aj:=J) (hs:=za4 af) (aq:=rfl)) ?_;rintro σ H Q ⟨B,w,ρ,S,rfl,R,q⟩
 have key:(∃o l,ρ[i]?=some (some (o,.lst l)))\/eMt g i f ρ S=.bad:=by
  unfold eMt;split
  ·rename_i o l b;exact .inl ⟨o,l,b⟩
  ·exact .inr rfl
 rcases key with⟨o,l,b⟩|hb
 ·have v:eMt g i f ρ S=(f ρ S).bind fun d S1=>Out.of (g l d) S1:=by unfold eMt;rw[b]
  rw[v]at q;obtain⟨a,xs,s,h2,t⟩:=R.lstAny b;refine⟨_,s,.inl ⟨rfl,_,SqL.of h2⟩,B,w,ρ,S,rfl,R,?_⟩
  cases hf:f ρ S with
  |bad=>rw[hf]at q;exact q.elim|exc c S1=>
   rw[hf]at q;simp only[zap,hf,Out.bind];exact q
  |ok d S1=>
   rw[hf]at q;simp only[zap,hf,Out.bind];intro vs w' p y sh;dsimp only[Out.bind]at q
   cases j:g l d with
   |none=>rw[j]at q;exact q.elim|some r=>
    rw[j]at q;obtain⟨n,rfl⟩:=U l d r j;obtain⟨a',k,h,m,t'⟩:=p.lstAny b;rw[s]at h;cases h
    cases sh with
    |cons h1 u=>
     cases u;exact⟨a,k,l,w',d,_,n,rfl,rfl,rfl,m,t',h1.top p,j,q _ w' p y (.int _)⟩
 ·rw[hb]at q;exact q.elim
end
noncomputable def zkp(g:Str->Str->Option Bool)(C:Str):D->Option D
 |.exc c=>(g c C).map .bl|_=>none
noncomputable def clsV(cl:Cf)(C:Str):Value:=if C="ValueError"then .type "ValueError"else .ref (cl C)
section
variable{X:Cx}{cl:Cf}{E:St->XK}{own:Bool}{e:Expr}{f fe:Fe}{pos pos':Pos}
def Shd.excI{w:Wd}{v:V}{c:Str}(h:Shd cl w v (.exc c)):∃a ob,v=.ref a/\w.H a=some (.frz ob (.own a))/\ob.cls=.ref (cl c):=by
 cases h with
 |exc h1 _ h2=>exact⟨_,_,rfl,h1,h2⟩
theorem TopV.excI{w:Wd}{v:V}{c:Str}(h:TopV cl w v (.exc c)):∃a ob,v=.ref a/\w.H a=some (.frz ob (.own a))/\ob.cls=.ref (cl c):=by
 cases h with
 |sh h=>exact h.excI|ow _ t=>cases t
theorem zkc:bootBuiltins "ValueError"=some (.type "ValueError"):=by decide +kernel
def zoB{g:Str->Str->Option Bool}{C:Str}{vC:V}{p p2:Pos}(J:Gl X "isinstance")(hm:X.mg "isinstance"=none)(U:PE X (.Name C p2) (tC vC))(hv:∀u,zaZ vC u->u=clsV cl C)
  (hk:∀c b,g c C=some b->PySem.W.ExcCls X.K (cl c)/\PySem.W.kitOne X.K (.ref (cl c)) (clsV cl C)=some b) (I:zbi e=true) (he:PE X e (tH cl E f)):
  PE X (.Call (.Name "isinstance" p) [e,.Name C p2] [] pos) (tE cl E (eUn (zkp g C) f)):=by
 refine PE.imp (zcJ zkb J hm zhA (za2 he (za2 U zbU rfl) (za4 I)) (he:=za4 I) (af:=rfl)) ?_;rintro σ H Q ⟨B,w,ρ,S,rfl,R,q⟩;refine⟨B,w,ρ,S,rfl,R,?_⟩;unfold eUn at q
 cases hf:f ρ S with
 |bad=>rwa[hf]at q|exc c S1=>rwa[hf]at q|ok d S1=>
  rw[hf]at q;intro v i h k h1;dsimp only[Out.bind]at q
  cases d with
  |exc c=>
   dsimp only[zkp]at q
   cases hb:g c C with
   |none=>rw[hb]at q;exact q.elim|some b=>
    rw[hb]at q;obtain⟨k1,k2⟩:=hk c b hb;obtain⟨a,ob,rfl,h2,j⟩:=(h1.top h).excI;exact⟨a,_,ob,vC,_,b,rfl,h2,j,k1,hv,k2,q _ i h k (.bl _)⟩
  |_=>exact q.elim
noncomputable def OpN(X:Cx)(cl:Cf)(op:Value->Value->Sem Value)(g:D->D->Option D):Prop:=OpR X op fun x y H Q=>∃w d e r,w.H=H/\TopV cl w x d/\TopV cl w y e/\g d e=some r/\∀p o w',Grow w w'->w'.H p=none->Top cl w' o r->Q (.ref p) (upd w'.H p o)
def zyr{a b:Expr}{h:Fe}{I:D->D->Option D}{r2:R2}(J:∀x y H Q,(∃w d e r,w.H=H/\TopV cl w x d/\TopV cl w y e/\I d e=some r/\∀p o w',Grow w w'->w'.H p=none->Top cl w' o r->Q (.ref p) (upd w'.H p o))->r2 x y H Q)(σ:St)(H:Hp)(Q:VK)(q:tN cl E (zaf I f h) σ H Q):tOp r2 (tH cl E f) (tH cl E h) σ H Q:=by
 obtain⟨B,w,ρ,S,rfl,R,q⟩:=q;refine⟨B,w,ρ,S,rfl,R,?_⟩;unfold zaf at q
 cases hf:f ρ S with
 |bad=>rwa[hf]at q|exc c S1=>rwa[hf]at q|ok d S1=>
  rw[hf]at q;intro v n u m h1;refine⟨B,n,ρ,S1,rfl,u,?_⟩;dsimp only[Out.bind]at q
  cases j:h ρ S1 with
  |bad=>rwa[j]at q|exc c S2=>rw[j]at q;exact fun i R2 g=>q i R2 (m.trans g)|ok e S2=>
   rw[j]at q;intro y i R2 g h2;dsimp only at q
   cases k:I d e with
   |none=>rw[k]at q;exact q.elim|some r=>
    rw[k]at q;exact J _ _ _ _ ⟨i,d,e,r,rfl,(h1.up g).top R2,h2.top R2,k,fun p o w' l s t=>q p o w' (R2.grow l) (m.trans (g.trans l.fut)) s t⟩
noncomputable def zjZ:D->D->Option D
 |.lst a,.int j=>if decide (0<=j/\j<=1000/\a.length<=1000)then some (.lst (List.replicate j.toNat a).flatten)else none
 |_,_=>none
def zqy:OpN X cl (binaryOp .Mult) zjZ:=by
 intro pins s σ H x y v u Q I g f h;obtain⟨w,d,e,r,rfl,n,m,b,q⟩:=h;unfold zjZ at b;split at b
 ·rename_i a j;split at b
  ·rename_i k;cases b;have i:=yah k;obtain⟨p,xs,rfl,o,rs⟩:=n.lstI;obtain rfl:=m.intI;have c:=rs.length;refine zsR pins s σ w.H _ _ v u Q I g f ⟨p,j,xs,rfl,rfl,o,by omega,by omega,?_,fun l c=>q l _ w (Grow.refl _) c (.lst (rs.flat _))⟩;refine yav (yc7 (show xs.length<=1000 by omega) (show j.toNat<=1000 by omega)) (by decide)
  ·cases b
 ·cases b
def zpY(I:PE X a (tH cl E f))(hb:PE X b (tH cl E h)):PE X (.BinOp a .Mult b pos) (tN cl E (zaf zjZ f h)):=
 PE.imp (zsF zqy I hb) (zyr (a:=a) (b:=b) fun _ _ _ _ z=>z)
end
end S2
namespace PySem.F
end PySem.F
namespace L2
open PySem PySem.Spec PyProof.Rows
end L2
namespace PySem.F
end PySem.F
namespace L2
open PySem PySem.Spec PyProof.Rows
end L2
namespace S2
open PySem PySem.Spec PyProof.Rows L2
section
variable{X:Cx}{cl:Cf}{E:St->XK}{e:Expr}{f:Fe}{pos:Pos}
noncomputable def znL:D->Option (List Int)|.tup l=>zeo l|_=>none
def keysOf:List D->Option (List (List Int))
 |[]=>some []|d::l=>(znL d).bind fun k=>(keysOf l).bind fun ks=>some (k::ks)
def zdu:D->Option D|.tup l=>(keysOf l).bind fun ks=>if decide (ks.length<=18)then some (.int (ST.ddN ks))else none|_=>none
theorem zlM{K:PySem.W.Frag}{w:Wd}:∀{xs:List V}{ds:List D}{ks:Z2},Shds cl w xs ds->keysOf ds=some ks->zhJ K w.H xs ks
 |_,_,ks,.nil,h=>by cases h;exact .nil
 |_,_,ks,.cons r t,h=>by
  unfold keysOf at h;rename_i v d vs ds'
  cases hk:znL d with
  |none=>rw[hk]at h;cases h|some k=>
   rw[hk]at h;dsimp only[Option.bind]at h
   cases a:keysOf ds' with
   |none=>rw[a]at h;cases h|some b=>
    rw[a]at h;cases h;refine .cons ?_ (zlM t a)
    cases r with
    |tup c _ rs=>
     have:zeo _=some k:=hk;obtain rfl:=zl0 rs this;exact⟨_,rfl,SqT.of c⟩
    |_=>cases hk
theorem zkU{p p2 I:Pos}(hc:X.calm=true)(hu:X.A.units+8<cLine)(hg:Gl X "len")(hm:X.mg "len"=none)(U:Gl X "set")(J:X.mg "set"=none)(he:PE X e (tE cl E f))(hs:starEach [e] X.env=[(false,eval e X.env)]):
  PE X (.Call (.Name "len" p) [.Call (.Name "set" p2) [e] [] I] [] pos) (tE cl E (eUn zdu f)):=by
 refine PE.imp (zcJ zgw hg hm PySem.boot_len (za2 (zeN (zfu hc hu) U J (by decide +kernel) (zaR he zek hs) (he:=hs) (af:=rfl)) zbU)) ?_;rintro σ H Q ⟨B,w,ρ,S,rfl,R,q⟩;refine⟨B,w,ρ,S,rfl,R,?_⟩;unfold eUn at q
 cases hf:f ρ S with
 |bad=>rw[hf]at q;exact q.elim|exc c S1=>rw[hf]at q;simp only[zap,hf,Out.bind];exact q|ok d S1=>
  rw[hf]at q;simp only[zap,hf,Out.bind];intro vs g j m sh;dsimp only[Out.bind]at q
  cases d with
  |tup l=>
   cases hk:keysOf l with
   |none=>simp[zdu,hk,Out.of]at q|some ks=>
    by_cases a:ks.length<=18
    ·simp only[zdu,hk,Option.bind,a,decide_true,yci]at q
     cases sh with
     |cons h1 h=>
      cases h
      cases h1 with
      |tup i k r=>
       refine⟨_,_,ks,rfl,SqT.of i,zlM r hk,a,fun l b=>?_⟩;have hd:=ST.zwg a;refine⟨l,_,rfl,zao,by omega,?_⟩;exact q _ (g.add l (.ext (zjD l (ST.ddN ks)))) (j.grow (zaw b _)) (m.trans (zaw b _).fut) (.int _)
    ·simp[zdu,hk,a,Out.of]at q
  |_=>exact q.elim
end
noncomputable def zjU(f:Str)(o:Bool)(d:D):List (Str×Bool×D)->List (Str×Bool×D)
 |[]=>[(f,o,d)]|(g,x)::r=>if g=f then(g,o,d)::r else(g,x)::zjU f o d r
def Ob.put(ob:Ob)(f:Str)(o:Bool)(d:D):Ob:=⟨ob.cls,zjU f o d ob.fs⟩
section
variable{cl:Cf}{w:Wd}{n:Nat}
def zcV.len(h:zcV cl w n fs gs):fs.length=gs.length:=Paired.length h
def zcV.look(h:zcV cl w n fs gs)(e:gs.lookup f=some (o,d)):∃v,fs.lookup f=some v/\ziw cl w (.fld n f) o v d:=by
 induction h with
 |nil=>cases e| @cons p q l1 c h t b=>
  obtain⟨h1,h2⟩:=h;obtain⟨g,v⟩:=p;obtain⟨g',o',d'⟩:=q;have a:g=g':=h1;subst a;rw[yaD]at e ⊢
  cases hb:f==g with
  |true=>
   rw[hb]at e;cases e;have:=eq_of_beq hb;subst this;exact⟨v,rfl,h2⟩
  |false=>
   rw[hb]at e;exact b e
def zcV.miss(h:zcV cl w n fs gs)(e:gs.lookup f=none):fs.lookup f=none:=by
 induction h with
 |nil=>rfl| @cons p q l1 c h t b=>
  obtain⟨h1,h2⟩:=h;obtain⟨g,v⟩:=p;obtain⟨g',o',d'⟩:=q;have a:g=g':=h1;subst a;rw[yaD]at e ⊢
  cases hb:f==g with
  |true=>rw[hb]at e;cases e|false=>rw[hb]at e;exact b e
def zcV.put(h:zcV cl w n fs gs)(I:ziw cl w (.fld n f) o y d):zcV cl w n (zdh f y fs) (zjU f o d gs):=by
 induction h with
 |nil=>exact .cons ⟨rfl,I⟩ .nil| @cons p q l1 c h t e=>
  obtain⟨h1,h2⟩:=h;obtain⟨g,v⟩:=p;obtain⟨g',o',d'⟩:=q;have b:g=g':=h1;subst b;show zcV cl w n (if g=f then(g,y)::l1 else(g,v)::zdh f y l1) (if g=f then(g,o,d)::c else(g,o',d')::zjU f o d c)
  by_cases a:g=f
  ·subst a;rw[if_pos rfl,if_pos rfl];exact .cons ⟨rfl,I⟩ t
  ·rw[if_neg a,if_neg a];exact .cons ⟨rfl,h2⟩ e
def zcV.keepBut(f:Fut w w')(k:∀a o g,g≠x->w.H a=some o->w.ow a=some (.fld n g)->w'.H a=some o/\w'.ow a=some (.fld n g))(h:zcV cl w n fs gs)(I:∀q∈gs,q.1=x->q.2.1=false):zcV cl w' n fs gs:=by
 induction h with
 |nil=>exact .nil| @cons p q l1 m h t c=>
  obtain⟨h1,h2⟩:=h;refine .cons ⟨h1,?_⟩ (c fun q i=>I q (yaj _ i))
  by_cases b:q.1=x
  ·have j:=I q yao b;rw[j]at h2 ⊢
   rcases h2 with⟨_,h2⟩|⟨e,_⟩
   ·exact .inl ⟨rfl,Shd.up f h2⟩
   ·cases e
  ·exact h2.keep f fun a o l d=>k a o q.1 b l d
def zcV.keepF(f:Fut w w')(k:∀a o g,w.H a=some o->w.ow a=some (.fld n g)->w'.H a=some o/\w'.ow a=some (.fld n g))(h:zcV cl w n fs gs):zcV cl w' n fs gs:=by
 induction h with
 |nil=>exact .nil| @cons p q l1 e h t b=>exact .cons ⟨h.1,h.2.keep f fun a o d c=>k a o q.1 d c⟩ b
variable{B:Base}{σ:St}{ρ:Env}{S:Sto}
def World'.atObj(W:World' cl B w S)(h:S[n]?=some ob)(e:w.mu[n]?=some a):zuq cl w n a ob:=by
 obtain⟨a',b,x⟩:=W.obj n ob h;rw[e]at b;cases b;exact x
def zib(h:(S.set n ob)[m]?=some I):(m=n/\I=ob)\/(m≠n/\S[m]?=some I):=by
 by_cases e:n=m
 ·subst e
  have a:n<S.length:=by
   have:=(yas.mp h).1;rwa[yaP]at this
  rw[yaG a]at h;cases h;exact .inl ⟨rfl,rfl⟩
 ·rw[yaS e]at h;exact .inr ⟨fun z=>e z.symm,h⟩
def Rel.setf(R:Rel cl B σ w ρ S)(hn:S[n]?=some ob)(I:w.mu[n]?=some a)(how:w.ow a=some (.obj n))(hH:w.H a=some (.ins (cl ob.cls) dx fs))(U:zcV cl w n fs ob.fs)(J:Shd cl w y d):
  Rel cl B σ (w.mut a (.ins (cl ob.cls) dx (zdh f y fs))) ρ (S.set n (ob.put f false d))/\Fut w (w.mut a (.ins (cl ob.cls) dx (zdh f y fs))):=by
 have j:=zdx (w:=w) (p:=a) (o:=.ins (cl ob.cls) dx (zdh f y fs)) (by rw[how];exact yaF _)
 have kp:∀b u,w.H b=some u->w.ow b≠some (.obj n)->(w.mut a (.ins (cl ob.cls) dx (zdh f y fs))).H b=some u/\(w.mut a (.ins (cl ob.cls) dx (zdh f y fs))).ow b=w.ow b:=fun b u hb c=>⟨by
  show upd w.H a _ b=_
  rw[zab (fun z=>c (by rw[z];exact how))];exact hb,rfl⟩
 have r:B.Fr a=none:=(R.wd.own a _ how).elim (fun z=>by cases z) fun z=>z
 refine⟨⟨⟨fun b u h=>?_,R.wd.own,by rw[yaP];exact R.wd.len,fun m k h=>?_,R.wd.tab.keep j fun P ps h1 h2=>⟨(kp P _ h1 (by rw[h2];simp)).1,(kp P _ h1 (by rw[h2];simp)).2.trans h2⟩⟩,R.len,fun i o e h=>?_⟩,j⟩
 ·refine⟨?_,(R.wd.fr b u h).2⟩;show upd w.H a _ b=_;rw[zab (fun z=>by rw[z,r]at h;cases h)];exact(R.wd.fr b u h).1
 ·rcases zib h with⟨rfl,rfl⟩|⟨c,h⟩
  ·refine⟨a,I,how,dx,_,zao,?_⟩;exact zcV.put (U.keepF j fun b u g hb q=>⟨(kp b u hb (by rw[q];exact fun z=>by cases z)).1,q⟩) (.inl ⟨rfl,J.up j⟩)
  ·obtain⟨b,e,x⟩:=R.wd.obj m k h;exact⟨b,e,x.keep j fun b u hb hm=>kp b u hb fun z=>by rw[z]at hm;exact c hm.symm⟩
 ·obtain⟨v,s,x⟩:=R.slots i o e h;exact⟨v,s,x.keep j fun b u hb l=>⟨(kp b u hb (by rw[l];exact fun z=>by cases z)).1,l⟩⟩
def Wd.addF(w:Wd)(p:Addr)(o:HO)(n:Nat)(f:Str):Wd:=⟨upd w.H p o,fun b=>if b=p then some (.fld n f)else w.ow b,w.mu⟩
noncomputable def zem(ob:Ob):Bool:=decide (ob.fs.map (·.1)).Nodup
def zcV.dic(I:Fut w w')(k:∀b o g,g≠f->w.H b=some o->w.ow b=some (.fld n g)->w'.H b=some o/\w'.ow b=some (.fld n g))(J:ziw cl w' (.fld n f) true (.ref a) d):∀{fs:List (Str×V)}{gs:List (Str×Bool×D)},zcV cl w n fs gs->(gs.map (·.1)).Nodup->fs.lookup f=some (.ref a)->zcV cl w' n fs (zjU f true d gs):=by
 intro fs gs h
 induction h with
 |nil=>intro _ e;cases e| @cons p q l1 i h t l=>
  intro nd e;obtain⟨h1,h2⟩:=h;obtain⟨g,v⟩:=p;obtain⟨g',o',d'⟩:=q;have j:g=g':=h1;subst j;rw[yar,ya7]at nd;show zcV cl w' n ((g,v)::l1) (if g=f then(g,true,d)::i else(g,o',d')::zjU f true d i);rw[yaD]at e
  by_cases c:g=f
  ·subst c;rw[if_pos rfl];simp only[ybq]at e;cases e;refine .cons ⟨rfl,J⟩ ?_;have t':zcV cl w n l1 i:=t;exact t'.keepBut I k fun q s m=>absurd (yaf.mpr ⟨q,s,m⟩) nd.1
  ·rw[if_neg c];have hb:(f==g)=false:=ybi.mpr fun z=>c z.symm
   rw[hb]at e;exact .cons ⟨rfl,h2.keep I fun b o hb r=>k b o g c hb r⟩ (l nd.2 e)
def Wd.addO(w:Wd)(x dx C:Addr)(n:Nat):Wd:=⟨upd (upd w.H dx (.own x)) x (.ins C dx []),fun b=>if b=x then some (.obj n)else if b=dx then none else w.ow b,w.mu++[x]⟩
theorem Rel.made(R:Rel cl B σ w ρ S)(J:w.H x=none)(I:w.H dx=none)(ne:dx≠x):Rel cl B σ (w.addO x dx (cl c) S.length) ρ (S++[⟨c,[]⟩])/\Fut w (w.addO x dx (cl c) S.length):=by
 have kp:∀b o,w.H b=some o->(w.addO x dx (cl c) S.length).H b=some o/\(w.addO x dx (cl c) S.length).ow b=w.ow b:=fun b o hb=>by
  have k:b≠x:=zat hb J;have j:b≠dx:=zat hb I;refine⟨?_,?_⟩
  ·show upd (upd w.H dx _) x _ b=_;rw[zab k,zab j];exact hb
  ·show(if b=x then _ else if b=dx then _ else w.ow b)=_;rw[if_neg k,if_neg j]
 have d:Fut w (w.addO x dx (cl c) S.length):=⟨fun b o hb hk=>⟨(kp b o hb).1,(kp b o hb).2.trans hk⟩,fun n a h=>by
  show(w.mu++[x])[n]?=some a
  rw[yaI (yas.mp h).1];exact h⟩
 have g:B.Fr x=none:=by
  cases z:B.Fr x with
  |none=>rfl|some u=>have:=(R.wd.fr x u z).1;rw[J]at this;cases this
 refine⟨⟨⟨fun b o h=>?_,fun b r h=>?_,by show(w.mu++[x]).length=_;rw[yae,yae,R.wd.len];rfl,fun m ob h=>?_,R.wd.tab.keep d fun P ps h1 h2=>⟨(kp P _ h1).1,(kp P _ h1).2.trans h2⟩⟩,R.len,fun i o e h=>?_⟩,d⟩
 ·have:=kp b o (R.wd.fr b o h).1;exact⟨this.1,this.2.trans (R.wd.fr b o h).2⟩
 ·have h':(if b=x then some (Root.obj S.length)else if b=dx then none else w.ow b)=some r:=h;split at h'
  ·rename_i z;rw[z];exact .inr g
  ·split at h'
   ·cases h'
   ·exact R.wd.own b r h'
 ·by_cases hm:m<S.length
  ·rw[yaI hm]at h;obtain⟨b,e,y⟩:=R.wd.obj m ob h;exact⟨b,d.mu _ _ e,y.keep d fun b o hb _=>kp b o hb⟩
  ·have f:m=S.length:=by
    have:=(yas.mp h).1;rw[yae,ycJ]at this;omega
   subst f;rw[yax (yai _),ycO]at h;cases h;refine⟨x,?_,if_pos rfl,dx,[],zao,.nil⟩;show(w.mu++[x])[S.length]?=some x;rw[yax (by rw[R.wd.len];exact yai _),R.wd.len,ycO];rfl
 ·obtain⟨v,p,y⟩:=R.slots i o e h;exact⟨v,p,y.keep d fun b o hb l=>⟨(kp b o hb).1,(kp b o hb).2.trans l⟩⟩
end
noncomputable def zo3(cn f:Str)(d:D)(S:Sto):Option D:=match d with
 |.ref n=>(match S[n]? with
  |some ob=>if ob.cls=cn then(match ob.fs.lookup f with|some (false,d)=>some d|_=>none)else none
  |none=>none)
 |_=>none
def zkr(cn f:Str)(fe:Fe):Fe:=fun ρ S=>(fe ρ S).bind fun d S1=>match zo3 cn f d S1 with|some r=>.ok r S1|none=>.bad
noncomputable def zfS(cl:Cf)(cn f:Str):Prop:=Cls cl.K (cl cn)/\zcp cl.K (cl cn) f
section
variable{cl:Cf}{cn:Str}{X:Cx}{E:St->XK}{e:Expr}{fe:Fe}{f:Str}{pos:Pos}{B:Base}{σ:St}{w:Wd}{ρ:Env}{S:Sto}
def zfj(R:Rel cl B σ w ρ S)(hv:Shd cl w v (.ref n))(I:S[n]?=some ob):∃a dx fs,v=.ref a/\w.mu[n]?=some a/\w.ow a=some (.obj n)/\w.H a=some (.ins (cl ob.cls) dx fs)/\zcV cl w n fs ob.fs:=by
 cases hv with
 |ref e=>
  obtain⟨h1,dx,fs,h2,b⟩:=R.wd.atObj I e;exact⟨_,dx,fs,rfl,e,h1,h2,b⟩
def zuj(hk:zfS cl cn f)(R:Rel cl B σ w ρ S)(hv:Shd cl w v d)(hd:zo3 cn f d S=some r):∃a C dx fs y,v=.ref a/\w.H a=some (.ins C dx fs)/\Cls cl.K C/\zcp cl.K C f/\fs.lookup f=some y/\Shd cl w y r:=by
 unfold zo3 at hd
 cases d with
 |ref n=>
  dsimp only at hd
  cases c:S[n]? with
  |none=>rw[c]at hd;cases hd|some ob=>
   rw[c]at hd;dsimp only at hd;split at hd
   ·rename_i b;split at hd
    ·rename_i d e;cases hd;obtain⟨a,dx,fs,rfl,_,_,g,h⟩:=zfj R hv c;obtain⟨v,lv,fr⟩:=h.look e
     rcases fr with⟨_,fr⟩|⟨z,_⟩
     ·exact⟨a,_,dx,fs,v,rfl,g,b ▸ hk.1,b ▸ hk.2,lv,fr⟩
     ·cases z
    ·cases hd
   ·cases hd
 |_=>cases hd
def zse(hk:zfS cl cn f)(kk:X.K=cl.K)(he:PE X e (tE cl E fe))(hb:attributeBase e f X.env (eval e X.env)=eval e X.env):PE X (.Attribute e f pos) (tE cl E (zkr cn f fe)):=by
 refine PE.imp (zcg he hb) ?_;rintro σ H Q ⟨B,w,ρ,S,rfl,R,q⟩;refine⟨B,w,ρ,S,rfl,R,?_⟩;unfold zkr at q
 cases hf:fe ρ S with
 |bad=>rwa[hf]at q|exc c S1=>rwa[hf]at q|ok d S1=>
  rw[hf]at q;intro v g b l h1;dsimp only[Out.bind]at q
  cases hd:zo3 cn f d S1 with
  |none=>rw[hd]at q;exact q.elim|some r=>
   rw[hd]at q;obtain⟨a,C,dx,fs,y,rfl,k,e2,j,i,h⟩:=zuj hk b h1 hd;rw[kk];exact⟨a,C,dx,fs,y,rfl,k,e2,j,i,q y g b l h⟩
end
end S2
namespace L2
open PySem PySem.Spec PyProof.Rows
end L2
namespace S2
open PySem PySem.Spec PyProof.Rows L2
def zkZ(cn f:Str)(fo fe:Fe):Fs:=fun ρ S=>match fe ρ S with
 |.bad=>.bad|.exc c S1=>.ex c ρ S1|.ok r S1=>(match fo ρ S1 with
  |.bad=>.bad|.exc c S2=>.ex c ρ S2|.ok (.ref n) S2=>(match S2[n]? with
   |some ob=>if decide (ob.cls=cn)&&decide (ob.fs.length<1000)then .nx ρ (S2.set n (ob.put f false r))else .bad
   |none=>.bad)
  |.ok _ _=>.bad)
noncomputable def zaS(c m:Str)(d:D)(S:Sto):Bool:=match d with
 |.ref n=>(match S[n]? with|some ob=>decide (ob.cls=c)&&(ob.fs.lookup m).isNone|none=>false)
 |_=>false
def zbx(c m:Str)(G:List D->Sto->Out D)(fo:Fe)(fs:List Fe):Fe:=fun ρ S=>(fo ρ S).bind fun d S1=>if zaS c m d S1 then(zap fs ρ S1).bind fun ds S2=>G (d::ds) S2 else .bad
def eMk(c:Str)(ah:List D)(G:List D->Sto->Out D)(fs:List Fe):Fe:=fun ρ S=>(zap fs ρ S).bind fun ds S1=>(G (.ref S1.length::(ds++ah)) (S1++[⟨c,[]⟩])).bind fun r S2=>match r with|.non=>.ok (.ref S1.length) S2|_=>.bad
structure Same'(cl:Cf)(X:Cx):Prop where
 kk:X.K=cl.K
 pp:X.prog=cl.P
 ww:X.w=cl.wo
section
variable{cl:Cf}{cn:Str}{X:Cx}{E:St->XK}{a o e:Expr}{fa fo fe:Fe}{f:Str}{pos apos:Pos}{own:Bool}
def zpI(sm:Same' cl X)(hk:zfS cl cn f)(ho:PE X o (tE cl E fo))(he:PE X e (tE cl E fe))(hs:swapsWith e (some (.Attribute o f apos)) pos.line X.env=pure false):PS X (.Assign [.Attribute o f apos] e pos) (tS cl E own (zkZ cn f fo fe)):=by
 refine PS.imp (zi4 ho he hs) ?_;rintro C σ H ⟨B,w,ρ,S,rfl,R,q⟩;refine⟨B,w,ρ,S,rfl,R,?_⟩;unfold zkZ at q
 cases hf:fe ρ S with
 |bad=>rwa[hf]at q|exc c S1=>rw[hf]at q;exact fun w' j k=>q σ w' j k|ok r S1=>
  rw[hf]at q;intro v t x s h1;dsimp only at q;refine⟨B,t,ρ,S1,rfl,x,?_⟩
  cases g:fo ρ S1 with
  |bad=>rwa[g]at q|exc c S2=>rw[g]at q;exact fun w' j k=>q σ w' j (s.trans k)|ok d S2=>
   rw[g]at q;intro y A R2 p h2
   cases d with
   |ref n=>
    dsimp only at q
    cases h:S2[n]? with
    |none=>rw[h]at q;exact q.elim|some ob=>
     rw[h]at q;dsimp only at q;split at q
     ·rename_i b;rw[yaa]at b;obtain⟨a,dx,fs,rfl,i,how,l,m⟩:=zfj R2 h2 h;rw[sm.kk];refine⟨a,_,dx,fs,rfl,l,yah b.1 ▸ hk.1,yah b.1 ▸ hk.2,by rw[m.len];exact yah b.2,?_⟩;obtain⟨u,z⟩:=R2.setf (f:=f) h i how l m (h1.up p);exact q σ _ u (s.trans (p.trans z))
     ·exact q.elim
   |_=>exact q.elim
end
noncomputable def zgH(C:Addr)(m:Str)(sp:Sp)(dvs:List V)(E:St->XK)(ta:TE)(t:TA):TE:=fun σ H Q=>ta σ H fun x H1=>∃a dx fs,x=.ref a/\H1 a=some (.ins C dx fs)/\fs.lookup m=none ∧
 t σ H1 fun vs H2=>sp (x::(vs++dvs)) H2 Q (E σ)
noncomputable def zot(C:Addr)(sp:Sp)(dvs:List V)(E:St->XK)(t:TA):TE:=fun σ H Q=>t σ H fun vs H1=>∀x dx,H1 x=none->H1 dx=none->dx≠x →
 sp (.ref x::(vs++dvs)) (upd (upd H1 dx (.own x)) x (.ins C dx [])) (fun v H2=>v=.non/\Q (.ref x) H2) (E σ)
section
variable{X:Cx}{CX:CXT}{k:Nat}{f C:Addr}{fd:FuncData}{ps:List Str}{sp:Sp}{dvs:List V}{ds:List Value}{E:St->XK}{x m:Str}{p pos apos:Pos}{e o:Expr}{es:List Expr}{ta:TE}{t:TA}
def znj(he:PE X o ta)(c:Cls X.K C)(hm:Meth X.K C m f)(F:FnOk X.prog X.w X.K X.mg X.base CX k f fd ps sp)(hr:Room k X.A)(hb:zcR X.K fd ps ds)(hd:Vals dvs ds)(hx:zc9 CX X E)(ha:PA X (e::es) t)
  (J:starEach (e::es) X.env=(false,eval e X.env)::starEach es X.env) (af:(backTo pos (starEach es X.env)).any (·.1)=false)
  (ht:eval (.Call (.Attribute o m apos) (e::es) [] pos) X.env=(do
   let U ← eval o X.env
   standAt apos.atName
   let (f,first) ← holding [U] (getMethod U m pl)
   callWith pos f first (backTo pos (starEach (e::es) X.env)) (backToKw pos (keywordEach [] X.env)))):
  PE X (.Call (.Attribute o m apos) (e::es) [] pos) (zgH C m sp dvs E ta t):=by
 intro pins s σ H Q I h;refine PySem.W.methodCall_KW (pl:=pl) (thn (he pins s σ H _ I h) fun u s1 ⟨x,H1,d,g,a,dx,fs,ex,j,l,q⟩=>?_) ht;subst ex;obtain rfl:u=Value.ref a:=g;refine zfG d j c hm l ?_;refine ybZ (first:=[.ref a]) (h₀:=X.base) I.ok.mod.kin hm.kp (thn (ha pos pins s1 σ H1 _ d q) fun us s2 ⟨vs,H2,b,r,i⟩=>⟨b.kIn,?_⟩) J af;exact zf3 (us:=.ref a::us) (vs:=.ref a::vs) F hr hb hd hx b (.cons rfl r) i
def zln(he:PE X o ta)(c:Cls X.K C)(hm:Meth X.K C m f)(F:FnOk X.prog X.w X.K X.mg X.base CX k f fd ps sp)(hr:Room k X.A)(hb:zcR X.K fd ps ds)(hd:Vals dvs ds)(U:zc9 CX X E)
  (ht:eval (.Call (.Attribute o m apos) [] [] pos) X.env=(do
   let J ← eval o X.env
   standAt apos.atName
   let (f,first) ← holding [J] (getMethod J m pl)
   callWith pos f first (backTo pos (starEach [] X.env)) (backToKw pos (keywordEach [] X.env)))):
  PE X (.Call (.Attribute o m apos) [] [] pos) (zgH C m sp dvs E ta zuy):=by
 intro pins s σ H Q I h;refine PySem.W.methodCall_KW (pl:=pl) (thn (he pins s σ H _ I h) fun u s1 ⟨x,H1,b,d,a,dx,fs,ex,e,l,q⟩=>?_) ht;subst ex;obtain rfl:u=Value.ref a:=d;refine zfG b e c hm l ?_;exact PySem.W.callWith_K0 (first:=[.ref a]) b.kIn hm.kp (zf3 (us:=[.ref a]) (vs:=[.ref a]) F hr hb hd U b (.cons rfl .nil) q)
def zk6(M:Mk X.K C f)(F:FnOk X.prog X.w X.K X.mg X.base CX k f fd ps sp)(U:Room (k+1) X.A)(hb:zcR X.K fd ps ds)(hd:Vals dvs ds)
  (J:zc9 CX X E) (I:Inv X pins σ H s) (r:Vals vs us)
  (h:∀x dx,H x=none->H dx=none->dx≠x->sp (.ref x::(vs++dvs)) (upd (upd H dx (.own x)) x (.ins C dx [])) (fun v H2=>v=.non/\Q (.ref x) H2) (E σ)):
  wpAny (model X.prog X.w) X.A (call (.ref C) us) (EP X pins σ Q) X.xe s:=by
 have c:=h (s.heap.objs.size+1) s.heap.objs.size (I.hok.fresh (ybH _)) (I.hok.fresh (yai _)) (yaB (ycf _));have b:=Inv.made (C:=C) I;have r2:Vals (V.ref (s.heap.objs.size+1)::(vs++dvs)) (Value.ref (s.heap.objs.size+1)::(us++ds)):=.cons rfl (r.append hd)
 have i:(Value.ref (s.heap.objs.size+1)::us++ds).length=ps.length:=by
  have e:=r2.length;rw[F.len _ _ _ _ c]at e;exact e.symm
 refine ydd (znG (f:=f) I.kIn M.makes M.init (ybT.mp M.fn) (ybQ (F.run _ X.stack _ _ ⟨Value.ref (s.heap.objs.size+1)::us,[]⟩ (Value.ref (s.heap.objs.size+1)::(us++ds)) _ _ (E σ) (U.make C us [])
  (b.env0.make C us []) (hb _ (Value.ref (s.heap.objs.size+1)::us) b.kIn i) r2 c) fun r s' a=>?_))
 cases r with
 |error e=>exact J pins σ _ _ e s' b a|ok j=>
  cases j with
  |ret u=>
   obtain⟨v,H',l,d,ev,g⟩:=b.after a;subst ev;exact⟨d,⟨V.ref (s.heap.objs.size+1),H',l,rfl,g⟩⟩
  |next=>exact False.elim a|brk=>exact False.elim a|cont=>exact False.elim a
def znk(M:Mk X.K C f)(F:FnOk X.prog X.w X.K X.mg X.base CX k f fd ps sp)(hr:Room (k+1) X.A)(hg:Gl X x)(hm:X.mg x=some (.ref C))(hb:zcR X.K fd ps ds)(hd:Vals dvs ds)(U:zc9 CX X E)
  (ha:PA X (e::es) t) (J:(x==("__debug__":Str))=false) (he:starEach (e::es) X.env=(false,eval e X.env)::starEach es X.env) (af:(backTo pos (starEach es X.env)).any (·.1)=false):
  PE X (.Call (.Name x p) (e::es) [] pos) (zot C sp dvs E t):=by
 intro pins s σ H Q I h;refine ybe (zc0 I hg hm ?_ J);refine ybZ (h₀:=X.base) I.ok.mod.kin M.kp (thn (ha pos pins s σ H _ I h) fun us s1 ⟨vs,H1,a,r,q⟩=>⟨a.kIn,?_⟩) he af;exact zk6 M F hr hb hd U a r q
end
section
variable{cl:Cf}{E:St->XK}{fs:List Fe}{fo:Fe}{G:List D->Sto->Out D}{σ:St}{H:Hp}{Q:VK}{n:Nat}{c m:Str}{ρ:Env}
theorem zdW:∀{fs:List Fe}{S S1:Sto}{ds:List D},zap fs ρ S=.ok ds S1->ds.length=fs.length
 |[],S,S1,ds,h=>by cases h;rfl
 |f::fs,S,S1,ds,h=>by
  unfold zap at h
  cases h1:f ρ S with
  |bad=>rw[h1]at h;cases h|exc c S2=>rw[h1]at h;cases h|ok d S2=>
   rw[h1]at h;dsimp only[Out.bind]at h
   cases h2:zap fs ρ S2 with
   |bad=>rw[h2]at h;cases h|exc c a=>rw[h2]at h;cases h|ok es a=>rw[h2]at h;cases h;rw[yad,yad,zdW h2]
def zlA(R:Rel cl B σ w ρ S)(hv:Shd cl w v d)(h:zaS c m d S=true):∃a dx fs,v=.ref a/\w.H a=some (.ins (cl c) dx fs)/\fs.lookup m=none:=by
 unfold zaS at h
 cases d with
 |ref n=>
  dsimp only at h
  cases b:S[n]? with
  |none=>rw[b]at h;cases h|some ob=>
   rw[b]at h;dsimp only at h;rw[yaa]at h;obtain⟨a,dx,fs,rfl,_,_,f,g⟩:=zfj R hv b;have e:=yah h.1;subst e;exact⟨a,dx,fs,rfl,f,g.miss (by simpa using h.2)⟩
 |_=>cases h
def ztj(q:tE cl E (zbx c m G fo fs) σ H Q)(I:fs.length+1=n):zgH (cl c) m (zgA cl n false G) [] E (tE cl E fo) (tAs cl E fs) σ H Q:=by
 obtain⟨B,w,ρ,S,rfl,R,q⟩:=q;refine⟨B,w,ρ,S,rfl,R,?_⟩;unfold zbx at q
 cases e:fo ρ S with
 |bad=>rwa[e]at q|exc c S1=>rwa[e]at q|ok d k=>
 rw[e]at q;intro v t s F0 h0;dsimp only[Out.bind]at q
 cases hok:zaS c m d k with
 |false=>rw[hok]at q;exact q.elim|true=>
 rw[hok,if_pos rfl]at q;obtain⟨a,dx,fs',rfl,u,hm⟩:=zlA s h0 hok;refine⟨a,dx,fs',rfl,u,hm,B,t,ρ,k,rfl,s,?_⟩
 cases hf:zap fs ρ k with
 |bad=>rwa[hf]at q|exc c S1=>rw[hf]at q;exact fun b f g=>q b f (F0.trans g)|ok ds S1=>
  rw[hf]at q;intro vs b f g h1;dsimp only at q;refine⟨?_,b.base,b.inn,d::ds,S1,rfl,f.wd.enter,?_,?_⟩
  ·rw[yaQ,yad,h1.length,zdW hf];exact I
  ·rw[yaQ];exact .cons ((h0.up g).up (zbP b)) (h1.up (zbP b))
  cases j:G (d::ds) S1 with
  |bad=>rwa[j]at q|exc c S2=>
   rw[j]at q;intro i h p;obtain⟨l,o⟩:=f.leave h p;exact q (b.back i) l (F0.trans (g.trans o))
  |ok r S2=>
   rw[j]at q;intro v i h p r2;obtain⟨l,o⟩:=f.leave h p;exact q v (b.back i) l (F0.trans (g.trans o)) (Shd.up (zcj h) r2)
def zti(q:tN cl E (zbx c m G fo fs) σ H Q)(I:fs.length+1=n):zgH (cl c) m (zgA cl n true G) [] E (tE cl E fo) (tAs cl E fs) σ H Q:=by
 obtain⟨B,w,ρ,S,rfl,R,q⟩:=q;refine⟨B,w,ρ,S,rfl,R,?_⟩;unfold zbx at q
 cases g:fo ρ S with
 |bad=>rwa[g]at q|exc c S1=>rwa[g]at q|ok d p=>
 rw[g]at q;intro v C A F0 h0;dsimp only[Out.bind]at q
 cases hok:zaS c m d p with
 |false=>rw[hok]at q;exact q.elim|true=>
 rw[hok,if_pos rfl]at q;obtain⟨a,dx,fs',rfl,D,hm⟩:=zlA A h0 hok;refine⟨a,dx,fs',rfl,D,hm,B,C,ρ,p,rfl,A,?_⟩
 cases hf:zap fs ρ p with
 |bad=>rwa[hf]at q|exc c S1=>rw[hf]at q;exact fun b h k=>q b h (F0.trans k)|ok ds S1=>
  rw[hf]at q;intro vs b h k h1;dsimp only at q;refine⟨?_,b.base,b.inn,d::ds,S1,rfl,h.wd.enter,?_,?_⟩
  ·rw[yaQ,yad,h1.length,zdW hf];exact I
  ·rw[yaQ];exact .cons ((h0.up k).up (zbP b)) (h1.up (zbP b))
  cases l:G (d::ds) S1 with
  |bad=>rwa[l]at q|exc c S2=>
   rw[l]at q;intro e j y;obtain⟨s,x⟩:=h.leave j y;exact q (b.back e) s (F0.trans (k.trans x))
  |ok r S2=>
   rw[l]at q;intro v e j y r2;obtain⟨s,x⟩:=h.leave j y;obtain⟨a,o,i,rfl,k1,k2,t⟩:=r2;have f:b.base.Fr a=none:=(j.own a _ k1).elim (fun z=>by cases z) fun z=>z
   have k3:(b.back e).ow a=some .far:=by
    show(if(b.base.Fr a).isSome=true then b.ow a else Root.out (e.ow a))=_;rw[f,k1];rfl
   have hb:B.Fr a=none:=by
    cases z:B.Fr a with
    |none=>rfl|some u=>rw[zcO h.wd z]at f;cases f
   have hd:=zgm (w:=b.back e) (a:=a) (by rw[k3];exact yaF _);have:=q a o ((b.back e).del a) (s.del k3 hb) (F0.trans (k.trans (x.trans hd))) (if_pos rfl) ((t.up (zcj j)).up hd);rwa[zkv (w:=b.back e) k2]at this
def zyV(I:∀w,Shds cl w dvs ah)(q:tE cl E (eMk c ah G fs) σ H Q)(J:fs.length+ah.length+1=n):zot (cl c) (zgA cl n false G) dvs E (tAs cl E fs) σ H Q:=by
 obtain⟨B,w,ρ,S,rfl,R,q⟩:=q;refine⟨B,w,ρ,S,rfl,R,?_⟩;unfold eMk at q
 cases hf:zap fs ρ S with
 |bad=>rwa[hf]at q|exc c S1=>rwa[hf]at q|ok ds S1=>
  rw[hf]at q;intro vs a j m h1;dsimp only[Out.bind]at q;intro x dx o g ne;obtain⟨R2,l⟩:=j.made (c:=c) o g ne
  have b:(a.addO x dx (cl c) S1.length).mu[S1.length]?=some x:=by
   show(a.mu++[x])[S1.length]?=some x;rw[yax (by rw[j.wd.len];exact yai _),j.wd.len,ycO];rfl
  refine⟨?_,(a.addO x dx (cl c) S1.length).base,(a.addO x dx (cl c) S1.length).inn,.ref S1.length::(ds++ah),S1++[⟨c,[]⟩],rfl,R2.wd.enter,?_,?_⟩
  ·rw[yad,yae,h1.length,zdW hf,(I a).length];exact J
  ·exact .cons (.ref b) (((h1.up l).up (zbP _)).append (I _))
  cases f:G (.ref S1.length::(ds++ah)) (S1++[⟨c,[]⟩])with
  |bad=>rwa[f]at q|exc c S2=>
   rw[f]at q;intro e h k;obtain⟨i,d⟩:=R2.leave h k;exact q ((a.addO x dx _ S1.length).back e) i (m.trans (l.trans d))
  |ok r S2=>
   rw[f]at q;intro v e h k r2
   cases r with
   |non=>
    obtain⟨i,d⟩:=R2.leave h k;refine⟨by cases r2;rfl,q (.ref x) ((a.addO x dx _ S1.length).back e) i (m.trans (l.trans d)) (.ref (d.mu _ _ b))⟩
   |_=>exact q.elim
end
end S2
namespace L2
open PySem PySem.Spec PyProof.Rows
end L2
namespace S2
open PySem PySem.Spec PyProof.Rows L2
end S2
namespace PySem
open Sem (wp)
namespace F
end F
namespace F
end F
end PySem
namespace ST
open PySem PySem.Spec PyProof.Rows
end ST
namespace PySem
end PySem
namespace L2
open PySem PySem.Spec PySem.W PyProof.Rows
noncomputable def leS(a b:Str):Prop:=a.cps.toList<=b.cps.toList
noncomputable def zrx(x:Str):List Str->List Str
 |[]=>[x]|y::r=>if decide (y.cps.toList<x.cps.toList)then y::zrx x r else x::y::r
noncomputable def za6:List Str->List Str
 |[]=>[]|x::r=>zrx x (za6 r)
theorem ze5(x:Str):∀l:List Str,(zrx x l).Perm (x::l)
 |[]=>.refl _|y::r=>by
  unfold zrx;split
  ·exact((ze5 x r).cons y).trans (List.Perm.swap x y r)
  ·exact .refl _
theorem zbu:∀l:List Str,(za6 l).Perm l
 |[]=>.refl _|x::r=>(ze5 x (za6 r)).trans ((zbu r).cons x)
def zhc{a b c:Str}(h:leS a b)(h':leS b c):leS a c:=List.le_trans h h'
theorem zjm(x:Str):∀l:List Str,l.Pairwise leS->(zrx x l).Pairwise leS
 |[],_=>List.pairwise_singleton _ _|y::r,h=>by
  have h1:=ybo.mp h;unfold zrx;split
  ·rename_i b;have b:=yah b;refine ybo.mpr ⟨fun z a=>?_,zjm x r h1.2⟩
   rcases yaq.mp ((ze5 x r).mem_iff.mp a)with rfl|a
   ·exact List.le_of_lt b
   ·exact h1.1 z a
  ·rename_i b;have b:¬ y.cps.toList<x.cps.toList:=fun z=>b (yap z)
   have c:leS x y:=List.not_lt.mp b;refine ybo.mpr ⟨fun z a=>?_,h⟩
   rcases yaq.mp a with rfl|a
   ·exact c
   ·exact zhc c (h1.1 z a)
theorem zdG:∀l:List Str,(za6 l).Pairwise leS
 |[]=>.nil|x::r=>zjm x _ (zdG r)
theorem zgW:∀(p:Str) (l:List Str),risingS p l=true->(p::l).Pairwise leS
 |p,[],_=>List.pairwise_singleton _ _|p,x::r,h=>by
  have h':(!ltCps x.cps.toList p.cps.toList&&risingS x r)=true:=h;rw[yaa,yaH]at h';have c:=zgW x r h'.2
  have a:leS p x:=by
   have e:=h'.1;rw[ltCps_eq]at e;exact List.not_lt.mp (of_decide_eq_false e)
  refine ybo.mpr ⟨fun z b=>?_,c⟩
  rcases yaq.mp b with rfl|b
  ·exact a
  ·exact zhc a ((ybo.mp c).1 z b)
theorem zkM:∀(l:List Str),sortedS l=true->l.Pairwise leS
 |[],_=>.nil|x::r,h=>zgW x r h
def zmO{a b:Str}(h:a.cps.toList=b.cps.toList):a=b:=by
 cases a;cases b;simp only at h;congr 1;exact Array.toList_inj.mp h
def zjI{a b:List Str}(p:a.Perm b)(h:sortedS a=true):a=za6 b:=
 List.Perm.eq_of_pairwise (le:=leS) (fun x y _ _ h1 h2=>zmO (List.le_antisymm h1 h2)) (zkM a h) (zdG b) (p.trans (zbu b).symm)
section
variable{X:Cx}{pins:Z3}{σ:St}{H:Hp}{s:Shared}{a:Addr}{kvs:List (Key×V)}{A:Around}{E:Z5}{ks:List Str}
theorem zeg:∀{vs:List Value}{ss:List Str},StrsAre vs ss->Vals (ss.map V.str) vs
 |_,_,.nil=>.nil|_,_,.cons x t h=>.cons ⟨t,rfl⟩ (zeg h)
theorem zeh:∀{ks:List Str}{vs:List Value} (h:vs.length=ks.length),(∀(i:Nat) (v:Value) (k:Str),vs[i]?=some v->ks[i]?=some k->∃t,v=Value.str k t)->StrsAre vs ks
 |[],[],_,_=>.nil|k::ks,v::vs,h,hv=>by
  obtain⟨t,rfl⟩:=hv 0 v k rfl rfl;exact .cons k t (zeh (by simpa using h) fun i v k h1 h2=>hv (i+1) v k (by simpa using h1) (by simpa using h2))
theorem zlK:∀{kvs:List (Key×V)}{vs:List (Key×Value)},KV kvs vs->kvs.map (·.1)=vs.map (·.1)
 |_,_,.nil=>rfl|_,_,.cons h t=>by rw[yar,yar,h.1,zlK t]
def znQ{P:Program}{w:World}{k:Str}{v:Value}(h:(zaH P w).is (Sum.inr k) v=true):∃t,v=Value.str k t:=by
 have h':Value.isStrOf k v=true:=h
 cases v<;>first|(cases h';done)|skip
 rename_i x t
 have e:x=k:=by simpa[Value.isStrOf]using h'
 exact⟨t,by rw[e]⟩
theorem zob{Q:Z5}(U:A.handled=none)(I:Inv X pins σ H s)(e:Rd H a (.dK kvs))(hk:kvs.map (·.1)=ks.map Sum.inr)(J:ks.length<64)
  (h:∀p s',H p=none->Inv X pins σ (upd H p (.lst ((za6 ks).map V.str))) s'->Q (.ref p) s'):wpAny (model X.prog X.w) A (call (.builtin "sorted") [.ref a]) Q E s:=by
 obtain⟨z,hd,vs,rel,dd⟩:=zgs I.hok e;obtain⟨M,K⟩:=dd.dictAt
 have hlen:vs.length=ks.length:=by
  rw[<-rel.length];have:=congrArg List.length hk;simpa using this
 have f:vs.map (·.1)=ks.map Sum.inr:=by
  rw[<-hk];exact(zlK rel).symm
 refine Calls.call_function_entry kind_sorted plain_sorted entry_sorted (args_sorted1 _) ?_;unfold Builtin.«sorted»;refine yac (m:=checkCount "sorted" 1 1 _) (yak ?_);refine yac (kdu_collect (A:=A.in1) (kdl_dict (prog:=X.prog) hd) U K (by rw[hlen,ycU];omega) fun h' tk acc kp c=>?_)
 have n:acc.toList.length=ks.length:=by rw[yba,c.1,hlen]
 have q:StrsAre acc.toList ks:=zeh n fun i v k h1 h2=>by
  obtain⟨k',x,F,e2⟩:=c.2 i v (by rw[<-ybC];exact h1);have u:=congrArg (fun l=>l[i]?) f;simp only[yaM,F,h2,Option.map_some]at u;cases u;exact znQ e2
 refine yac (wpAny_newList ?_ (by rw[n,ycU];omega));have d:(h'.push (seqObj "list" acc.toList.toArray 0)).get? h'.objs.size=some (seqObj "list" acc.toList.toArray 0):=yaw _ rfl;refine yac (ybr (ybz slot_list_sort ⟨_,d,rfl⟩ entry_list_sort (list_sort_treeK strKind_oneLt (s:={s with heap:=h'.push (seqObj "list" acc.toList.toArray 0),toks:=tk}) d q.keysOf (fun t r zbG e=>keyKind_strs (by rw[<-e];exact q)) (by rw[n];exact J) fun g C hs=>⟨_,rfl,?_⟩) (args_list_sort _)));refine yak ⟨_,rfl,?_⟩;obtain⟨B,b1,b2,L⟩:=sorted_out_str q C hs;obtain⟨G,he⟩:=sortedHeap_at (out:=(arrOf g).map (·.2)) d;have y:=I.kept kp (t':=tk);have D:=zjI b2 L;refine h h'.objs.size _ (y.hok.fresh (yai _)) (y.laid (t':=tk) (o:=.lst ((za6 ks).map V.str)) (fun b o hb=>?_) (yai _) (show zbg X.prog X.w _ _ _ (.lst _)from⟨?_,((arrOf g).map (·.2)).toList,G,?_,?_⟩))
 ·have j:b<h'.objs.size:=yau hb;rw[sortedHeap_old (yaB j) (by rw[size_push'];exact ybN j)];exact yag _ hb
 ·rw[yab,(zbu ks).length_eq,ycU];omega
 ·rw[<-D];exact zeg b1
 ·rw[Array.toArray_toList];exact he
end
open PySem PySem.Spec PyProof.Rows
section
variable{X:Cx}
def zft(J:X.calm=true):zdY X (.builtin "sorted") (fun xs H Q=>∃(a:Addr) (kvs:List (Key×V)) (ks:List Str),xs=[.ref a]/\Rd H a (.dK kvs)/\kvs.map (·.1)=ks.map Sum.inr/\ks.length<64/\∀p,H p=none->Q (.ref p) (upd H p (.lst ((za6 ks).map V.str)))):=by
 intro pins s σ H xs us Q I r h;obtain⟨a,kvs,ks,rfl,e,hk,b,q⟩:=h;obtain⟨u,rfl,c⟩:=zgE r;cases c;exact zob (I.ok.hd J) I e hk b fun p s' d f=>⟨.ref p,_,f,rfl,q p d⟩
end
end L2
namespace S2
open PySem PySem.Spec PyProof.Rows L2
section
variable{X:Cx}{cl:Cf}
theorem zgd{k x:Str}{d:D}:∀{ds:List (D×D)},zal ds=true->zaj x (putS k d ds)=if k=x then some d else zaj x ds
 |[],_=>rfl|(.str y,e)::r,h=>by
  unfold zal at h;rw[yaa]at h;unfold putS
  by_cases b:y=k
  ·subst b;rw[if_pos rfl];unfold zaj
   by_cases a:y=x
   ·rw[if_pos a,if_pos a]
   ·rw[if_neg a,if_neg a,if_neg a]
  ·rw[if_neg b];unfold zaj
   by_cases a:y=x
   ·rw[if_pos a,if_neg (fun z=>b (a.trans z.symm)),if_pos a]
   ·rw[if_neg a,zgd h.2,if_neg a]
theorem zf8{k:Str}{d:D}:∀{ds:List (D×D)},zal ds=true->zal (putS k d ds)=true
 |[],_=>rfl|(.str y,e)::r,h=>by
  have h':=h;unfold zal at h;rw[yaa]at h;unfold putS
  by_cases a:y=k
  ·rw[if_pos a];unfold zal;rw[yaa];exact h
  ·rw[if_neg a];unfold zal;rw[yaa,zgd h.2,if_neg (fun z=>a z.symm)];exact⟨h.1,zf8 h.2⟩
theorem zeG{w:Wd}:∀{l:List Str},Shds cl w (l.map V.str) (l.map D.str)
 |[]=>.nil|i::l=>.cons (.str i) (zeG (l:=l))
end
end S2
namespace L2
open PySem PySem.Spec PyProof.Rows
def zmU{X:Cx}(J:X.A.units+1<cLine):zxX X (fun o i v H Q=>∃a H',o=.ref a/\zru H a i v H'/\Q H'):=by
 intro pins s σ H o i v j k f Q I c d b h;obtain⟨a,H',rfl,g,q⟩:=h;cases c;exact zhr J I g d b fun s' e=>⟨H',e,q⟩
end L2
namespace S2
open PySem PySem.Spec PyProof.Rows L2
noncomputable def zn5:Fe:=fun _ S=>.ok (.dic []) S
def zfl(i:Nat)(ρ:Env):Option (List (D×D)):=match ρ[i]? with|some (some (true,.dic ds))=>if zal ds&&zau ds.length then some ds else none|_=>none
def zes(i:Nat)(fk fe:Fe):Fs:=fun ρ S=>match zfl i ρ with
 |some ds=>(match fe ρ S with
  |.ok d S1=>(match fk ρ S1 with
   |.ok k S2=>(match k with
    |.str x=>.nx (ρ.set i (some (true,.dic (putS x d ds)))) S2|_=>.bad)
   |.exc c S2=>.ex c ρ S2|.bad=>.bad)
  |.exc c S1=>.ex c ρ S1|.bad=>.bad)
 |_=>.bad
section
variable{X:Cx}{cl:Cf}{E:St->XK}{own:Bool}{a b e:Expr}{f g fe fk:Fe}{pos pos':Pos}{i:Nat}{x:Str}{ap cp:Pos}
def zp2:PE X (.Dict [] [] pos) (tN cl E zn5):=PE.imp zi5 fun σ H Q ⟨B,w,ρ,S,e,R,q⟩=>by
 subst e;intro p a;exact q p _ w R (Fut.refl _) a (.dicK .nil)
def ziW{B:Base}{σ:St}{w:Wd}{ρ:Env}{S:Sto}{ds:List (D×D)}(R:Rel cl B σ w ρ S)(h:zfl i ρ=some ds):∃p kvs,σ[i]?=some (some (.ref p))/\w.ow p=some (.slot i)/\w.H p=some (.dK kvs)/\ShdK cl w kvs ds/\zal ds=true/\zau ds.length=true:=by
 unfold zfl at h;split at h
 ·rename_i ds' hd;split at h
  ·rename_i a;cases h;rw[yaa]at a;obtain⟨v,b,p,o,rfl,h1,h2,t⟩:=R.slots i true _ hd
   cases t with
   |dicK t=>exact⟨p,_,b,h1,h2,t,a.1,a.2⟩
  ·cases h
 ·cases h
def zpE{p3:Pos}(hu:X.A.units+1<cLine)(hN:X.N[i]?=some x)(hv:Vis X.env.scope x)(hd:(x==("__debug__":Str))=false)(hcd:(x==("__classdict__":Str))=false)(hk:PE X a (tE cl E fk))(he:PE X e (tE cl E fe))(sw:swapsWithSole [.Subscript (.Name x pos') a p3] e pos.line X.env=pure false)(J:swappedStores [.Subscript (.Name x pos') a p3] e X.env=pure none)
  (ha:∀v,assign (.Subscript (.Name x pos') a p3) X.env v=(do
   let I ← holding [v] (eval (.Name x pos') X.env)
   let U ← holding [v,I] (eval a X.env)
   standAt p3
   holding [v,I,U] (setItem I U v)
   release [v,I,U] [])):
  PS X (.Assign [.Subscript (.Name x pos') a p3] e pos) (tS cl E own (zes i fk fe)):=by
 refine PS.imp (zoJ he (zsE (zaT hN hv hd hcd) hk (zmU hu) ha) sw J rfl) ?_;rintro G σ H ⟨B,w,ρ,S,rfl,R,q⟩;unfold zes at q
 cases hs:zfl i ρ with
 |none=>rw[hs]at q;exact q.elim|some ds=>
  rw[hs]at q;refine⟨B,w,ρ,S,rfl,R,?_⟩
  cases f:fe ρ S with
  |bad=>rwa[f]at q|exc c S1=>rw[f]at q;exact fun w' j l=>q σ w' j l|ok d S1=>
   rw[f]at q;intro v s n r z;obtain⟨p,kvs,h,_,_,_,_,_⟩:=ziW n hs;refine⟨_,h,B,s,ρ,S1,rfl,n,?_⟩;dsimp only at q
   cases b:fk ρ S1 with
   |bad=>rwa[b]at q|exc c S2=>rw[b]at q;exact fun w' j l=>q σ w' j (r.trans l)|ok k S2=>
    rw[b]at q;intro y D R2 o u;dsimp only at q
    cases k with
    |str k=>
     cases u;obtain⟨F,m,g,h1,h2,t,C,hm⟩:=ziW R2 hs;rw[h]at g;cases g;refine⟨p,_,rfl,zru.k (k:=.inr k) h2 (by rw[t.length];exact zdI hm),?_⟩;exact q σ _ (R2.mut (d0:=.non) h h1 (.dicK (t.putS C (z.up o)))) ((r.trans o).trans (zdx (by rw[h1];exact yaF _)))
    |_=>exact q.elim
end
noncomputable def zwn(nm:List (Str×NameKind))(ts:List Expr):Bool:=ts.any fun|.Name x _=>!decide (nm.lookup x=some .local)|_=>false
theorem ztP{α β:Type}(f:α->Option β):∀(l:List α),(∃a∈l,f a=none)->(l.filterMap f).length<l.length
 |[],h=>by obtain⟨_,h,_⟩:=h;cases h
 |a::l,h=>by
  rw[yad,ybu];have hle:=List.length_filterMap_le f l
  cases g:f a with
  |none=>exact Nat.lt_succ_of_le hle|some b=>
   show(l.filterMap f).length+1<_;obtain⟨c,d,e⟩:=h
   rcases yaq.mp d with rfl|d
   ·rw[g]at e;cases e
   ·have:=ztP f l ⟨c,d,e⟩;omega
section
variable{X:Cx}{cl:Cf}{E:St->XK}{own:Bool}{nm:List (Str×NameKind)}
def zrk(hs:X.env.scope.names=nm)(h:zwn nm ts=true):swappedStores [.Tuple ts k p] (.Tuple vs k2 p2) X.env=pure none:=by
 unfold swappedStores;dsimp only;split
 ·rfl
 ·split
  ·rfl
  ·split
   ·rfl
   ·rename_i c;exfalso;apply c;rw[ycu];left;rw[bne_iff_ne];apply yaB;apply ztP;unfold zwn at h;rw[List.any_eq_true]at h;obtain⟨x,b,hb⟩:=h;refine⟨x,b,?_⟩
    cases x with
    |Name y q=>
     have a:¬ nm.lookup y=some .local:=by simpa using hb
     have:¬ X.env.kindOf y=some .local:=by unfold Env.kindOf;rw[hs];exact a
     simp[this]
    |_=>cases hb
variable{i j h:Nat}{x y z:Str}{a e:Expr}{f f1:Fe}{px py pz pt pt2 p2 pos:Pos}{kt k2:Nat}
end
noncomputable def Base.hold(B:Base)(p:Addr)(o:HO):Base:=⟨fun a=>if a=p then some o else B.Fr a,fun a=>if a=p then some .far else B.fw a⟩
section
variable{cl:Cf}{B:Base}{σ:St}{w:Wd}{ρ:Env}{S:Sto}
theorem Rel.hold(R:Rel cl B σ w ρ S)(I:w.H p=none):Rel cl (B.hold p o) σ (w.addAs p o .far) ρ S:=by
 have d:=zbL (w:=w) (p:=p) (o:=o) (r:=.far) I
 have kp:∀a u,w.H a=some u->(w.addAs p o .far).H a=some u/\(w.addAs p o .far).ow a=w.ow a:=fun a u c=>by
  have n:a≠p:=zat c I;refine⟨?_,?_⟩
  ·show upd w.H p o a=_;rw[zab n];exact c
  ·show(if a=p then _ else if w.ow a=some Root.far then some Root.far else w.ow a)=_;rw[if_neg n];split
   ·rename_i e;exact e.symm
   ·rfl
 refine⟨⟨fun a u h=>?_,fun a r h=>?_,R.wd.len,fun n ob h=>?_,R.wd.tab.keep d fun P ps h1 h2=>⟨(kp P _ h1).1,(kp P _ h1).2.trans h2⟩⟩,R.len,fun j b e g=>?_⟩
 ·by_cases c:a=p
  ·subst c;have h':(if a=a then some o else B.Fr a)=some u:=h;rw[if_pos rfl]at h';cases h';exact⟨zao,by show(if a=a then some Root.far else _)=(if a=a then some Root.far else _);rw[if_pos rfl,if_pos rfl]⟩
  ·have h':(if a=p then some o else B.Fr a)=some u:=h;rw[if_neg c]at h';have:=kp a u (R.wd.fr a u h').1;refine⟨this.1,this.2.trans ?_⟩;show _=(if a=p then some Root.far else B.fw a);rw[if_neg c];exact(R.wd.fr a u h').2
 ·by_cases c:a=p
  ·have h':(if a=p then some Root.far else if w.ow a=some Root.far then some Root.far else w.ow a)=some r:=h;rw[if_pos c]at h';cases h';exact .inl rfl
  ·have h':(if a=p then some Root.far else if w.ow a=some Root.far then some Root.far else w.ow a)=some r:=h;rw[if_neg c]at h';split at h'
   ·cases h';exact .inl rfl
   ·rcases R.wd.own a r h' with z|z
    ·exact .inl z
    ·refine .inr ?_;show(if a=p then some o else B.Fr a)=none;rw[if_neg c];exact z
 ·obtain⟨a,e,x⟩:=R.wd.obj n ob h;exact⟨a,e,x.keep d fun b u hb _=>kp b u hb⟩
 ·obtain⟨v,i,x⟩:=R.slots j b e g;exact⟨v,i,x.keep d fun a u c f=>⟨(kp a u c).1,(kp a u c).2.trans f⟩⟩
def Rel.unhold(R:Rel cl (B.hold p o) σ w ρ S)(I:B.Fr p=none):Rel cl B σ w ρ S:=by
 refine⟨⟨fun a u h=>?_,fun a r h=>?_,R.wd.len,R.wd.obj,R.wd.tab⟩,R.len,R.slots⟩
 ·have c:a≠p:=fun z=>by rw[z,I]at h;cases h
  have h2:=R.wd.fr a u (show(if a=p then some o else B.Fr a)=some u by rw[if_neg c];exact h);exact⟨h2.1,h2.2.trans (show(if a=p then some Root.far else B.fw a)=_ from if_neg c)⟩
 ·rcases R.wd.own a r h with z|z
  ·exact .inl z
  ·have b:(if a=p then some o else B.Fr a)=none:=z;split at b
   ·cases b
   ·exact .inr b
end
section
variable{cl:Cf}{w:Wd}{n:Nat}{B:Base}{σ:St}{ρ:Env}{S:Sto}
def Rel.newo{a dx p:Addr}{ob:Ob}{fs:List (Str×V)}{f:Str}{o0:HO}{d0:D}(R:Rel cl B σ w ρ S)(hn:S[n]?=some ob)(J:w.mu[n]?=some a)(how:w.ow a=some (.obj n))(hH:w.H a=some (.ins (cl ob.cls) dx fs))(hF:zcV cl w n fs ob.fs)(I:w.H p=none)(U:Top cl w o0 d0):
  Rel cl B σ ((w.addF p o0 n f).mut a (.ins (cl ob.cls) dx (zdh f (.ref p) fs))) ρ (S.set n (ob.put f true (.tup [d0])))/\Fut w ((w.addF p o0 n f).mut a (.ins (cl ob.cls) dx (zdh f (.ref p) fs))):=by
 have k:a≠p:=zat hH I
 have kp:∀b u,w.H b=some u->w.ow b≠some (.obj n)->((w.addF p o0 n f).mut a (.ins (cl ob.cls) dx (zdh f (.ref p) fs))).H b=some u/\((w.addF p o0 n f).mut a (.ins (cl ob.cls) dx (zdh f (.ref p) fs))).ow b=w.ow b:=fun b u hb c=>by
  have j:b≠p:=zat hb I;refine⟨?_,?_⟩
  ·show upd (upd w.H p _) a _ b=_;rw[zab (fun z=>c (by rw[z];exact how)),zab j];exact hb
  ·show(if b=p then _ else w.ow b)=_;rw[if_neg j]
 have d:Fut w ((w.addF p o0 n f).mut a (.ins (cl ob.cls) dx (zdh f (.ref p) fs))):=⟨fun b u hb hk=>by
  have:=kp b u hb (by rw[hk];exact fun z=>by cases z)
  exact⟨this.1,this.2.trans hk⟩,fun _ _ h=>h⟩
 have F:B.Fr a=none:=(R.wd.own a _ how).elim (fun z=>by cases z) fun z=>z
 have t:B.Fr p=none:=by
  cases z:B.Fr p with
  |none=>rfl|some u=>have:=(R.wd.fr p u z).1;rw[I]at this;cases this
 have Hp:((w.addF p o0 n f).mut a (.ins (cl ob.cls) dx (zdh f (.ref p) fs))).H p=some o0:=by
  show upd (upd w.H p _) a _ p=_;rw[zab k.symm,zao]
 have l:((w.addF p o0 n f).mut a (.ins (cl ob.cls) dx (zdh f (.ref p) fs))).ow p=some (.fld n f):=if_pos rfl
 have q:((w.addF p o0 n f).mut a (.ins (cl ob.cls) dx (zdh f (.ref p) fs))).ow a=some (.obj n):=by
  show(if a=p then _ else w.ow a)=_;rw[if_neg k];exact how
 refine⟨⟨⟨fun b u h=>?_,fun b r h=>?_,by rw[yaP];exact R.wd.len,fun m s h=>?_,R.wd.tab.keep d fun P ps h1 h2=>⟨(kp P _ h1 (by rw[h2];simp)).1,(kp P _ h1 (by rw[h2];simp)).2.trans h2⟩⟩,R.len,fun i o e h=>?_⟩,d⟩
 ·have:=kp b u (R.wd.fr b u h).1 fun z=>by
   rcases R.wd.own b _ z with y|y
   ·cases y
   ·rw[h]at y;cases y
  exact⟨this.1,this.2.trans (R.wd.fr b u h).2⟩
 ·have h':(if b=p then some (Root.fld n f)else w.ow b)=some r:=h;split at h'
  ·rename_i z;rw[z];exact .inr t
  ·exact R.wd.own b r h'
 ·rcases zib h with⟨rfl,rfl⟩|⟨c,h⟩
  ·refine⟨a,J,q,dx,_,zao,?_⟩;refine zcV.put (hF.keepF d fun b u g hb C=>?_) (.inr ⟨rfl,d0,rfl,p,o0,rfl,l,Hp,U.up d⟩);have:=kp b u hb (by rw[C];exact fun z=>by cases z);exact⟨this.1,this.2.trans C⟩
  ·obtain⟨b,e,x⟩:=R.wd.obj m s h;exact⟨b,e,x.keep d fun b u hb hm=>kp b u hb fun z=>by rw[z]at hm;exact c hm.symm⟩
 ·obtain⟨v,E,x⟩:=R.slots i o e h
  exact⟨v,E,x.keep d fun b u hb A=>by
   have:=kp b u hb (by rw[A];exact fun z=>by cases z)
   exact⟨this.1,this.2.trans A⟩⟩
def Rel.seto{a dx c:Addr}{ob:Ob}{fs:List (Str×V)}{f:Str}{o0:HO}{d0:D}(R:Rel cl B σ w ρ S)(hn:S[n]?=some ob)(J:w.mu[n]?=some a)(how:w.ow a=some (.obj n))(hH:w.H a=some (.ins (cl ob.cls) dx fs))(hF:zcV cl w n fs ob.fs)
  (hl:fs.lookup f=some (.ref c)) (I:w.ow c=some (.fld n f)) (U:Top cl w o0 d0) (nd:zem ob=true):
  Rel cl B σ (w.mut c o0) ρ (S.set n (ob.put f true (.tup [d0])))/\Fut w (w.mut c o0):=by
 have j:=zdx (w:=w) (p:=c) (o:=o0) (by rw[I];exact yaF _)
 have kp:∀b o,w.H b=some o->w.ow b≠some (.fld n f)->(w.mut c o0).H b=some o/\(w.mut c o0).ow b=w.ow b:=fun b o hb d=>⟨by
  show upd w.H c _ b=_
  rw[zab (fun z=>d (by rw[z];exact I))];exact hb,rfl⟩
 have s:B.Fr c=none:=(R.wd.own c _ I).elim (fun z=>by cases z) fun z=>z
 refine⟨⟨⟨fun b o h=>?_,R.wd.own,by rw[yaP];exact R.wd.len,fun q l h=>?_,R.wd.tab.keep j fun P ps h1 h2=>⟨(kp P _ h1 (by rw[h2];simp)).1,(kp P _ h1 (by rw[h2];simp)).2.trans h2⟩⟩,R.len,fun i o e h=>?_⟩,j⟩
 ·refine⟨?_,(R.wd.fr b o h).2⟩;show upd w.H c _ b=_;rw[zab (fun z=>by rw[z,s]at h;cases h)];exact(R.wd.fr b o h).1
 ·rcases zib h with⟨rfl,rfl⟩|⟨d,h⟩
  ·refine⟨a,J,how,dx,fs,?_,?_⟩
   ·exact(kp a _ hH (by rw[how];exact fun z=>by cases z)).1
   ·refine zcV.dic (a:=c) j (fun b o g r hb k=>?_) (.inr ⟨rfl,d0,rfl,c,o0,rfl,I,zao,U.up j⟩) hF (yah nd) hl
    ·exact⟨(kp b o hb (by rw[k];exact fun z=>r (by cases z;rfl))).1,k⟩
  ·obtain⟨b,e,x⟩:=R.wd.obj q l h;exact⟨b,e,x.keep j fun b o hb hm=>kp b o hb fun z=>by rw[z]at hm;exact d hm.symm⟩
 ·obtain⟨m,t,x⟩:=R.slots i o e h;exact⟨m,t,x.keep j fun b o hb k=>⟨(kp b o hb (by rw[k];exact fun z=>by cases z)).1,k⟩⟩
end
noncomputable def zsQ(cn f:Str)(d:D)(S:Sto):Option (Nat×Ob×D):=match d with
 |.ref n=>(match S[n]? with
  |some ob=>if ob.cls=cn then(match ob.fs.lookup f with|some (true,.tup [d])=>some (n,ob,d)|_=>none)else none
  |none=>none)
 |_=>none
section
variable{cl:Cf}{cn:Str}{X:Cx}{E:St->XK}{e:Expr}{fe:Fe}{f:Str}{pos:Pos}{B:Base}{σ:St}{w:Wd}{ρ:Env}{S:Sto}
def zui{v:V}{d:D}{n:Nat}{ob:Ob}{d0:D}(hk:zfS cl cn f)(R:Rel cl B σ w ρ S)(hv:Shd cl w v d)(hd:zsQ cn f d S=some (n,ob,d0)):
  ∃a dx fs c o,v=.ref a/\S[n]?=some ob/\w.mu[n]?=some a/\w.ow a=some (.obj n)/\w.H a=some (.ins (cl ob.cls) dx fs)/\zcV cl w n fs ob.fs/\Cls cl.K (cl ob.cls)/\zcp cl.K (cl ob.cls) f/\fs.lookup f=some (.ref c)/\w.ow c=some (.fld n f)/\w.H c=some o/\Top cl w o d0:=by
 unfold zsQ at hd
 cases d with
 |ref j=>
  dsimp only at hd
  cases e:S[j]? with
  |none=>rw[e]at hd;cases hd|some i=>
   rw[e]at hd;dsimp only at hd;split at hd
   ·rename_i b;split at hd
    ·rename_i ds' k;cases hd;obtain⟨a,dx,fs,rfl,g,how,l,h⟩:=zfj R hv e;obtain⟨v,lv,fr⟩:=h.look k
     rcases fr with⟨z,_⟩|⟨_,p,z,c,o,rfl,c1,c2,m⟩
     ·cases z
     ·cases z;exact⟨a,dx,fs,c,o,rfl,e,g,how,l,h,b ▸ hk.1,b ▸ hk.2,lv,c1,c2,m⟩
    ·cases hd
   ·cases hd
 |_=>cases hd
end
noncomputable abbrev Fq:=Env->Sto->Option D
noncomputable def tQ(cl:Cf)(g:Fq):TE:=fun σ H Q=>∃B w ρ S d,w.H=H/\Rel cl B σ w ρ S/\g ρ S=some d/\∀v,Shd cl w v d->Q v H
def zif:List Fq->Env->Sto->Option (List D)
 |[],_,_=>some []|g::gs,ρ,S=>(g ρ S).bind fun d=>(zif gs ρ S).map (d::·)
noncomputable def zbI(i:Nat):Fq:=fun ρ _=>match ρ[i]? with|some (some (false,d))=>some d|_=>none
section
variable{X:Cx}{cl:Cf}{e o:Expr}{es:List Expr}{g:Fq}{gs:List Fq}{pos:Pos}{f cn:Str}
def zsr{i:Nat}{x:Str}(hN:X.N[i]?=some x)(hv:Vis X.env.scope x)(hd:(x==("__debug__":Str))=false)(hcd:(x==("__classdict__":Str))=false):PE X (.Name x pos) (tQ cl (zbI i)):=by
 refine PE.imp (zaT hN hv hd hcd) ?_;rintro σ H Q ⟨B,w,ρ,S,d,rfl,R,a,q⟩;unfold zbI at a;split at a
 ·rename_i d' hi;cases a;obtain⟨v,ev,b⟩:=R.slots i false _ hi;exact⟨v,ev,q v b⟩
 ·cases a
noncomputable def tQs(cl:Cf)(gs:List Fq):TA:=fun σ H Q=>∃B w ρ S ds,w.H=H/\Rel cl B σ w ρ S/\zif gs ρ S=some ds/\∀vs,Shds cl w vs ds->Q vs H
def zsq:PA X [] (tQs cl []):=PA.imp zbU fun σ H Q ⟨B,w,ρ,S,ds,e,R,h,q⟩=>by cases h;exact q [] .nil
def zqa(he:PE X e (tQ cl g))(I:PA X es (tQs cl gs))(hs:starEach (e::es) X.env=(false,eval e X.env)::starEach es X.env):PA X (e::es) (tQs cl (g::gs)):=by
 refine PA.imp (za2 he I hs) ?_;rintro σ H Q ⟨B,w,ρ,S,ds,rfl,R,a,q⟩;unfold zif at a
 cases h1:g ρ S with
 |none=>rw[h1]at a;cases a|some d=>
  rw[h1]at a
  cases h2:zif gs ρ S with
  |none=>rw[h2]at a;cases a|some c=>
   rw[h2]at a;cases a;exact⟨B,w,ρ,S,d,rfl,R,h1,fun v hv=>⟨B,w,ρ,S,c,rfl,R,h2,fun vs b=>q _ (.cons hv b)⟩⟩
end
noncomputable def zko(cn f:Str)(ρ:Env)(S:Sto)(i:Nat):Option (Nat×Ob×D):=match ρ[i]? with|some (some (false,d))=>zsQ cn f d S|_=>none
def zfn(cn f:Str)(i:Nat):Fs:=fun ρ S=>match ρ[i]? with
 |some (some (false,.ref n))=>(match S[n]? with
   |some ob=>if decide (ob.cls=cn)&&decide (ob.fs.length<1000)then .nx ρ (S.set n (ob.put f true (.tup [.lst []])))else .bad
   |none=>.bad)
 |_=>.bad
def zp4(cn f:Str)(i:Nat)(g:Fq):Fs:=fun ρ S=>match zko cn f ρ S i,g ρ S with
 |some (n,ob,.lst l),some d=>if zau l.length&&zem ob then .nx ρ (S.set n (ob.put f true (.tup [.lst (l++[d])])))else .bad
 |_,_=>.bad
def zrd(cn f:Str)(i:Nat):Fe:=fun ρ S=>match zko cn f ρ S i with
 |some (n,ob,.lst l)=>(match l[l.length-1]? with|some d=>if zem ob then .ok d (S.set n (ob.put f true (.tup [.lst l.dropLast])))else .bad|none=>.bad)
 |_=>.bad
def zre(cn f:Str)(i:Nat):Fe:=fun ρ S=>match zko cn f ρ S i with
 |some (_,_,.lst l)=>.ok (.int l.length) S|_=>.bad
section
variable{X:Cx}{cl:Cf}{E:St->XK}{own:Bool}{e:Expr}{es:List Expr}{g:Fq}{gs:List Fq}{pos pos' apos ap cp p p2:Pos}{f cn:Str}{i:Nat}{x:Str}
def zd4{B:Base}{σ:St}{w:Wd}{ρ:Env}{S:Sto}{n:Nat}{ob:Ob}{d0:D}(hk:zfS cl cn f)(R:Rel cl B σ w ρ S)(h:zko cn f ρ S i=some (n,ob,d0)):
  ∃a dx fs c o,σ[i]?=some (some (.ref a))/\S[n]?=some ob/\w.mu[n]?=some a/\w.ow a=some (.obj n)/\w.H a=some (.ins (cl ob.cls) dx fs)/\zcV cl w n fs ob.fs/\Cls cl.K (cl ob.cls)/\zcp cl.K (cl ob.cls) f/\fs.lookup f=some (.ref c)/\w.ow c=some (.fld n f)/\w.H c=some o/\Top cl w o d0:=by
 unfold zko at h;split at h
 ·rename_i d hi;obtain⟨v,ev,b⟩:=R.slots i false _ hi;obtain⟨a,dx,fs,c,o,rfl,h1⟩:=zui hk R b h;exact⟨a,dx,fs,c,o,ev,h1⟩
 ·cases h
def zpJ(hN:X.N[i]?=some x)(hv:Vis X.env.scope x)(hd:(x==("__debug__":Str))=false)(hcd:(x==("__classdict__":Str))=false)(sm:Same' cl X)(hk:zfS cl cn f)(hs:swapsWith (.List [] p) (some (.Attribute (.Name x p2) f apos)) pos.line X.env=pure false):PS X (.Assign [.Attribute (.Name x p2) f apos] (.List [] p) pos) (tS cl E own (zfn cn f i)):=by
 refine PS.imp (zi4 (zaT hN hv hd hcd) (zoN zbU) hs) ?_;rintro o σ H ⟨B,w,ρ,S,rfl,R,q⟩;refine⟨by decide,fun m c=>?_⟩;unfold zfn at q;split at q
 ·rename_i n hi;obtain⟨v,ev,j⟩:=R.slots i false _ hi
  cases d:S[n]? with
  |none=>rw[d]at q;exact q.elim|some ob=>
   rw[d]at q;dsimp only at q;split at q
   ·rename_i b;rw[yaa]at b;obtain⟨a,dx,fs,rfl,e,how,g,h⟩:=zfj R j d;rw[sm.kk];refine⟨_,ev,a,_,dx,fs,rfl,?_,yah b.1 ▸ hk.1,yah b.1 ▸ hk.2,by rw[h.len];exact yah b.2,?_⟩
    ·rw[zab (zat g c)];exact g
    ·obtain⟨k,l⟩:=R.newo (f:=f) d e how g h c (.lst .nil);exact q σ _ k l
   ·exact q.elim
 ·exact q.elim
def zpM(hN:X.N[i]?=some x)(hv:Vis X.env.scope x)(hd:(x==("__debug__":Str))=false)(hcd:(x==("__classdict__":Str))=false)(sm:Same' cl X)(hk:zfS cl cn f)(hb:attributeBase (.Name x p) f X.env (eval (.Name x p) X.env)=eval (.Name x p) X.env)(he:PE X e (tQ cl g))(ae:attributeBase (.Attribute (.Name x p) f apos) "append" X.env (eval (.Attribute (.Name x p) f apos) X.env)=eval (.Attribute (.Name x p) f apos) X.env)
  (af:zbi e=true) (I:(ap.endLine==cp.line)=true):PS X (.Expr (.Call (.Attribute (.Attribute (.Name x p) f apos) "append" ap) [e] [] cp) pos) (tS cl E own (zp4 cn f i g)):=by
 refine PS.imp (zd3 (zjW (es:=[]) ybg ycl ycm zeR (zcg (zaT hN hv hd hcd) hb) (za2 he zbU (za4 af)) (ae:=ae) (hfew:=ze9 (by simp[af]) (by simp)) (aj:=I) (hs:=za4 af) (aq:=rfl))) ?_;rintro A σ H ⟨B,w,ρ,S,rfl,R,q⟩;unfold zp4 at q;split at q
 ·rename_i n ob l d m r;obtain⟨a,dx,fs,c,o,ev,s,h,how,k,u,c1,c2,lv,oc,j,t⟩:=zd4 hk R m;split at q
  ·rename_i b;rw[yaa]at b
   cases t with
   |lst t=>
    rw[sm.kk];refine⟨_,ev,a,_,dx,fs,_,rfl,k,c1,c2,lv,.inl ⟨rfl,_,SqL.of j⟩,B,w,ρ,S,d,rfl,R,r,fun v h'=>?_⟩;refine⟨c,_,v,rfl,rfl,j,by rw[t.length];exact zdI b.1,?_⟩;obtain⟨y,z⟩:=R.seto s h how k u lv oc (.lst (t.append (.cons h' .nil))) b.2;exact q σ _ y z
  ·exact q.elim
 ·exact q.elim
def zpX(hN:X.N[i]?=some x)(hv:Vis X.env.scope x)(hd:(x==("__debug__":Str))=false)(hcd:(x==("__classdict__":Str))=false)(sm:Same' cl X)(hk:zfS cl cn f)(hb:attributeBase (.Name x p) f X.env (eval (.Name x p) X.env)=eval (.Name x p) X.env)(ae:attributeBase (.Attribute (.Name x p) f apos) "pop" X.env (eval (.Attribute (.Name x p) f apos) X.env)=eval (.Attribute (.Name x p) f apos) X.env)
  (I:(ap.endLine==cp.line)=true):PE X (.Call (.Attribute (.Attribute (.Name x p) f apos) "pop" ap) [] [] cp) (tE cl E (zrd cn f i)):=by
 refine PE.imp (zsJ ybg PySem.F.slot_list_pop PySem.F.type_list_pop ztg (zcg (zaT hN hv hd hcd) hb) (ae:=ae) (aj:=I)) ?_;rintro σ H Q ⟨B,w,ρ,S,rfl,R,q⟩;unfold zrd at q
 cases h:zko cn f ρ S i with
 |none=>rw[h]at q;exact q.elim|some u=>
  obtain⟨n,ob,d0⟩:=u;rw[h]at q
  cases d0 with
  |lst l=>
   dsimp only at q;obtain⟨a,dx,fs,c,o,ev,z,g,how,r,A,c1,c2,lv,oc,m,t⟩:=zd4 hk R h
   cases e:l[l.length-1]? with
   |none=>rw[e]at q;exact q.elim|some d=>
    rw[e]at q;dsimp only at q
    cases b:zem ob with
    |false=>rw[b,if_neg (by decide)]at q;exact q.elim
    |true=>
     rw[b,if_pos rfl]at q
     cases t with
     | @lst xs _ t=>
      obtain⟨v,k,y⟩:=t.at e;rw[sm.kk]
      have j:Shds cl w xs.dropLast l.dropLast:=by
       rw[List.dropLast_eq_take,List.dropLast_eq_take,t.length];exact t.take _
      refine⟨_,ev,a,_,dx,fs,_,rfl,r,c1,c2,lv,.inl ⟨rfl,_,SqL.of m⟩,c,xs,v,rfl,rfl,m,by rw[t.length];exact k,?_⟩;obtain⟨C,s⟩:=R.seto z g how r A lv oc (.lst j) b;exact q v _ C s (y.up s)
  |_=>exact q.elim
def zpZ{I:Pos}{y:Str}(hN:X.N[i]?=some x)(hv:Vis X.env.scope x)(hd:(x==("__debug__":Str))=false)(hcd:(x==("__classdict__":Str))=false)(sm:Same' cl X)(hk:zfS cl cn f)(hb:attributeBase (.Name x p) f X.env (eval (.Name x p) X.env)=eval (.Name x p) X.env)(J:Gl X "len")(hm:X.mg "len"=none):
  PE X (.Call (.Name "len" I) [.Attribute (.Name x p) f apos] [] cp) (tE cl E (zre cn f i)):=by
 refine PE.imp (zcJ zco J hm PySem.boot_len (za2 (zcg (zaT hN hv hd hcd) hb) zbU)) ?_;rintro σ H Q ⟨B,w,ρ,S,rfl,R,q⟩;unfold zre at q
 cases b:zko cn f ρ S i with
 |none=>rw[b]at q;exact q.elim|some u=>
  obtain⟨n,ob,d0⟩:=u;rw[b]at q
  cases d0 with
  |lst l=>
   dsimp only at q;obtain⟨a,dx,fs,c,o,ev,h,d,how,g,j,c1,c2,lv,oc,e,t⟩:=zd4 hk R b
   cases t with
   |lst t=>
    rw[sm.kk];refine⟨_,ev,a,_,dx,fs,_,rfl,g,c1,c2,lv,c,_,rfl,.inl (SqL.of e),?_⟩;rw[t.length];exact q _ w R (Fut.refl _) (.int _)
  |_=>exact q.elim
end
noncomputable def eQ(g:Fq):Fe:=fun ρ S=>match g ρ S with|some d=>.ok d S|none=>.bad
def zj9(cn f:Str)(ρ:Env)(S:Sto)(i:Nat):Option (Nat×Ob×List (D×D)):=match zko cn f ρ S i with
 |some (n,ob,.dic ds)=>if zal ds then some (n,ob,ds)else none
 |_=>none
def zm7(cn f:Str)(i:Nat)(g:Fq):Fq:=fun ρ S=>match g ρ S,zj9 cn f ρ S i with|some (.str k),some (_,_,ds)=>some (.bl (zaj k ds).isSome)|_,_=>none
def zfo(cn f:Str)(i:Nat)(g:Fq):Fq:=fun ρ S=>match g ρ S,zj9 cn f ρ S i with|some (.str k),some (_,_,ds)=>some (.bl (!(zaj k ds).isSome))|_,_=>none
def zqd(cn f:Str)(i:Nat)(g:Fq):Fq:=fun ρ S=>match g ρ S,zj9 cn f ρ S i with|some (.str k),some (_,_,ds)=>zaj k ds|_,_=>none
def zgY(cn f:Str)(i:Nat)(g:Fq):Fq:=fun ρ S=>match g ρ S,zj9 cn f ρ S i with|some (.str k),some (_,_,ds)=>some ((zaj k ds).getD .non)|_,_=>none
def zk0(cn f:Str)(i:Nat):Fs:=fun ρ S=>match ρ[i]? with
 |some (some (false,.ref n))=>(match S[n]? with
   |some ob=>if decide (ob.cls=cn)&&decide (ob.fs.length<1000)then .nx ρ (S.set n (ob.put f true (.tup [.dic []])))else .bad
   |none=>.bad)
 |_=>.bad
def zjN(cn f:Str)(i:Nat)(gk ge:Fq):Fs:=fun ρ S=>match gk ρ S,ge ρ S,zj9 cn f ρ S i with
 |some (.str k),some d,some (n,ob,ds)=>if zau ds.length&&zem ob then .nx ρ (S.set n (ob.put f true (.tup [.dic (putS k d ds)])))else .bad
 |_,_,_=>.bad
def zjO(cn f:Str)(i:Nat)(gk:Fq):Fs:=fun ρ S=>match gk ρ S,zj9 cn f ρ S i with
 |some (.str k),some (n,ob,ds)=>if zem ob then(if(zaj k ds).isSome then .nx ρ (S.set n (ob.put f true (.tup [.dic (dropS k ds)])))else .nx ρ S)else .bad
 |_,_=>.bad
section
variable{X:Cx}{cl:Cf}{E:St->XK}{own:Bool}{e o:Expr}{g gk ge:Fq}{pos apos ap cp p p2 p3:Pos}{f cn:Str}{i:Nat}{x:Str}{σ:St}{H:Hp}{Q:VK}
def zpy(q:tE cl E (eQ g) σ H Q):tQ cl g σ H Q:=by
 obtain⟨B,w,ρ,S,rfl,R,q⟩:=q;unfold eQ at q
 cases a:g ρ S with
 |none=>rw[a]at q;exact q.elim|some d=>rw[a]at q;exact⟨B,w,ρ,S,d,rfl,R,a,fun v hv=>q v w R (Fut.refl _) hv⟩
def zvm(h:PE X e (tQ cl g)):PE X e (tE cl E (eQ g)):=PE.imp h fun _ _ _ q=>zpy q
def zgt{B:Base}{w:Wd}{ρ:Env}{S:Sto}{n:Nat}{ob:Ob}{ds:List (D×D)}(hk:zfS cl cn f)(R:Rel cl B σ w ρ S)(h:zj9 cn f ρ S i=some (n,ob,ds)):
  ∃a dx fs c kvs,σ[i]?=some (some (.ref a))/\S[n]?=some ob/\w.mu[n]?=some a/\w.ow a=some (.obj n)/\w.H a=some (.ins (cl ob.cls) dx fs)/\zcV cl w n fs ob.fs/\Cls cl.K (cl ob.cls)/\zcp cl.K (cl ob.cls) f/\fs.lookup f=some (.ref c)/\w.ow c=some (.fld n f)/\w.H c=some (.dK kvs)/\ShdK cl w kvs ds/\zal ds=true:=by
 unfold zj9 at h;split at h
 ·rename_i u g ds' j;split at h
  ·rename_i d;cases h;obtain⟨a,dx,fs,c,o,ev,h1,h2,s,r,q,p,m,l,k,b,t⟩:=zd4 hk R j;obtain⟨kvs,rfl,e⟩:=zpr t d;exact⟨a,dx,fs,c,kvs,ev,h1,h2,s,r,q,p,m,l,k,b,e,d⟩
  ·cases h
 ·cases h
def zfv{w:Wd}{v:V}{k:Str}(h:Shd cl w v (.str k)):v=.str k:=by cases h;rfl
def zm6{B:Base}{w:Wd}{ρ:Env}{S:Sto}{k:Str}{n:Nat}{ob:Ob}{ds:List (D×D)}{P:Option V->Prop}(hk:zfS cl cn f)(kk:X.K=cl.K)(R:Rel cl B σ w ρ S)(h:zj9 cn f ρ S i=some (n,ob,ds))
  (J:∀I:Option V,(I=none/\zaj k ds=none)\/(∃v d,I=some v/\zaj k ds=some d/\Shd cl w v d)->P I):
  ∃v,σ[i]?=some (some v)/\∃a C dx fs c,v=.ref a/\w.H a=some (.ins C dx fs)/\Cls X.K C/\zcp X.K C f/\fs.lookup f=some (.ref c)/\IsD w.H c/\∃I,zix w.H c (.str k) I/\P I:=by
 obtain⟨a,dx,fs,c,kvs,ev,_,_,_,m,_,l,j,g,_,b,t,e⟩:=zgt hk R h;rw[kk];exact⟨_,ev,a,_,dx,fs,c,rfl,m,l,j,g,.inl ⟨kvs,.inl b⟩,_,zix.k (k:=.inr k) b,J _ (zcZ k t e)⟩
def zxS(hk:zfS cl cn f)(kk:X.K=cl.K)(q:tQ cl (zm7 cn f i g) σ H Q):zw5 (tQ cl g) (zu8 X.K (zu4 i) f) σ H Q:=by
 obtain⟨B,w,ρ,S,d,rfl,R,e,q⟩:=q;unfold zm7 at e;split at e
 ·rename_i k n ob ds h1 h2;cases e;refine⟨B,w,ρ,S,_,rfl,R,h1,fun v hv=>?_⟩;rw[zfv hv]
  obtain⟨j,t,a,C,dx,fs,c,s,e2,r,p,o,_,b,m,l⟩:=zm6 (P:=fun b=>Q (.bl b.isSome) w.H) hk kk R h2 fun b h=>by
   rcases h with⟨rfl,h⟩|⟨_,_,rfl,h,_⟩<;>rw[h]at q<;>exact q _ (.bl _)
  exact⟨j,t,a,C,dx,fs,_,s,e2,r,p,o,c,b,rfl,m,l⟩
 ·cases e
def zoT(hk:zfS cl cn f)(kk:X.K=cl.K)(q:tQ cl (zfo cn f i g) σ H Q):zkJ (tQ cl g) (zu8 X.K (zu4 i) f) σ H Q:=by
 obtain⟨B,w,ρ,S,d,rfl,R,e,q⟩:=q;unfold zfo at e;split at e
 ·rename_i k n ob ds h1 h2;cases e;refine⟨B,w,ρ,S,_,rfl,R,h1,fun v hv=>?_⟩;rw[zfv hv]
  obtain⟨j,t,a,C,dx,fs,c,s,e2,r,p,o,_,b,m,l⟩:=zm6 (P:=fun b=>Q (.bl (!b.isSome)) w.H) hk kk R h2 fun b h=>by
   rcases h with⟨rfl,h⟩|⟨_,_,rfl,h,_⟩<;>rw[h]at q<;>exact q _ (.bl _)
  exact⟨j,t,a,C,dx,fs,_,s,e2,r,p,o,c,b,rfl,m,l⟩
 ·cases e
variable(hN:X.N[i]?=some x)(hv:Vis X.env.scope x)(hd:(x==("__debug__":Str))=false)(hcd:(x==("__classdict__":Str))=false)(sm:Same' cl X)(hk:zfS cl cn f)(hb:attributeBase (.Name x p) f X.env (eval (.Name x p) X.env)=eval (.Name x p) X.env)
include hN hv hd hcd sm hk hb
def zst(I:X.A.units+1<cLine)(he:PE X e (tQ cl g))(hm:behindInMarks .In (.Attribute (.Name x p) f apos)=false):PE X (.Compare e [.In] [.Attribute (.Name x p) f apos] pos) (tQ cl (zm7 cn f i g)):=
 PE.imp (zoP (zoQ I he (zcg (zaT hN hv hd hcd) hb)) hm) fun _ _ _ q=>zxS hk sm.kk q
def zqb(I:X.A.units+1<cLine)(he:PE X e (tQ cl g))(hm:behindInMarks .NotIn (.Attribute (.Name x p) f apos)=false):PE X (.Compare e [.NotIn] [.Attribute (.Name x p) f apos] pos) (tQ cl (zfo cn f i g)):=
 PE.imp (zoP (zg2 I he (zcg (zaT hN hv hd hcd) hb)) hm) fun _ _ _ q=>zoT hk sm.kk q
def zsp(I:X.A.units+1<cLine)(he:PE X e (tQ cl g))(hm:behindInMarks .In (.Attribute (.Name x p) f apos)=false):PT X (.Compare e [.In] [.Attribute (.Name x p) f apos] pos) (tTr cl E (eQ (zm7 cn f i g))):=
 PT.imp (zoH (zoQ I he (zcg (zaT hN hv hd hcd) hb)) hm) fun _ _ _ q=>zxS hk sm.kk (zpy (zgG q))
def zp9(I:X.A.units+1<cLine)(he:PE X e (tQ cl g))(hm:behindInMarks .NotIn (.Attribute (.Name x p) f apos)=false):PT X (.Compare e [.NotIn] [.Attribute (.Name x p) f apos] pos) (tTr cl E (eQ (zfo cn f i g))):=
 PT.imp (zoH (zg2 I he (zcg (zaT hN hv hd hcd) hb)) hm) fun _ _ _ q=>zoT hk sm.kk (zpy (zgG q))
def zqc(I:X.A.units+1<cLine)(he:PE X e (tQ cl g))(m:M1 X (.Attribute (.Name x p) f apos) "get" ap e cp):PE X (.Call (.Attribute (.Attribute (.Name x p) f apos) "get" ap) [e] [] cp) (tQ cl (zgY cn f i g)):=by
 refine PE.imp (zno I (zcg (zaT hN hv hd hcd) hb) he m) ?_;rintro σ H Q ⟨B,w,ρ,S,d,rfl,R,j,q⟩;unfold zgY at j;split at j
 ·rename_i k n ob ds h1 h2;cases j
  obtain⟨o,E,a,C,dx,fs,c,D,e2,z,y,u,l,b,t,s⟩:=zm6 (P:=fun b=>Q (b.getD .non) w.H) hk sm.kk R h2 fun b h=>by
   rcases h with⟨rfl,h⟩|⟨_,_,rfl,h,r⟩<;>rw[h]at q
   ·exact q _ .non
   ·exact q _ r
  refine⟨o,E,a,C,dx,fs,_,D,e2,z,y,u,c,rfl,l,B,w,ρ,S,_,rfl,R,h1,fun v hv=>?_⟩;rw[zfv hv];exact⟨b,t,s⟩
 ·cases j
def zss(I:X.A.units+1<cLine)(he:PE X e (tQ cl g))(hs:zwu e):PE X (.Subscript (.Attribute (.Name x p) f apos) e pos) (tQ cl (zqd cn f i g)):=by
 refine PE.imp (zqt I (zcg (zaT hN hv hd hcd) hb) he hs) ?_;rintro σ H Q ⟨B,w,ρ,S,d,rfl,R,b,q⟩;unfold zqd at b;split at b
 ·rename_i k n ob ds h1 h2
  obtain⟨l,E,a,C,dx,fs,c,D,e2,z,u,t,s,j,o,v,rfl,m⟩:=zm6 (P:=fun j=>∃v,j=some v/\Q v w.H) hk sm.kk R h2 fun j h=>by
   rcases h with⟨rfl,h⟩|⟨v,_,rfl,h,r⟩<;>rw[h]at b
   ·cases b
   ·cases b;exact⟨v,rfl,q _ r⟩
  refine⟨l,E,a,C,dx,fs,_,D,e2,z,u,t,B,w,ρ,S,_,rfl,R,h1,fun y hv=>?_⟩;rw[zfv hv];exact⟨c,v,rfl,o,m⟩
 ·cases b
omit hb
def zpK(hs:swapsWith (.Dict [] [] p) (some (.Attribute (.Name x p2) f apos)) pos.line X.env=pure false):PS X (.Assign [.Attribute (.Name x p2) f apos] (.Dict [] [] p) pos) (tS cl E own (zk0 cn f i)):=by
 refine PS.imp (zi4 (zaT hN hv hd hcd) zi5 hs) ?_;rintro o σ H ⟨B,w,ρ,S,rfl,R,q⟩;intro m c;unfold zk0 at q;split at q
 ·rename_i n hi;obtain⟨v,ev,j⟩:=R.slots i false _ hi
  cases d:S[n]? with
  |none=>rw[d]at q;exact q.elim|some ob=>
   rw[d]at q;dsimp only at q;split at q
   ·rename_i b;rw[yaa]at b;obtain⟨a,dx,fs,rfl,e,how,g,h⟩:=zfj R j d;rw[sm.kk];refine⟨_,ev,a,_,dx,fs,rfl,?_,yah b.1 ▸ hk.1,yah b.1 ▸ hk.2,by rw[h.len];exact yah b.2,?_⟩
    ·rw[zab (zat g c)];exact g
    ·obtain⟨k,l⟩:=R.newo (f:=f) d e how g h c (.dicK .nil);exact q σ _ k l
   ·exact q.elim
 ·exact q.elim
include hb
def zpF(U:X.A.units+1<cLine)(J:PE X e (tQ cl gk))(I:PE X o (tQ cl ge))(hs:swapsWith o (some (.Subscript (.Attribute (.Name x p) f apos) e p3)) pos.line X.env=pure false):PS X (.Assign [.Subscript (.Attribute (.Name x p) f apos) e p3] o pos) (tS cl E own (zjN cn f i gk ge)):=by
 refine PS.imp (zqi U (zcg (zaT hN hv hd hcd) hb) J I hs) ?_;rintro D σ H ⟨B,w,ρ,S,rfl,R,q⟩;unfold zjN at q;split at q
 ·rename_i k d n ob ds h1 h2 u;split at q
  ·rename_i b;rw[yaa]at b;refine⟨B,w,ρ,S,_,rfl,R,h2,fun v hv=>?_⟩;obtain⟨a,dx,fs,c,kvs,ev,r,g,how,h,s,c1,c2,lv,oc,m,t,l⟩:=zgt hk R u;rw[sm.kk];refine⟨_,ev,a,_,dx,fs,_,rfl,h,c1,c2,lv,B,w,ρ,S,_,rfl,R,h1,fun y j=>?_⟩;rw[zfv j];refine⟨c,_,rfl,zru.k (k:=.inr k) m (by rw[t.length];exact zdI b.1),?_⟩;obtain⟨z,C⟩:=R.seto r g how h s lv oc (.dicK (t.putS l hv)) b.2;exact q σ _ z C
  ·exact q.elim
 ·exact q.elim
def zpG{j:Nat}(I:PE X e (tQ cl gk))(m:M2 X (.Attribute (.Name x p) f apos) "pop" ap e (.Constant .none j p2) cp):PS X (.Expr (.Call (.Attribute (.Attribute (.Name x p) f apos) "pop" ap) [e,.Constant .none j p2] [] cp) pos) (tS cl E own (zjO cn f i gk)):=by
 refine PS.imp (zd3 (znm (zcg (zaT hN hv hd hcd) hb) I zoM m)) ?_;rintro F σ H ⟨B,w,ρ,S,rfl,R,q⟩;unfold zjO at q;split at q
 ·rename_i k n ob ds h1 A;split at q
  ·rename_i o;obtain⟨a,dx,fs,c,kvs,ev,s,d,how,l,u,c1,c2,lv,oc,h,t,b⟩:=zgt hk R A;rw[sm.kk];refine⟨_,ev,a,_,dx,fs,_,rfl,l,c1,c2,lv,c,rfl,.inl ⟨kvs,.inl h⟩,B,w,ρ,S,_,rfl,R,h1,fun y r=>?_⟩;rw[zfv r];refine⟨kvs,.inr k,h,rfl,fun v hv=>?_,fun g=>?_⟩
   ·rcases zcZ k t b with⟨z,_⟩|⟨_,_,_,z,_⟩
    ·rw[z]at hv;cases hv
    ·rw[z]at q;simp only[yc3,yci]at q;obtain⟨C,D⟩:=R.seto s d how l u lv oc (.dicK (t.dropS (k:=k) b)) o;exact q σ _ C D
   ·rcases zcZ k t b with⟨_,z⟩|⟨_,_,z,_⟩
    ·rw[z]at q;simp only[Option.isSome_none,yb0,ydg]at q;exact q σ w R (Fut.refl _)
    ·rw[z]at g;cases g
  ·exact q.elim
 ·exact q.elim
end
def zjP(cn f:Str)(i:Nat)(gs:List Fq):Fs:=fun ρ S=>match zko cn f ρ S i,zif gs ρ S with
 |some (n,ob,.lst l),some ds=>if zau l.length&&zau ds.length&&zem ob then .nx ρ (S.set n (ob.put f true (.tup [.lst (l++[.tup ds])])))else .bad
 |_,_=>.bad
section
variable{X:Cx}{cl:Cf}{E:St->XK}{own:Bool}{es:List Expr}{gs:List Fq}{pos apos ap cp p p2:Pos}{f cn:Str}{i kk:Nat}{x:Str}
def zpL(hN:X.N[i]?=some x)(hv:Vis X.env.scope x)(hd:(x==("__debug__":Str))=false)(hcd:(x==("__classdict__":Str))=false)(sm:Same' cl X)(hk:zfS cl cn f)(hb:attributeBase (.Name x p) f X.env (eval (.Name x p) X.env)=eval (.Name x p) X.env)(he:PA X es (tQs cl gs))(ae:attributeBase (.Attribute (.Name x p) f apos) "append" X.env (eval (.Attribute (.Name x p) f apos) X.env)=eval (.Attribute (.Name x p) f apos) X.env)
  (I:(ap.endLine==cp.line)=true):PS X (.Expr (.Call (.Attribute (.Attribute (.Name x p) f apos) "append" ap) [.Tuple es kk p2] [] cp) pos) (tS cl E own (zjP cn f i gs)):=by
 refine PS.imp (zd3 (zjW (es:=[]) ybg ycl ycm zeR (zcg (zaT hN hv hd hcd) hb) (za2 (zoK he) zbU (za4 rfl)) (ae:=ae) (hfew:=ze9 rfl (by simp)) (aj:=I) (hs:=za4 rfl) (aq:=rfl))) ?_;rintro O σ H ⟨B,w,ρ,S,rfl,R,q⟩;unfold zjP at q;split at q
 ·rename_i n ob l ds y F;obtain⟨a,dx,fs,c,o,ev,G,D,how,A,M,c1,c2,lv,oc,z,t⟩:=zd4 hk R y;split at q
  ·rename_i r;rw[yaa,yaa]at r
   cases t with
   |lst t=>
    rw[sm.kk];refine⟨_,ev,a,_,dx,fs,_,rfl,A,c1,c2,lv,.inl ⟨rfl,_,SqL.of z⟩,B,w,ρ,S,ds,rfl,R,F,fun vs d=>⟨by rw[d.length];exact zaI r.1.2,fun pn e=>?_⟩⟩;have s:=zaw e (.tup vs);have R2:Rel cl B σ (w.add pn (.tup vs)) ρ S:=R.grow s;obtain⟨a',J,fs',c',o',m,_,h,g,k,v,_,_,b,u,j,t'⟩:=zd4 hk R2 y;rw[ev]at m;cases m;have C:=(s.keep a _ A).1;rw[k]at C;cases C;rw[lv]at b;cases b;have e2:=(s.keep c _ z).1;rw[j]at e2;cases e2
    cases t' with
    |lst t'=>
     refine⟨c,_,_,rfl,rfl,j,by rw[t.length];exact zdI r.1.1,?_⟩;obtain⟨K,L⟩:=R2.seto G h g k v lv u (.lst (t'.append (.cons (Shd.newT e d) .nil))) r.2;exact q σ _ K (s.fut.trans L)
  ·exact q.elim
 ·exact q.elim
end
def zkY(cn f:Str)(i:Nat)(d:D):Fs:=fun ρ S=>match ρ[i]? with
 |some (some (false,.ref n))=>(match S[n]? with
   |some ob=>if decide (ob.cls=cn)&&decide (ob.fs.length<1000)then .nx ρ (S.set n (ob.put f true (.tup [d])))else .bad
   |none=>.bad)
 |_=>.bad
noncomputable def zgP(cn f:Str)(i:Nat)(g:Fe):Fs:=fun ρ S=>match g ρ S with|.ok d S1=>zkY cn f i d ρ S1|.exc c S1=>.ex c ρ S1|.bad=>.bad
section
variable{X:Cx}{cl:Cf}{E:St->XK}{own:Bool}{pos apos apos2 cp p p2 p3:Pos}{f g cn:Str}{i j:Nat}{x y:Str}
def zqE{B:Base}{w:Wd}{σ:St}{ρ:Env}{S:Sto}{U:Ends}{J:Addr}{o0:HO}{d:D}(hk:zfS cl cn f)(kk:X.K=cl.K)(R:Rel cl B σ w ρ S)(I:w.H J=none)(ht:Top cl w o0 d)(q:zhM cl E own B w U (zkY cn f i d ρ S)):
  ∃v,σ[i]?=some (some v)/\∃a C dx fs,v=.ref a/\upd w.H J o0 a=some (.ins C dx fs)/\Cls X.K C/\zcp X.K C f/\fs.length<1000/\U.nx σ (upd (upd w.H J o0) a (.ins C dx (zdh f (.ref J) fs))):=by
 unfold zkY at q;split at q
 ·rename_i n hi;obtain⟨v,ev,j⟩:=R.slots i false _ hi
  cases c:S[n]? with
  |none=>rw[c]at q;exact q.elim|some ob=>
   rw[c]at q;dsimp only at q;split at q
   ·rename_i b;rw[yaa]at b;obtain⟨a,dx,fs,rfl,e,how,g,h⟩:=zfj R j c;rw[kk];refine⟨_,ev,a,_,dx,fs,rfl,?_,yah b.1 ▸ hk.1,yah b.1 ▸ hk.2,by rw[h.len];exact yah b.2,?_⟩
    ·rw[zab (zat g I)];exact g
    ·obtain⟨k,l⟩:=R.newo (f:=f) c e how g h I ht;exact q σ _ k l
   ·exact q.elim
 ·exact q.elim
def zpH{e:Expr}{h:Fe}(hN:X.N[i]?=some x)(hv:Vis X.env.scope x)(hd:(x==("__debug__":Str))=false)(hcd:(x==("__classdict__":Str))=false)(kk:X.K=cl.K)(hk:zfS cl cn f)(he:PE X e (tN cl E h))
  (hs:swapsWith e (some (.Attribute (.Name x p) f apos)) pos.line X.env=pure false):PS X (.Assign [.Attribute (.Name x p) f apos] e pos) (tS cl E own (zgP cn f i h)):=by
 refine PS.imp (zi4 (zaT hN hv hd hcd) he hs) ?_;rintro l σ H ⟨B,w,ρ,S,rfl,R,q⟩;refine⟨B,w,ρ,S,rfl,R,?_⟩;unfold zgP at q
 cases hf:h ρ S with
 |bad=>rwa[hf]at q|exc c S1=>rw[hf]at q;exact fun w' b g=>q σ w' b g|ok d S1=>
  rw[hf]at q;intro k o w' b g a j;exact zqE hk kk b a j (zhM.up g q)
end
def eSm(g:Str->D->Option D)(fo f:Fe):Fe:=fun ρ S=>(fo ρ S).bind fun d S1=>match d with|.str x=>(f ρ S1).bind fun d S2=>Out.of (g x d) S2|_=>.bad
noncomputable def MtS(X:Cx)(cl:Cf)(id:String)(g:Str->D->Option D):Prop:=MtR X id fun x vs H Q=>∃(y:Str) (w:Wd) (d:D) (v:V) (r:D),w.H=H/\x=.str y/\vs=[v]/\Shd cl w v d/\g y d=some r/\∀a w',Grow w w'->Shd cl w' a r->Q a w'.H
section
variable{X:Cx}{cl:Cf}{E:St->XK}{o e e2:Expr}{fo f f2:Fe}
def zvi{name:Str}{id:String}{g:Str->D->Option D}{ap cp:Pos}(slot:Slot "str" name id)(I:typeOf (.builtin id)=pure (.type "method_descriptor"))(hm:MtS X cl id g)(ho:PE X o (tE cl E fo))(he:PE X e (tE cl E f))(af:zbi e=true)
  (hb:attributeBase o name X.env (eval o X.env)=eval o X.env) (J:(ap.endLine==cp.line)=true):PE X (.Call (.Attribute o name ap) [e] [] cp) (tE cl E (eSm g fo f)):=by
 refine PE.imp (zjW (es:=[]) PySem.F.plainAttrs_str slot I hm ho (zaR he zek (za4 af)) hb (ze9 (by simp[af]) (by simp)) J (za4 af) rfl) ?_;rintro σ H Q ⟨B,w,ρ,S,rfl,R,q⟩;refine⟨B,w,ρ,S,rfl,R,?_⟩;unfold eSm at q
 cases hf:fo ρ S with
 |bad=>rwa[hf]at q|exc c S1=>rwa[hf]at q|ok d S1=>
  rw[hf]at q;intro v l p j sh;dsimp only[Out.bind]at q
  cases d with
  |str x=>
   cases sh;refine⟨rfl,B,l,ρ,S1,rfl,p,?_⟩
   cases h2:f ρ S1 with
   |bad=>rw[h2]at q;exact q.elim|exc c S2=>rw[h2]at q;simp only[zap,h2,Out.bind];exact fun w' t y=>q w' t (j.trans y)|ok i S2=>
    rw[h2]at q;simp only[zap,h2,Out.bind];intro vs k R2 u a;dsimp only[Out.bind]at q
    cases a with
    |cons h1 n=>
     cases n
     cases b:g x i with
     |none=>rw[b]at q;exact q.elim|some r=>rw[b]at q;exact⟨x,k,i,_,r,rfl,rfl,rfl,h1,b,fun m w' h s=>q m w' (R2.grow h) (j.trans (u.trans h.fut)) s⟩
  |_=>exact q.elim
noncomputable def zmf(x:Str):D->Option D|.str y=>some (.bl (Txt.endswith x y))|_=>none
def zqH:MtS X cl "str.endswith" zmf:=by
 intro pins s σ H x vs v us Q I b c h;obtain⟨y,w,d,f,r,rfl,rfl,rfl,sh,a,q⟩:=h;obtain⟨t,rfl⟩:=b;obtain⟨u,rfl,e⟩:=c.one
 cases d with
 |str z=>
  cases sh;cases a;obtain⟨t',rfl⟩:=e;exact call_gives PySem.F.slot_str_endswith (yb8 _ _ _) PySem.F.entry_str_endswith (PySem.F.args_str_endswith_2 _ _) (gives_str_endswith _ _ _ _) ⟨.bl _,w.H,I,rfl,q _ w (Grow.refl _) (.bl _)⟩
 |_=>cases a
noncomputable def zjn(x:Str):D->Option D|.str y=>(Builtin.Str.occurrences x y 0 x.length 1).head?.map fun i=>.int (i:Nat)|_=>none
def znC:MtS X cl "str.index" zjn:=by
 intro pins s σ H x vs v us Q I b c h;obtain⟨y,w,d,g,r,rfl,rfl,rfl,sh,a,q⟩:=h;obtain⟨t,rfl⟩:=b;obtain⟨u,rfl,e⟩:=c.one
 cases d with
 |str z=>
  cases sh;obtain⟨t',rfl⟩:=e;obtain⟨i,hi,rfl⟩:=ya5.mp a;obtain⟨l,f⟩:=List.head?_eq_some_iff.mp hi;exact call_gives PySem.F.slot_str_index (yb8 _ _ _) PySem.F.entry_str_index (PySem.F.args_str_index_2 _ _) (gives_str_index _ _ _ _ i l f) ⟨.int _,w.H,I.tok _,⟨_,rfl⟩,q _ w (Grow.refl _) (.int _)⟩
 |_=>cases a
noncomputable def zdF:List D->Option (List Str)
 |[]=>some []|.str x::l=>(zdF l).map (x::·)|_::_=>none
theorem zgJ{w:Wd}:∀{xs:List V}{ds:List D}{ts:List Str}{aa:List Value},Shds cl w xs ds->zdF ds=some ts->Vals xs aa->∃l:List (Str×Tok),aa=strValues l/\l.map (·.1)=ts
 |_,_,ts,aa,.nil,h,r=>by cases h;cases r;exact⟨[],rfl,rfl⟩
 |_,_,ts,aa,.cons (d:=d) s t,h,r=>by
  cases d with
  |str x=>
   cases s;obtain⟨a,h1,rfl⟩:=ya5.mp h
   cases r with
   |cons b r2=>
    obtain⟨tk,rfl⟩:=b;obtain⟨l,rfl,rfl⟩:=zgJ t h1 r2;exact⟨(x,tk)::l,rfl,rfl⟩
  |_=>cases h
theorem zgC:∀(l:List (Str×Tok)),Vals ((l.map (·.1)).map V.str) (strValues l)
 |[]=>.nil|p::l=>.cons ⟨_,rfl⟩ (zgC l)
def zdw(x:Str):D->Option D|.lst l=>(zdF l).bind fun ts=>if JoinOk x ts then some (.str (Txt.join x ts))else none|_=>none
def zqG:MtS X cl "str.join" zdw:=by
 intro pins s σ H x vs v us Q I f g h;obtain⟨y,w,d,j,r,rfl,rfl,rfl,sh,a,q⟩:=h;obtain⟨t,rfl⟩:=f;obtain⟨u,rfl,i⟩:=g.one
 cases d with
 |lst z=>
  cases sh with
  |lst e k rs=>
   cases i
   cases b:zdF z with
   |none=>unfold zdw at a;dsimp only at a;rw[b]at a;cases a|some ts=>
    unfold zdw at a;dsimp only at a;rw[b]at a;dsimp only[Option.bind]at a;split at a
    ·rename_i c;cases a;obtain⟨aa,r,p,_⟩:=I.list (SqL.of (K:=X.K) e);obtain⟨l,rfl,rfl⟩:=zgJ rs b r;refine ybM PySem.F.slot_str_join (yb8 _ _ _) PySem.F.entry_str_join (PySem.F.args_str_join_2 _ _) (meets_str_join_list y t _ l ?_) ⟨p.isList,post_join l ⟨joinOk_length c,fun t' k=>⟨.str _,w.H,I.tok _,⟨_,rfl⟩,q _ w (Grow.refl _) (.str _)⟩⟩⟩;unfold JoinOk at c;rwa[yaH]at c
    ·cases a
 |_=>cases a
noncomputable def zcW(x:Str):D->Option D|.str y=>if !(y.length==0)&&zau x.length then some (.lst ((Txt.split x y).map D.str))else none|_=>none
def znB:MtS X cl "str.split" zcW:=by
 intro pins s σ H x vs v us Q I i j h;obtain⟨y,w,d,p,r,rfl,rfl,rfl,sh,c,q⟩:=h;obtain⟨t,rfl⟩:=i;obtain⟨u,rfl,m⟩:=j.one
 cases d with
 |str z=>
  cases sh;obtain⟨t',rfl⟩:=m;unfold zcW at c;dsimp only at c;split at c
  ·rename_i f;cases c;rw[yaa,yaH]at f;have hs:y.length+2<=sizeLine:=yav (Nat.add_le_add_right (yah f.2) 2) (by decide)
   have g:(Builtin.Str.partsBetween y (Builtin.Str.occurrences y z 0 y.length (y.length+1)) z.length).length<=sizeLine:=by
    have A:=StrLaws.occ_length_le y z 0 y.length (y.length+1);rw[length_partsBetween];omega
   have fin:∀(l:List (Str×Tok)) (k:Nat),l.map (·.1)=Txt.split y z->l.length<=sizeLine->EP X pins σ Q (.ref s.heap.objs.size) {s with heap:=s.heap.push {cls:=.type "list",data:=.seq (strValues l).toArray},toks:=k}:=fun l k e n=>by
    have hf:=I.hok.fresh (a:=s.heap.objs.size) (yai _);refine⟨.ref s.heap.objs.size,_,I.laid (t':=k) (o:=.lst ((l.map (·.1)).map V.str)) (fun b ob q=>yag _ q) (yai _) ?_,rfl,q _ (w.add _ _) (zaw hf _) ?_⟩
    ·exact⟨by rw[yab,yab];exact n,_,0,zgC l,yaw _ rfl⟩
    ·rw[<-e];exact Shd.newL hf zeG
   cases h1:(decide (y.length<z.length)||decide (Builtin.Str.strKind y<Builtin.Str.strKind z))
   ·cases hf:(Builtin.Str.occurrences y z 0 y.length (y.length+1)).isEmpty
    ·refine ybM ybY (yb8 _ _ _) ycx (ycn _ _) (meets_str_split_sep y z t t' h1 f.1 hf (by omega) g) ?_;show wants _ _ _ {s with toks:=_,heap:=s.heap.push {cls:=.type "list",data:=.seq (strsFrom s.toks (Builtin.Str.partsBetween y (Builtin.Str.occurrences y z 0 y.length (y.length+1)) z.length)).toArray}};rw[strsFrom_eq];refine fin (numbered s.toks _) _ ((numbered_texts _ _).trans ((if_neg (ycY h1)).trans (if_neg (ycY hf))).symm) ?_;have:=congrArg List.length (numbered_texts s.toks (Builtin.Str.partsBetween y (Builtin.Str.occurrences y z 0 y.length (y.length+1)) z.length));rw[yab]at this;rw[this];exact g
    ·exact ybM ybY (yb8 _ _ _) ycx (ycn _ _) (meets_str_split_not_found y z t t' h1 f.1 hf)
      (fin [(y,t)] s.toks ((if_neg (ycY h1)).trans (if_pos hf)).symm (show 1<=sizeLine by decide))
   ·exact ybM ybY (yb8 _ _ _) ycx (ycn _ _) (meets_str_split_cannot_occur y z t t' h1)
     (fin [(y,t)] s.toks (if_pos h1).symm (show 1<=sizeLine by decide))
  ·cases c
 |_=>cases c
noncomputable def zov:List D->Option D|[.int i]=>if decide (-1000<=i/\i<=1000)then some (.str (toString i))else none|_=>none
def zt8:zkj X cl (.type "str") zov:=by
 intro pins s σ H xs us Q I r h;obtain⟨w,ds,d,rfl,c,a,q⟩:=h;unfold zov at a;split at a
 ·rename_i i;split at a
  ·rename_i b;cases a;have b:=yah b
   cases c with
   |cons h1 h2=>
    cases h2;obtain rfl:=h1.intI;refine zhx pins s σ w.H _ us Q I r ⟨i,rfl,?_,q _ w (Grow.refl _) (.str _)⟩;have:=Nat.log2_le_self i.natAbs;omega
  ·cases a
 ·cases a
def zep(fo f f2:Fe):Fe:=fun ρ S=>(fo ρ S).bind fun d S1=>match d with
 |.dic ds=>if zal ds then(f ρ S1).bind fun k S2=>(f2 ρ S2).bind fun z a=>match k with|.str x=>.ok ((zaj x ds).getD z) a|_=>.bad else .bad
 |_=>.bad
def zmW{ap cp:Pos}(U:X.A.units+1<cLine)(ho:PE X o (tE cl E fo))(he:PE X e (tE cl E f))(hf:PE X e2 (tE cl E f2))(h1:zbi e=true)(h2:zbi e2=true)(hb:attributeBase o "get" X.env (eval o X.env)=eval o X.env)(I:(ap.endLine==cp.line)=true):
  PE X (.Call (.Attribute o "get" ap) [e,e2] [] cp) (tE cl E (zep fo f f2)):=by
 refine PE.imp (znn U ho he hf ⟨hb,ze9 (by simp[h1,h2]) (by simp),I,by rw[za4 h1,za4 h2];rfl⟩) ?_;rintro σ H Q ⟨B,w,ρ,S,rfl,R,q⟩;refine⟨B,w,ρ,S,rfl,R,?_⟩;unfold zep at q
 cases g:fo ρ S with
 |bad=>rwa[g]at q|exc c S1=>rwa[g]at q|ok d S1=>
  rw[g]at q;intro v F M h sh;dsimp only[Out.bind]at q
  cases d with
  |dic ds=>
   dsimp only at q
   by_cases b:zal ds=true
   ·rw[if_pos b]at q
    cases sh with
    |dicK r K J=>
     refine⟨_,rfl,.inl ⟨_,.inr ⟨_,r⟩⟩,B,F,ρ,S1,rfl,M,?_⟩
     cases j:f ρ S1 with
     |bad=>rw[j]at q;exact q.elim|exc c S2=>rw[j]at q;exact fun w' l m=>q w' l (h.trans m)|ok k S2=>
      rw[j]at q;intro y D R2 u G;dsimp only[Out.bind]at q;refine⟨B,D,ρ,S2,rfl,R2,?_⟩
      cases i:f2 ρ S2 with
      |bad=>rw[i]at q;exact q.elim|exc c L=>rw[i]at q;exact fun w' l m=>q w' l (h.trans (u.trans m))|ok z L=>
       rw[i]at q;intro C n t N sz;dsimp only[Out.bind]at q
       cases k with
       |str x=>
        cases G;dsimp only at q;have a:=u.trans N;have s:=(a.keep _ _ r K).1
        rcases zcZ x (J.up a) b with⟨g1,g2⟩|⟨p,d',g1,g2,g3⟩
        ·rw[g2]at q;exact⟨none,.inl ⟨_,.inr x,.inr ⟨_,s⟩,rfl,g1.symm⟩,q C n t (h.trans a) sz⟩
        ·rw[g2]at q;exact⟨some p,.inl ⟨_,.inr x,.inr ⟨_,s⟩,rfl,g1.symm⟩,q p n t (h.trans a) g3⟩
       |_=>exact q.elim
   ·rw[if_neg b]at q;exact q.elim
  |_=>exact q.elim
def zj8(k:Str)(f:Fe):Fe:=fun ρ S=>(f ρ S).bind fun d S1=>.ok (.dic [(.str k,d)]) S1
def zp1{k:Str}{I e:Expr}{fe:Fe}{pos:Pos}(hk:PE X I (tC (.str k)))(he:PE X e (tE cl E fe)):PE X (.Dict [some I] [e] pos) (tN cl E (zj8 k fe)):=by
 refine PE.imp (zqs (znc hk he zqk) rfl rfl (by simp) (by show 1<=15;decide)) ?_;rintro σ H Q ⟨B,w,ρ,S,rfl,R,q⟩;intro f i;have t:=R.hold (o:=.dK []) i;have fa:=zbL (w:=w) (p:=f) (o:=.dK []) (r:=.far) i
 have n:B.Fr f=none:=by
  cases z:B.Fr f with
  |none=>rfl|some x=>have:=(R.wd.fr f x z).1;rw[i]at this;cases this
 unfold zj8 at q;refine⟨B.hold f (.dK []),w.addAs f (.dK []) .far,ρ,S,rfl,t,?_⟩
 cases hf:fe ρ S with
 |bad=>rwa[hf]at q|exc c S1=>rw[hf]at q;exact fun w' u A=>q w' (u.unhold n) (fa.trans A)|ok d S1=>
  rw[hf]at q;dsimp only[Out.bind]at q;intro v h R2 y m;have j:=R2.wd.fr f (.dK []) (show(if f=f then some (HO.dK [])else B.Fr f)=some (.dK [])from if_pos rfl);have how:h.ow f=some .far:=j.2.trans (show(B.hold f (.dK [])).fw f=some Root.far from if_pos rfl)
  have l:h.ow f≠none:=by rw[how];exact yaF _
  have fd:=zgm (w:=h) (a:=f) l;refine⟨j.1,[(.inr k,v)],rfl,(by show 1<=15;decide),?_⟩
  have s:upd h.H f (.dK (zfB [] [((.inr k:Key),v)]))=upd (h.del f).H f (.dK [(.inr k,v)]):=by
   funext b;unfold upd
   by_cases g:b=f
   ·rw[if_pos g,if_pos g];rfl
   ·rw[if_neg g,if_neg g];show _=(if b=f then none else h.H b);rw[if_neg g]
  rw[s];exact q f _ (h.del f) ((R2.unhold n).del how n) (fa.trans (y.trans fd)) (if_pos rfl) (.dicK (.consS (m.up fd) .nil))
end
section
variable{X:Cx}{cl:Cf}
noncomputable def zlr(x:Str):D->Option D|.str y=>if !(y.length==0)&&zau x.length then some (.tup [.str (Txt.partition x y).1,.str (Txt.partition x y).2.1,.str (Txt.partition x y).2.2])else none|_=>none
def zqF:MtS X cl "str.partition" zlr:=by
 intro pins s σ H x vs v us Q I j l h;obtain⟨y,w,d,n,r,rfl,rfl,rfl,sh,f,q⟩:=h;obtain⟨t,rfl⟩:=j;obtain⟨u,rfl,m⟩:=l.one
 cases d with
 |str z=>
  cases sh;obtain⟨t',rfl⟩:=m;unfold zlr at f;dsimp only at f;split at f
  ·rename_i g;cases f;rw[yaa,yaH]at g;have hs:y.length<=sizeLine:=yav (yah g.2) (by decide);have hf:=I.hok.fresh (a:=s.heap.objs.size) (yai _)
   have fin:∀(a b c:Str) (ta tb tc:Tok) (k:Nat),(a,b,c)=Txt.partition y z->EP X pins σ Q (.ref s.heap.objs.size) {s with heap:=s.heap.push {cls:=.type "tuple",data:=.seq [.str a ta,.str b tb,.str c tc].toArray},toks:=k}:=fun a b c ta tb tc k e=>by
    refine⟨.ref s.heap.objs.size,_,I.laid (t':=k) (o:=.tup [.str a,.str b,.str c]) (fun b ob q=>yag _ q) (yai _) ?_,rfl,q _ (w.add _ _) (zaw hf _) ?_⟩
    ·exact⟨(by decide:(3:Nat)<=sizeLine),_,.cons ⟨_,rfl⟩ (.cons ⟨_,rfl⟩ (.cons ⟨_,rfl⟩ .nil)),zop.new _ _⟩
    ·rw[<-e];exact Shd.newT hf (.cons (.str _) (.cons (.str _) (.cons (.str _) .nil)))
   refine ybM PySem.F.slot_str_partition (yb8 _ _ _) PySem.F.entry_str_partition (PySem.F.args_str_partition_2 _ _) (meets_str_partition y z t t' g.1 hs) ?_;unfold Txt.partition at fin
   revert fin
   cases Builtin.Str.occurrences y z 0 y.length 1 with
   |nil=>intro fin;exact fin _ _ _ _ _ _ _ rfl|cons i r=>intro fin;exact fin _ _ _ _ _ _ _ rfl
  ·cases f
 |_=>cases f
end
end S2
namespace L2
open PySem PySem.Spec PyProof.Rows
end L2
namespace S2
open PySem PySem.Spec PyProof.Rows L2
def zj7(cn f:Str)(i:Nat):Fe:=fun ρ S=>match zj9 cn f ρ S i with
 |some (_,_,ds)=>if ds.length<64 then .ok (.lst ((za6 (zaY ds)).map D.str)) S else .bad
 |none=>.bad
section
variable{X:Cx}{cl:Cf}{E:St->XK}{pos apos cp p:Pos}{f cn:Str}{i:Nat}{x:Str}
theorem zkT{I:Pos}(hN:X.N[i]?=some x)(hv:Vis X.env.scope x)(hd:(x==("__debug__":Str))=false)(hcd:(x==("__classdict__":Str))=false)(U:X.calm=true)(sm:Same' cl X)(hk:zfS cl cn f)(hb:attributeBase (.Name x p) f X.env (eval (.Name x p) X.env)=eval (.Name x p) X.env)(J:Gl X "sorted")(hm:X.mg "sorted"=none):
  PE X (.Call (.Name "sorted" I) [.Attribute (.Name x p) f apos] [] cp) (tN cl E (zj7 cn f i)):=by
 refine PE.imp (zcJ (zft U) J hm (by decide +kernel) (za2 (zcg (zaT hN hv hd hcd) hb) zbU)) ?_;rintro σ H Q ⟨B,w,ρ,S,rfl,R,q⟩;unfold zj7 at q
 cases e:zj9 cn f ρ S i with
 |none=>rw[e]at q;exact q.elim|some u=>
  obtain⟨n,ob,ds⟩:=u;rw[e]at q;dsimp only at q
  by_cases b:ds.length<64
  ·rw[if_pos b]at q;obtain⟨a,dx,fs,c,kvs,ev,l,j,how,k,m,c1,c2,lv,oc,g,t,h⟩:=zgt hk R e;obtain⟨k1,k2⟩:=zjf t h;rw[sm.kk];exact⟨_,ev,a,_,dx,fs,_,rfl,k,c1,c2,lv,c,kvs,zaY ds,rfl,.inl g,k1,by rw[k2];exact b,fun pn d=>q pn _ w R (Fut.refl _) d (.lst zeG)⟩
  ·rw[if_neg b]at q;exact q.elim
end
def zfc(g:Str->Str->Option Bool):Fs:=
 zag (zbO 1 true (zev [eUn (zkp g "NoFill") (zac 0),eUn (zkp g "NoName") (zac 0),eUn (zkp g "NoPlace") (zac 0),eUn (zkp g "NoText") (zac 0)]))
 (zag (zbO 1 false (zaf za0 (zac 1) (zev [eUn (zkp g "NoTile") (zac 0),eUn (zkp g "Nothing") (zac 0),eUn (zkp g "Unlike") (zac 0)])))
 (zag (sIf (eOr (zaf neD (eMt zfK 1 (zaa (.bl true))) (zaa (.int 1))) (eUn zbz (eUn (zkp g "ValueError") (zac 0)))) (zag (zbd (zaa (.str "wrong"))) sNx) sNx)
 (zag (zbd (zaf ixD (zev [zaa (.str "no fill"),zaa (.str "no name"),zaa (.str "no place"),zaa (.str "no text"),zaa (.str "no tile"),zaa (.str "nothing"),zaa (.str "unlike")]) (eMt zfF 1 (zaa (.bl true))))) sNx)))
def zmG(g:Str->Str->Option Bool)(c:Str)(S:Sto):Out D:=match zfc g [some (false,.exc c),none] S with|.rt d S'=>.ok d S'|_=>.bad
noncomputable def zhw(ρ:Env):List Nat->Option (List D)
 |[]=>some []|i::is=>match ρ[i]? with|some (some (false,d))=>(zhw ρ is).map (d::·)|_=>none
def zdo(und:Str->Str->Bool)(isx:Str->Str->Option Bool)(caps:List Nat)(fb:Fe):Fe:=fun ρ S=>match zhw ρ caps with
 |none=>.bad|some ds=>match fb (ds.map fun d=>some (false,d)) S with
  |.ok d S'=>.ok d S'|.exc c S'=>if und c "FloorError"then zmG isx c S' else .bad
  |.bad=>.bad
structure CapsOk(X:Cx)(N:List Str)(caps:List Nat):Prop where
 len:caps.length=N.length
 at':∀(j:Nat) (x:Str) (i:Nat),N[j]?=some x->caps[j]?=some i->X.N[i]?=some x/\X.env.scope.names.lookup x=some .cell/\X.fn x=true
noncomputable def zuo(cl:Cf)(und:Str->Str->Bool)(isx:Str->Str->Option Bool)(P:Program)(wo:PySem.World)(K:PySem.W.Frag)(mg:Z6)(base:Heap)(k:Nat)(cod:Option (Addr×Str))(e:Expr)(N:List Str)(fb:Fe):Prop:=
 ∀(X:Cx) (E:St->XK) (caps:List Nat) (p pos:Pos),X.prog=P->X.w=wo->X.K=K->X.mg=mg->X.base=base->Room k X.A->X.calm=true->Gl X "_law_told" -> (∀c,cod=some c->X.env.code=.ref c.1/\X.env.qual=c.2)->CapsOk X N caps →
  PE X (.Call (.Name "_law_told" p) [e] [] pos) (tE cl E (zdo und isx caps fb))
theorem zjA{cl:Cf}{B:Base}{σ:St}{w:Wd}{ρ:Env}{S:Sto}(R:Rel cl B σ w ρ S):∀{caps:List Nat}{ds:List D},zhw ρ caps=some ds->∃vs,vs.length=caps.length/\(∀(j i:Nat) (v:V),caps[j]?=some i->vs[j]?=some v->σ[i]?=some (some v))/\Shds cl w vs ds
 |[],ds,h=>by cases h;exact⟨[],rfl,fun j i v h=>by simp at h,.nil⟩
 |i::is,ds,h=>by
  unfold zhw at h;split at h
  ·rename_i d hd
   cases h1:zhw ρ is with
   |none=>rw[h1]at h;cases h|some ds'=>
    rw[h1]at h;cases h;obtain⟨vs,l,e,sh⟩:=zjA R h1;obtain⟨v,c,x⟩:=R.slots i false d hd;refine⟨v::vs,by rw[yad,yad,l],fun j b a h1 h2=>?_,.cons x sh⟩
    cases j with
    |zero=>cases h1;cases h2;exact c|succ j=>exact e j b a h1 h2
  ·cases h
def Rel.tabUp{cl:Cf}{B:Base}{σ:St}{w:Wd}{ρ:Env}{S:Sto}{P:Addr}{ps au:Array Value}(R:Rel cl B σ w ρ S)(h1:w.H P=some (.tbl ps))(h2:w.ow P=some .tab)(I:∀q,cl.tabs P=some q->zmC w q au):
  Rel cl B σ (w.mut P (.tbl au)) ρ S/\Fut w (w.mut P (.tbl au)):=by
 have c:=zdx (w:=w) (p:=P) (o:=.tbl au) (by rw[h2];exact yaF _)
 have kp:∀a u,w.H a=some u->w.ow a≠some .tab->(w.mut P (.tbl au)).H a=some u/\(w.mut P (.tbl au)).ow a=w.ow a:=fun a u g f=>⟨by
  show upd w.H P _ a=_
  rw[zab (fun z=>f (by rw[z];exact h2))];exact g,rfl⟩
 have m:B.Fr P=none:=(R.wd.own P _ h2).elim (fun z=>by cases z) fun z=>z
 refine⟨⟨⟨fun a u h=>?_,R.wd.own,R.wd.len,fun n ob h=>?_,fun j q h=>?_⟩,R.len,fun i o d h=>?_⟩,c⟩
 ·refine⟨?_,(R.wd.fr a u h).2⟩;show upd w.H P _ a=_;rw[zab (fun z=>by rw[z,m]at h;cases h)];exact(R.wd.fr a u h).1
 ·obtain⟨a,e,x⟩:=R.wd.obj n ob h;exact⟨a,e,x.keep c fun b u hb f=>kp b u hb fun z=>by rwa[z]at f⟩
 ·by_cases l:j=P
  ·subst l;exact⟨au,zao,h2,(I q h).up c⟩
  ·obtain⟨qs,g1,g2,g3⟩:=R.wd.tab j q h;refine⟨qs,?_,g2,g3.up c⟩;show upd w.H P _ j=_;rw[zab l];exact g1
 ·obtain⟨v,r,x⟩:=R.slots i o d h;refine⟨v,r,x.keep c fun a u g k=>?_⟩;have:=kp a u g (by rw[k];simp);exact⟨this.1,this.2.trans k⟩
structure FnI where
 ar:Nat
 own:Bool
 run:List D->Sto->Out D
structure ObE where
 cur:Str
 fk:Str->Str->Bool
 df:Str->Bool
 mt:Str->Option (Str×FnI)
 mks:Str->Option (List D×FnI)
structure Genv where
 con:Str->Option D
 fn:Str->Option FnI
 blt:Str->Bool
 exc:Str->Bool
 und:Str->Str->Bool
 isx:Str->Str->Option Bool
 ob:ObE
 ds:Str->Bool
 lam:Expr->Option (List Str×Fe)
 cod:Option (Addr×Str)
abbrev bmV:List Value:=[.type "ValueError",.type "Exception",.type "BaseException",.type "object"]
structure GOk(cl:Cf)(G:Genv)(P:Program)(wo:PySem.World)(K:PySem.W.Frag)(mg:Z6)(base:Heap)(k:Nat):Prop where
 con:∀x d,G.con x=some d->∃v u,mg x=some u/\zaZ v u/\∀w,Shd cl w v d
 fn:∀x fi,G.fn x=some fi->∃f fd ps,mg x=some (.ref f)/\PySem.W.keepIn K (.ref f)=true/\zcR K fd ps []/\FnOk P wo K mg base (CXE P wo) k f fd ps (zgA cl fi.ar fi.own fi.run)
 blt:∀x,G.blt x=true->mg x=none
 exc:∀c,G.exc c=true->mg c=some (.ref (cl c))/\PySem.W.excIn K (cl c) bmV "ValueError.__new__"=true
 und:∀c C,G.und c C=true->L2.zrs K (cl c) (cl C)
 isx:∀c C b,G.isx c C=some b->PySem.W.ExcCls K (cl c)/\PySem.W.kitOne K (.ref (cl c)) (clsV cl C)=some b
 fk:∀c f,G.ob.fk c f=true->zfS cl c f
 mt:∀m c fi,G.ob.mt m=some (c,fi)->∃f fd ps,Cls K (cl c)/\Meth K (cl c) m f/\zcR K fd ps []/\FnOk P wo K mg base (CXE P wo) k f fd ps (zgA cl fi.ar fi.own fi.run)
 mks:∀c ah fi,G.ob.mks c=some (ah,fi)->∃f fd ps dvs ds k',k'+1<=k/\mg c=some (.ref (cl c))/\Mk K (cl c) f/\zcR K fd ps []/\zcR K fd ps ds/\Vals dvs ds/\(∀w,Shds cl w dvs ah)/\FnOk P wo K mg base (CXE P wo) k' f fd ps (zgA cl fi.ar false fi.run)
 tl:∀e N fb,G.lam e=some (N,fb)->zuo cl G.und G.isx P wo K mg base k G.cod e N fb
noncomputable abbrev Names:=List (Str×NameKind)
structure Gx(cl:Cf)(G:Genv)(k:Nat)(X:Cx)(nm:Names)(N:List Str)(E:St->XK):Prop where
 gok:GOk cl G X.prog X.w X.K X.mg X.base k
 room:Room k X.A
 calm:X.calm=true
 pass:zc9 (CXE X.prog X.w) X E
 eN:X.N=N
 kk:X.K=cl.K
 pp:X.prog=cl.P
 ww:X.w=cl.wo
 nd:N.Nodup
 vis:∀x kd,nm.lookup x=some kd->∃kd',X.env.scope.names.lookup x=some kd'/\(kd'=kd\/(kd=.free/\kd'=.cell))
 fnx:∀x,nm.lookup x=some .local->X.env.scope.names.lookup x=some .local
 cod:∀c,G.cod=some c->X.env.code=.ref c.1/\X.env.qual=c.2
 fnc:∀x,nm.lookup x=some .cell->X.fn x=true
noncomputable def idx:List Str->Str->Option Nat
 |[],_=>none|y::l,x=>if y=x then some 0 else(idx l x).map (·+1)
theorem ze6:∀{N:List Str}{x:Str}{i:Nat},idx N x=some i->N[i]?=some x
 |y::l,x,i,h=>by
  unfold idx at h;split at h
  ·rename_i e;cases h;rw[e];rfl
  ·cases a:idx l x with
   |none=>rw[a]at h;cases h|some j=>rw[a]at h;cases h;simpa using ze6 a
noncomputable def zi6(x:Str):Bool:=!(x==("__debug__":Str))&&!(x==("__classdict__":Str))&&!decide (x="__name__")
def zg5(h:zi6 x=true):(x==("__debug__":Str))=false/\(x==("__classdict__":Str))=false/\x ≠ "__name__":=by
 unfold zi6 at h;simp only[yaa,yaH,ycy]at h;exact⟨h.1.1,h.1.2,h.2⟩
noncomputable def zvZ:Option NameKind->Bool|some .local=>true|some .cell=>true|some .free=>true|_=>false
def ziV(nm:Names)(N:List Str)(x:Str):Option Nat:=if zvZ (nm.lookup x)&&zi6 x then idx N x else none
noncomputable def zbA(nm:Names)(x:Str):Bool:=decide (nm.lookup x=some .globalImplicit)&&zi6 x
section
variable{cl:Cf}{G:Genv}{k:Nat}{X:Cx}{nm:Names}{N:List Str}{E:St->XK}
def Gx.slot(g:Gx cl G k X nm N E)(h:ziV nm N x=some i):X.N[i]?=some x/\Vis X.env.scope x/\(x==("__debug__":Str))=false/\(x==("__classdict__":Str))=false:=by
 unfold ziV at h;split at h
 ·rename_i hv;rw[yaa]at hv;obtain⟨h1,h2,_⟩:=zg5 hv.2;refine⟨by rw[g.eN];exact ze6 h,?_,h1,h2⟩
  cases hk:nm.lookup x with
  |none=>rw[hk]at hv;exact absurd hv.1 (by decide)
  |some b=>
   obtain⟨a,e,z⟩:=g.vis x b hk;rw[hk]at hv;unfold Vis;rw[e]
   rcases z with rfl|⟨_,rfl⟩
   ·cases a<;>first|exact .inl rfl|exact .inr (.inl rfl)|exact .inr (.inr rfl)|exact absurd hv.1 (by decide)
   ·exact .inr (.inl rfl)
 ·cases h
def Gx.glob(g:Gx cl G k X nm N E)(h:zbA nm x=true):Gl X x/\(x==("__debug__":Str))=false/\x ≠ "__name__":=by
 unfold zbA at h;rw[yaa]at h;obtain⟨h1,_,b⟩:=zg5 h.2;obtain⟨a,e,z⟩:=g.vis x _ (yah h.1)
 rcases z with rfl|⟨z,_⟩
 ·exact⟨e,h1,b⟩
 ·cases z
end
noncomputable def okE:Expr->Bool|.Starred _ _=>false|.Set _ _ _=>false|_=>true
def zav(h:okE e=true):zbi e=true:=by cases e<;>first|rfl|cases h
def zeP(h:okE e=true):behindInMarks op e=false:=by cases e<;>first|rfl|cases h
def zf9(h:okE e=true)(v:Value):foldedSetIterable e env v=pure v:=by cases e<;>first|rfl|cases h
noncomputable def zcD:Expr->Bool|.IfExp _ _ _ _=>false|_=>true
def ltD:=zt7 fun i j=>decide (i<j)
def leD:=zvL
def gtD:=zt7 fun i j=>decide (j<i)
section
variable{cl:Cf}{G:Genv}{k:Nat}{X:Cx}{nm:Names}{N:List Str}{E:St->XK}
theorem Gx.units(g:Gx cl G k X nm N E):X.A.units+64<cLine:=g.room.units
def Gx.un(g:Gx cl G k X nm N E){n:Nat}(h:n<=64):X.A.units+n<cLine:=yc4 (Nat.add_le_add_left h _) g.units
def Gx.same(g:Gx cl G k X nm N E):Same' cl X:=⟨g.kk,g.pp,g.ww⟩
def zzG(I:args.all zbi=true)(J:args.length<30):methodCallForm (args.length+0) (backTo pos (starEach args env)) (backToKw pos (keywordEach [] env))=true:=by
 have h:=zbK (pos:=pos) (env:=env) I;unfold methodCallForm
 have h1:(backTo pos (starEach args env)).all (!·.1)=true:=by
  rw[List.all_eq_not_any_not];simpa using h
 rw[h1];show(true&&true&&decide (args.length+0+0<30))=true;rw[yap (by omega)];rfl
def zlz(hb:attributeBase o m env (eval o env)=eval o env)(hf:methodCallForm (args.length+0) (backTo pos (starEach args env)) (backToKw pos (keywordEach [] env))=true)(J:(ap.endLine==pos.line)=true):
  eval (.Call (.Attribute o m ap) args [] pos) env=(do
   let I ← eval o env
   standAt ap.atName
   let (f,first) ← holding [I] (getMethod I m (do return (← importBound o env).getD true))
   callWith pos f first (backTo pos (starEach args env)) (backToKw pos (keywordEach [] env))):=by
 show(do
  let I ← attributeBase o m env (eval o env)
  standAt ap.atName
  methodCall o m ap pos env I (args.length+0) (backTo pos (starEach args env)) (backToKw pos (keywordEach [] env)))=_
 rw[hb]
 have e:∀I,methodCall o m ap pos env I (args.length+0) (backTo pos (starEach args env)) (backToKw pos (keywordEach [] env))=(do
   let (f,first) ← holding [I] (getMethod I m (do return (← importBound o env).getD true))
   callWith pos f first (backTo pos (starEach args env)) (backToKw pos (keywordEach [] env))):=fun I=>by
  unfold methodCall calleeOf methodCallPos;rw[hf,J];rfl
 simp only[e]
end
theorem zoi:bootBuiltins "all"=some (.builtin "all"):=by decide +kernel
theorem zfQ:bootBuiltins "tuple"=some (.type "tuple"):=by decide +kernel
theorem zoh:bootBuiltins "int"=some (.type "int"):=by decide +kernel
theorem zmx:bootBuiltins "bool"=some (.type "bool"):=by decide +kernel
theorem zjB:bootBuiltins "str"=some (.type "str"):=by decide +kernel
noncomputable def gd{α:Type}:(b:Bool)->(b=true->Option α)->Option α|true,k=>k rfl|false,_=>none
structure Dn(G:Genv)(nm:Names)(N:List Str)(e:Expr)where
 o:Bool
 f:Fe
 q:okE e=true
 ok:∀{cl k X E},Gx cl G k X nm N E->(o=true->PE X e (tN cl E f))/\PE X e (tE cl E f)/\(zcD e=true->PT X e (tTr cl E f))
noncomputable abbrev Rec(G:Genv):=∀nm N e,Option (Dn G nm N e)
structure Do(G:Genv)(nm:Names)(N:List Str)(e:Expr)where
 f:Fe
 q:okE e=true
 ok:∀{cl k X E},Gx cl G k X nm N E->PE X e (tH cl E f)
structure DL(G:Genv)(nm:Names)(N:List Str)(es:List Expr)where
 fs:List Fe
 q:es.all zbi=true
 l:fs.length=es.length
 ok:∀{cl k X E},Gx cl G k X nm N E->PA X es (tAs cl E fs)
structure DH(G:Genv)(nm:Names)(N:List Str)(es:List Expr)where
 fs:List Fe
 q:es.all zbi=true
 ok:∀{cl k X E},Gx cl G k X nm N E->PA X es (tHs cl E fs)
structure Sl(G:Genv)(nm:Names)(N:List Str)(x:Str)where
 i:Nat
 ok:∀{cl k X E},Gx cl G k X nm N E->X.N[i]?=some x/\Vis X.env.scope x/\(x==("__debug__":Str))=false/\(x==("__classdict__":Str))=false
noncomputable def ztl(f:Str):Bool:=decide (f="done")||decide (f="undone")
noncomputable def zo8(f:Str):Bool:=decide (f="named")
structure FA(G:Genv)(nm:Names)(N:List Str)(e:Expr)where
 i:Nat
 f:Str
 ok:∀{cl k X E},Gx cl G k X nm N E->∃x p ap,e=.Attribute (.Name x p) f ap/\X.N[i]?=some x/\Vis X.env.scope x/\(x==("__debug__":Str))=false/\(x==("__classdict__":Str))=false/\zfS cl G.ob.cur f
structure Dq(G:Genv)(nm:Names)(N:List Str)(e:Expr)where
 q:Fq
 pl:zbi e=true
 ok:∀{cl k X E},Gx cl G k X nm N E->PE X e (tQ cl q)
section
variable{G:Genv}(rc:Rec G){nm:Names}{N:List Str}{e:Expr}
noncomputable def ziD(f:Fe)(q:okE e=true)(hv:∀env whole,isTrue e env whole=(do let v ← whole;standAt e.pos;holding [v] (truthy v)))(p:∀{cl k X E},Gx cl G k X nm N E->PE X e (tE cl E f)):Option (Dn G nm N e):=some ⟨false,f,q,fun g=>⟨nofun,p g,fun _=>zgL (p g) (hv _)⟩⟩
noncomputable def ztd(f:Fe)(q:okE e=true)(hv:∀env whole,isTrue e env whole=(do let v ← whole;standAt e.pos;holding [v] (truthy v)))(p:∀{cl k X E},Gx cl G k X nm N E->PE X e (tN cl E f)):Option (Dn G nm N e):=some ⟨true,f,q,fun g=>⟨fun _=>p g,zei (p g),fun _=>zgL (zei (p g)) (hv _)⟩⟩
def slO(G:Genv)(nm:Names)(N:List Str)(x:Str):Option (Sl G nm N x):=match h:ziV nm N x with|some i=>some ⟨i,fun g=>g.slot h⟩|none=>none
noncomputable def hld(a:Dn G nm N e):Do G nm N e:=⟨a.f,a.q,fun g=>zcX (a.ok g).2.1⟩
def Sl.v{x:Str}{p:Pos}(s:Sl G nm N x){cl k X E}(g:Gx cl G k X nm N E):PE X (.Name x p) (tE cl E (zad s.i))/\PE X (.Name x p) (tH cl E (zac s.i))/\PE X (.Name x p) (tQ cl (zbI s.i)):=by
 obtain⟨s1,s2,b,a⟩:=s.ok g;exact⟨zr9 s1 s2 b a,zkW s1 s2 b a,zsr s1 s2 b a⟩
def opE(nm:Names)(N:List Str):∀e,Option (Do G nm N e)
 |.Name x p=>(match slO G nm N x with|some s=>some ⟨zac s.i,rfl,fun g=>(s.v g).2.1⟩|none=>(rc nm N (.Name x p)).map hld)
 |e=>(rc nm N e).map hld
def shL(nm:Names)(N:List Str):∀es,Option (DL G nm N es)
 |[]=>some ⟨[],rfl,rfl,fun _=>zek⟩|e::es=>(rc nm N e).bind fun a=>(shL nm N es).map fun b=>⟨a.f::b.fs,by rw[ya8,zav a.q,b.q];rfl,by rw[yad,yad,b.l],fun g=>zaR (a.ok g).2.1 (b.ok g) (za4 (zav a.q))⟩
def opL(nm:Names)(N:List Str):∀es,Option (DH G nm N es)
 |[]=>some ⟨[],rfl,fun _=>zoA⟩|e::es=>(opE rc nm N e).bind fun a=>(opL nm N es).map fun b=>⟨a.f::b.fs,by rw[ya8,zav a.q,b.q];rfl,fun g=>zkQ (a.ok g) (b.ok g) (za4 (zav a.q))⟩
def faG(G:Genv)(nm:Names)(N:List Str):∀e,Option (FA G nm N e)
 |.Attribute (.Name x p) f ap=>gd (G.ob.fk G.ob.cur f) fun hf=>(slO G nm N x).map fun s=>⟨s.i,f,fun g=>⟨x,p,ap,rfl,(s.ok g).1,(s.ok g).2.1,(s.ok g).2.2.1,(s.ok g).2.2.2,g.gok.fk _ _ hf⟩⟩|_=>none
noncomputable def quG(G:Genv)(nm:Names)(N:List Str):∀e,Option (Dq G nm N e)
 |.Name x _=>(slO G nm N x).map fun s=>⟨zbI s.i,rfl,fun g=>(s.v g).2.2⟩|.Call (.Attribute o m ap) [.Name y _] [] cp=>gd (decide (m="get")&&(ap.endLine==cp.line)) fun b=>(faG G nm N o).bind fun a=>gd (zo8 a.f) fun _=>(slO G nm N y).map fun s=>⟨zgY G.ob.cur a.f a.i (zbI s.i),rfl,fun g=>by
  rw[yaa]at b;obtain rfl:=yah b.1;obtain⟨i,f,ok⟩:=a;obtain⟨x,p,h,rfl,s1,s2,d,c,fk⟩:=ok g
  exact zqc s1 s2 d c g.same fk rfl (g.un (by decide)) (s.v g).2.2 ⟨rfl,rfl,b.2,rfl⟩⟩
 |_=>none
structure DQ(G:Genv)(nm:Names)(N:List Str)(es:List Expr)where
 gs:List Fq
 ok:∀{cl k X E},Gx cl G k X nm N E->PA X es (tQs cl gs)
def quL(G:Genv)(nm:Names)(N:List Str):∀es,Option (DQ G nm N es)
 |[]=>some ⟨[],fun _=>zsq⟩|e::es=>(quG G nm N e).bind fun a=>(quL G nm N es).map fun b=>⟨a.q::b.gs,fun g=>zqa (a.ok g) (b.ok g) (za4 a.pl)⟩
def zzM:∀op,Option {I // ∀{cl X},OpD X cl (binaryOp op) I}
 |.Add=>some ⟨za0,zoR⟩|.Mult=>some ⟨zja,zs2⟩|.Mod=>some ⟨zj0,zs3⟩|.FloorDiv=>some ⟨zo7,zs6⟩|_=>none
noncomputable def zqX:Expr->Bool|.Constant .none _ _=>true|_=>false
def zwm(b:Expr):∀op,Option {I // ∀{cl G k X nm N E},Gx cl G k X nm N E->OpD X cl (compareOp op) I}
 |.Eq=>some ⟨eqD,fun g=>zvF g.kk g.units⟩|.NotEq=>some ⟨neD,fun g=>zs1 g.kk g.units⟩|.Lt=>some ⟨ltD,fun _=>zh4 zvA⟩|.LtE=>some ⟨leD,fun _=>zs4⟩|.Gt=>some ⟨gtD,fun _=>zh4 zvC⟩
 |.In=>some ⟨inD,fun g=>zvE g.kk g.units⟩|.NotIn=>some ⟨zqD,fun g=>zs0 g.kk g.units⟩
 |.Is=>gd (zqX b) fun _=>some ⟨zjk,fun _=>zs5⟩|_=>none
structure DB(G:Genv)(nm:Names)(N:List Str)(op:BoolOp)(es:List Expr)where
 f:Fe
 ok:∀{cl k X E p},Gx cl G k X nm N E->PE X (.BoolOp op es p) (tE cl E f)/\PW X (.BoolOp op es p) (tTr cl E f)
noncomputable def boE:BoolOp->Fe->Fe->Fe|.And=>zhK|.Or=>eOr
noncomputable def zue(nm:Names)(N:List Str)(op:BoolOp):∀es,Option (DB G nm N op es)
 |[]=>none|[a]=>gd (zcD a) fun c=>(rc nm N a).map fun fa=>⟨fa.f,fun g=>⟨zsG (fa.ok g).2.1,by
   cases op with
   |And=>exact zqe ((fa.ok g).2.2 c)|Or=>exact zoG ((fa.ok g).2.2 c)⟩⟩
 |a::b::r=>gd (zcD a) fun c=>(rc nm N a).bind fun fa=>(zue nm N op (b::r)).map fun fb=>⟨boE op fa.f fb.f,fun g=>by
   have h1:=fa.ok g;have h2:=fun p=>fb.ok (p:=p) g
   cases op with
   |And=>exact⟨zsg h1.2.1 (h2 _).1,zrU (h1.2.2 c) (h2 _).2⟩|Or=>exact⟨zvk h1.2.1 (h2 _).1,zrT (h1.2.2 c) (h2 _).2⟩⟩
noncomputable def zwl(nm:Names)(N:List Str)(a:Expr)(p:Pos):∀ops bs,Option (Dn G nm N (.Compare a ops bs p))
 |[op],[b]=>(zwm b op).bind fun e=>(opE rc nm N a).bind fun fa=>(opE rc nm N b).map fun fb=>⟨false,zaf e.1 fa.f fb.f,rfl,fun g=>⟨nofun,zsf (e.2 g) (fa.ok g) (fb.ok g) (zeP fb.q),fun _=>zox (e.2 g) (fa.ok g) (fb.ok g) (zeP fb.q)⟩⟩|[op,h],[b,c]=>(zwm b op).bind fun e=>(zwm c h).bind fun d=>(opE rc nm N a).bind fun fa=>(opE rc nm N b).bind fun fb=>(opE rc nm N c).map fun fc=>⟨false,zcC e.1 d.1 fa.f fb.f fc.f,rfl,fun g=>
   have hm:lastMarks [op,h] [b,c]=false:=zeP fc.q
   ⟨nofun,zmX (e.2 g) (d.2 g) (fa.ok g) (fb.ok g) (fc.ok g) hm,fun _=>zmP (e.2 g) (d.2 g) (fa.ok g) (fb.ok g) (fc.ok g) hm⟩⟩
 |_,_=>none
def inF(nm:Names)(N:List Str)(a:Expr)(p:Pos):∀ops bs,Option (Dn G nm N (.Compare a ops bs p)):=match a with
 |.Name y py=>fun ops bs=>match ops,bs with
  |[op],[b]=>(faG G nm N b).bind fun t=>gd (zo8 t.f) fun _=>(slO G nm N y).bind fun s=>match op with
   |.In=>some ⟨false,eQ (zm7 G.ob.cur t.f t.i (zbI s.i)),rfl,fun g=>by
     obtain⟨i,f,ok⟩:=t;obtain⟨x,p,e,rfl,s1,s2,d,c,fk⟩:=ok g
     exact⟨nofun,zvm (zst s1 s2 d c g.same fk rfl (g.un (by decide)) (s.v g).2.2 rfl),fun _=>zsp s1 s2 d c g.same fk rfl (g.un (by decide)) (s.v g).2.2 rfl⟩⟩
   |.NotIn=>some ⟨false,eQ (zfo G.ob.cur t.f t.i (zbI s.i)),rfl,fun g=>by
     obtain⟨i,f,ok⟩:=t;obtain⟨x,p,e,rfl,s1,s2,d,c,fk⟩:=ok g
     exact⟨nofun,zvm (zqb s1 s2 d c g.same fk rfl (g.un (by decide)) (s.v g).2.2 rfl),fun _=>zp9 s1 s2 d c g.same fk rfl (g.un (by decide)) (s.v g).2.2 rfl⟩⟩
   |_=>none
  |_,_=>none
 |_=>fun _ _=>none
structure BI(x:Str)where
 g:List D->Option D
 nw:Bool
 ok:∀{cl G k X nm N E},Gx cl G k X nm N E->∃v,bootBuiltins x=some v/\((∃id,v=.builtin id)\/∃T,v=.type T)/\(if nw then zus X cl v g else zkj X cl v g)
def zug(x:Str):Option (BI x):=
 if h:x="len"then some ⟨zen,false,fun g=>⟨_,h ▸ PySem.boot_len,.inl ⟨_,rfl⟩,zt9 g.kk⟩⟩
 else if h:x="all"then some ⟨zmH,false,fun g=>⟨_,h ▸ zoi,.inl ⟨_,rfl⟩,zua g.calm⟩⟩
 else if h:x="tuple"then some ⟨zcv,false,fun g=>⟨_,h ▸ zfQ,.inr ⟨_,rfl⟩,zoe⟩⟩
 else if h:x="str"then some ⟨zov,false,fun g=>⟨_,h ▸ zjB,.inr ⟨_,rfl⟩,zt8⟩⟩
 else none
structure TI(x:Str)where
 T:String
 ok:bootBuiltins x=some (.type T)
noncomputable def zyp(x:Str):Option (TI x):=if h:x="int"then some ⟨"int",h ▸ zoh⟩else if h:x="bool"then some ⟨"bool",h ▸ zmx⟩else if h:x="tuple"then some ⟨"tuple",h ▸ zfQ⟩else if h:x="str"then some ⟨"str",h ▸ zjB⟩else none
theorem zuf{cl k X E}(bi:BI x)(g:Gx cl G k X nm N E)(I:zbA nm x=true)(hb:G.blt x=true)(a:DH G nm N (e::es)):
  (bi.nw=true->PE X (.Call (.Name x p) (e::es) [] pos) (tN cl E (zaF bi.g a.fs)))/\PE X (.Call (.Name x p) (e::es) [] pos) (tE cl E (zaF bi.g a.fs)):=by
 obtain⟨g1,g2,g3⟩:=g.glob I;have m:=g.gok.blt x hb;have c:=a.q;rw[ya8,yaa]at c;have st:=za4 (es:=es) (env:=X.env) c.1;have pl:=zbK (pos:=pos) (env:=X.env) c.2;obtain⟨v,hv,hk,b⟩:=bi.ok g
 cases d:bi.nw with
 |false=>
  rw[d]at b;have b:zkj X cl v bi.g:=b;refine⟨nofun,?_⟩
  rcases hk with⟨id,rfl⟩|⟨T,rfl⟩
  ·exact PE.imp (zcJ b g1 m hv (a.ok g) g3 g2 st pl) fun _ _ _ q=>zrQ (fun _ _ _ z=>z) q
  ·exact PE.imp (zeN b g1 m hv (a.ok g) g3 g2 st pl) fun _ _ _ q=>zrQ (fun _ _ _ z=>z) q
 |true=>
  rw[d]at b;have b:zus X cl v bi.g:=b
  have n:PE X (.Call (.Name x p) (e::es) [] pos) (tN cl E (zaF bi.g a.fs)):=by
   rcases hk with⟨id,rfl⟩|⟨T,rfl⟩
   ·exact PE.imp (zcJ b g1 m hv (a.ok g) g3 g2 st pl) fun _ _ _ q=>zrP (fun _ _ _ z=>z) q
   ·exact PE.imp (zeN b g1 m hv (a.ok g) g3 g2 st pl) fun _ _ _ q=>zrP (fun _ _ _ z=>z) q
  exact⟨fun _=>n,zei n⟩
def zzF{cl k X E}{x:Str}{args:List Expr}{p pos:Pos}{fi:FnI}(g:Gx cl G k X nm N E)(U:zbA nm x=true)(I:G.fn x=some fi)(a:DL G nm N args)(J:args.length=fi.ar):
  (fi.own=true->PE X (.Call (.Name x p) args [] pos) (tN cl E (eFn fi.run a.fs)))/\PE X (.Call (.Name x p) args [] pos) (tE cl E (eFn fi.run a.fs)):=by
 obtain⟨g1,g2,g3⟩:=g.glob U;obtain⟨fa,fd,ps,f,d,c,b⟩:=g.gok.fn x fi I;have hlen:a.fs.length=fi.ar:=a.l.trans J
 have main:PE X (.Call (.Name x p) args [] pos) (zgI (zgA cl fi.ar fi.own fi.run) [] E (tAs cl E a.fs)):=by
  cases args with
  |nil=>
   refine PE.imp (zlo b g.room g1 f d c .nil g.pass g2) ?_;have:a.fs=[]:=ya9 a.l;rw[this];rintro σ H Q ⟨B,w,ρ,S,rfl,R,q⟩;exact q [] w R (Fut.refl _) .nil
  |cons e es=>
   have a2:=a.q;rw[ya8,yaa]at a2;exact zns b g.room g1 f d c .nil g.pass (a.ok g) g2 (za4 a2.1) (zbK a2.2)
 cases h:fi.own with
 |false=>
  rw[h]at main;exact⟨nofun,PE.imp main fun _ _ _ q=>zud q hlen⟩
 |true=>
  rw[h]at main;have n:PE X (.Call (.Name x p) args [] pos) (tN cl E (eFn fi.run a.fs)):=PE.imp main fun _ _ _ q=>zuc q hlen
  exact⟨fun _=>n,zei n⟩
noncomputable def zhz{args:List Expr}{x:Str}{p pos:Pos}(o:Bool)(f:Fe)(h:∀{cl k X E},Gx cl G k X nm N E->(o=true->PE X (.Call (.Name x p) args [] pos) (tN cl E f))/\PE X (.Call (.Name x p) args [] pos) (tE cl E f)):Option (Dn G nm N (.Call (.Name x p) args [] pos)):=some ⟨o,f,rfl,fun g=>⟨(h g).1,(h g).2,fun _=>zgL (h g).2 fun _=>rfl⟩⟩
def zwo(nm:Names)(N:List Str)(x:Str)(p pos:Pos)(args:List Expr):Option (Dn G nm N (.Call (.Name x p) args [] pos)):=gd (zbA nm x) fun b=>match hf:G.fn x with
 |some fi=>gd (decide (args.length=fi.ar)) fun c=>(shL rc nm N args).bind fun a=>zhz fi.own (eFn fi.run a.fs) fun g=>zzF g b hf a (yah c)|none=>gd (G.blt x) fun hb=>match args with
  |[]=>none|e::es=>(zug x).bind fun bi=>(opL rc nm N (e::es)).bind fun a=>zhz bi.nw (zaF bi.g a.fs) fun g=>zuf bi g b hb a
noncomputable def zzx(nm:Names)(N:List Str)(x:Str)(p pos:Pos):∀args,Option (Dn G nm N (.Call (.Name x p) args [] pos))
 |[a,.Name t _]=>gd (decide (x="isinstance")&&(zbA nm x&&G.blt x&&zbA nm t&&G.blt t)) fun b=>(zyp t).bind fun T=>(opE rc nm N a).bind fun fa=>zhz false (eUn (zcK T.T) fa.f) fun g=>⟨nofun,by
  simp only[yaa]at b;obtain⟨d,⟨⟨h1,h2⟩,h⟩,e⟩:=b;obtain rfl:=yah d;obtain⟨t1,c,t3⟩:=g.glob h
  exact zp0 (g.glob h1).1 (g.gok.blt _ h2) t1 (g.gok.blt _ e) T.ok t3 c (zav fa.q) (fa.ok g)⟩
 |_=>none
def zyW(nm:Names)(N:List Str)(x:Str)(p pos:Pos):∀args,Option (Dn G nm N (.Call (.Name x p) args [] pos))
 |[.Call (.Name y _) [a] [] _]=>gd (decide (x="len")&&decide (y="set")&&(zbA nm x&&G.blt x&&zbA nm y&&G.blt y)) fun k=>(rc nm N a).bind fun fa=>zhz false (eUn zdu fa.f) fun g=>⟨nofun,by
  simp only[yaa]at k;obtain⟨⟨c,l⟩,⟨⟨h1,h2⟩,n⟩,m⟩:=k;obtain rfl:=yah c;obtain rfl:=yah l
  exact zkU g.calm (g.un (by decide)) (g.glob h1).1 (g.gok.blt _ h2) (g.glob n).1 (g.gok.blt _ m) (fa.ok g).2.1 (za4 (zav fa.q))⟩
 |[.Attribute o f ap]=>gd (zbA nm x&&G.blt x) fun b=>(faG G nm N (.Attribute o f ap)).bind fun t=>if c:x="len"then gd (ztl t.f) fun _=>zhz false (zre G.ob.cur t.f t.i) fun g=>⟨nofun,by
   subst c;rw[yaa]at b;obtain⟨i,r,ok⟩:=t;obtain⟨x,p,j,e,s1,s2,h,d,fk⟩:=ok g;cases e
   exact zpZ (y:="") s1 s2 h d g.same fk rfl (g.glob b.1).1 (g.gok.blt _ b.2)⟩
  else if c:x="sorted"then gd (zo8 t.f) fun _=>zhz true (zj7 G.ob.cur t.f t.i) fun g=>by
   subst c;rw[yaa]at b;obtain⟨i,r,ok⟩:=t;obtain⟨x,p,j,e,s1,s2,h,d,fk⟩:=ok g;cases e;exact⟨fun _=>zkT s1 s2 h d g.calm g.same fk rfl (g.glob b.1).1 (g.gok.blt _ b.2),zei (zkT s1 s2 h d g.calm g.same fk rfl (g.glob b.1).1 (g.gok.blt _ b.2))⟩
  else none
 |_=>none
def zvJ{cl k X E}{x:Str}{args:List Expr}{p pos:Pos}{ah:List D}{fi:FnI}(g:Gx cl G k X nm N E)(U:zbA nm x=true)(hm:G.ob.mks x=some (ah,fi))(I:args.isEmpty=false)(a:DL G nm N args)(J:args.length+1=fi.ar):PE X (.Call (.Name x p) args [] pos) (tE cl E (eMk x [] fi.run a.fs)):=by
 obtain⟨f,fd,ps,dvs,ds,k',hk,b,M,c,i,d,h,F⟩:=g.gok.mks x ah fi hm;obtain⟨g1,g2,g3⟩:=g.glob U
 cases args with
 |nil=>cases I|cons e es=>
  have a2:=a.q;rw[ya8,yaa]at a2;exact PE.imp (znk M F (g.room.mono hk) g1 b c .nil g.pass (a.ok g) g2 (za4 a2.1) (zbK a2.2)) fun _ _ _ q=>zyV (ah:=[]) (fun _=>.nil) q (by rw[a.l];exact J)
def mkG(nm:Names)(N:List Str)(x:Str)(p pos:Pos)(args:List Expr):Option (Dn G nm N (.Call (.Name x p) args [] pos)):=match hm:G.ob.mks x with
 |some c=>gd (zbA nm x&&(!args.isEmpty&&decide (args.length+1=c.2.ar))) fun b=>(shL rc nm N args).bind fun a=>zhz false (eMk x [] c.2.run a.fs) fun g=>⟨nofun,by
  simp only[yaa,yaH,yaA]at b
  exact zvJ g b.1 hm b.2.1 a b.2.2⟩
 |none=>none
structure Cp(G:Genv)(nm:Names)(N:List Str)(xs:List Str)where
 cs:List Nat
 ok:∀{cl k X E},Gx cl G k X nm N E->CapsOk X xs cs
noncomputable def zub(G:Genv)(nm:Names)(N:List Str):∀xs,Option (Cp G nm N xs)
 |[]=>some ⟨[],fun _=>⟨rfl,fun j x i h=>by simp at h⟩⟩
 |x::xs=>gd (decide (nm.lookup x=some .cell)) fun a=>match hi:idx N x with
  |some i=>(zub G nm N xs).map fun c=>⟨i::c.cs,fun g=>by
   have a:=yah a;have c:=c.ok g;refine⟨by rw[yad,yad,c.len],fun j y d b e2=>?_⟩
   cases j with
   |zero=>
    cases b;cases e2;refine⟨by rw[g.eN];exact ze6 hi,?_,g.fnc _ a⟩;obtain⟨e,a1,a2⟩:=g.vis _ _ a
    rcases a2 with z|⟨z,_⟩
    ·rwa[z]at a1
    ·cases z
   |succ j=>exact c.at' j y d b e2⟩
  |none=>none
def zu2(nm:Names)(N:List Str)(x:Str)(p pos:Pos):∀args,Option (Dn G nm N (.Call (.Name x p) args [] pos))
 |[e]=>gd (decide (x="_law_told")&&zbA nm x) fun a=>match b:G.lam e with
  |some r=>(zub G nm N r.1).bind fun c=>zhz false (zdo G.und G.isx c.cs r.2) fun g=>⟨nofun,by
   rw[yaa]at a;obtain rfl:=yah a.1
   exact g.gok.tl e r.1 r.2 b _ _ c.cs p pos rfl rfl rfl rfl rfl g.room g.calm (g.glob a.2).1 g.cod (c.ok g)⟩
  |none=>none
 |_=>none
noncomputable def zuK{o:Expr}{m:Str}{ap cp:Pos}{args:List Expr}(w:Bool)(f:Fe)(h:∀{cl k X E},Gx cl G k X nm N E->(w=true->PE X (.Call (.Attribute o m ap) args [] cp) (tN cl E f))/\PE X (.Call (.Attribute o m ap) args [] cp) (tE cl E f)):Option (Dn G nm N (.Call (.Attribute o m ap) args [] cp)):=some ⟨w,f,rfl,fun g=>⟨(h g).1,(h g).2,fun _=>zgL (h g).2 fun _=>rfl⟩⟩
noncomputable def zpl(o:Expr):Prop:=∀m env,attributeBase o m env (eval o env)=eval o env
structure Bo(o:Expr):Type where
 ok:zpl o
noncomputable def zw1:∀o,Option (Bo o)|.Name _ _=>some ⟨fun _ _=>rfl⟩|.Constant _ _ _=>some ⟨fun _ _=>rfl⟩|.Subscript _ _ _=>some ⟨fun _ _=>rfl⟩|_=>none
noncomputable def zyG:∀o,Option (Bo o)|.Name _ _=>some ⟨fun _ _=>rfl⟩|.Call (.Name _ _) (_::_) _ _=>some ⟨fun _ _=>rfl⟩|.Attribute (.Name _ _) _ _=>some ⟨fun _ _=>rfl⟩|_=>none
structure Sm(m:Str)where
 g:Str->D->Option D
 ok:∃id,Slot "str" m id/\typeOf (.builtin id)=pure (.type "method_descriptor")/\∀{X cl},MtS X cl id g
def zyC(m:Str):Option (Sm m):=if h:m="endswith"then some ⟨zmf,_,h ▸ PySem.F.slot_str_endswith,PySem.F.type_str_endswith,zqH⟩else if h:m="join"then some ⟨zdw,_,h ▸ PySem.F.slot_str_join,PySem.F.type_str_join,zqG⟩else if h:m="split"then some ⟨zcW,_,h ▸ ybY,PySem.F.type_str_split,znB⟩else if h:m="partition"then some ⟨zlr,_,h ▸ PySem.F.slot_str_partition,PySem.F.type_str_partition,zqF⟩else if h:m="index"then some ⟨zjn,_,h ▸ PySem.F.slot_str_index,PySem.F.type_str_index,znC⟩else none
def zyq(nm:Names)(N:List Str)(o:Expr)(m:Str)(ap cp:Pos):∀args,Option (Dn G nm N (.Call (.Attribute o m ap) args [] cp))
 |[a]=>gd (ap.endLine==cp.line) fun e=>(zw1 o).bind fun b=>(zyC m).bind fun s=>(rc nm N o).bind fun fo=>(rc nm N a).bind fun fa=>zuK false (eSm s.g fo.f fa.f) fun g=>⟨nofun,by
   obtain⟨id,s1,s2,d⟩:=s.ok
   exact zvi s1 s2 d (fo.ok g).2.1 (fa.ok g).2.1 (zav fa.q) (b.ok _ _) e⟩
 |[a,a2]=>gd (decide (m="get")&&(ap.endLine==cp.line)) fun c=>(zw1 o).bind fun b=>(rc nm N o).bind fun fo=>(rc nm N a).bind fun fa=>(rc nm N a2).bind fun fb=>zuK false (zep fo.f fa.f fb.f) fun g=>⟨nofun,by
   rw[yaa]at c;obtain rfl:=yah c.1
   exact zmW (g.un (by decide)) (fo.ok g).2.1 (fa.ok g).2.1 (fb.ok g).2.1 (zav fa.q) (zav fb.q) (b.ok _ _) c.2⟩
 |_=>none
noncomputable def zyQ(nm:Names)(N:List Str)(o:Expr)(m:Str)(ap cp:Pos):∀args,Option (Dn G nm N (.Call (.Attribute o m ap) args [] cp))
 |[]=>gd (decide (m="pop")&&(ap.endLine==cp.line)) fun a=>(faG G nm N o).bind fun t=>gd (ztl t.f) fun _=>zuK false (zrd G.ob.cur t.f t.i) fun g=>⟨nofun,by
   rw[yaa]at a;obtain rfl:=yah a.1;obtain⟨i,f,ok⟩:=t;obtain⟨x,p,d,rfl,s1,s2,c,b,fk⟩:=ok g
   exact zpX s1 s2 c b g.same fk rfl rfl a.2⟩
 |_=>none
def zqI{cl k X E}{o:Expr}{m c:Str}{fi:FnI}{args:List Expr}{ap pos:Pos}(g:Gx cl G k X nm N E)(h1:G.ob.mt m=some (c,fi))(b:zpl o)(J:(ap.endLine==pos.line)=true)(I:args.length<30)(U:args.length+1=fi.ar)(fo:Dn G nm N o)(a:DL G nm N args):
  (fi.own=true->PE X (.Call (.Attribute o m ap) args [] pos) (tN cl E (zbx c m fi.run fo.f a.fs)))/\PE X (.Call (.Attribute o m ap) args [] pos) (tE cl E (zbx c m fi.run fo.f a.fs)):=by
 obtain⟨f,fd,ps,c1,c2,r,p⟩:=g.gok.mt m c fi h1
 have hlen:a.fs.length+1=fi.ar:=by rw[a.l];exact U
 have i:=zlz (ap:=ap) (b m X.env) (zzG (pos:=pos) a.q I) J
 have main:PE X (.Call (.Attribute o m ap) args [] pos) (zgH (cl c) m (zgA cl fi.ar fi.own fi.run) [] E (tE cl E fo.f) (tAs cl E a.fs)):=by
  cases args with
  |nil=>
   have z:a.fs=[]:=ya9 a.l;rw[z];refine PE.imp (zln (fo.ok g).2.1 c1 c2 p g.room r .nil g.pass i) ?_;rintro σ H Q ⟨B,w,ρ,S,rfl,R,q⟩;refine⟨B,w,ρ,S,rfl,R,?_⟩
   cases h:fo.f ρ S with
   |bad=>rwa[h]at q|exc c S1=>rwa[h]at q|ok d S1=>
    rw[h]at q;intro v t A D sh;obtain⟨a,dx,fs,y,e2,x,F,w',s,S',u,C,q⟩:=q v t A D sh;refine⟨a,dx,fs,y,e2,x,?_⟩;have:=q [] w' C (Fut.refl _) .nil;rwa[u]at this
  |cons e es=>
   have a2:=a.q;rw[ya8,yaa]at a2;exact znj (fo.ok g).2.1 c1 c2 p g.room r .nil g.pass (a.ok g) (za4 a2.1) (zbK a2.2) i
 cases j:fi.own with
 |false=>
  rw[j]at main;exact⟨nofun,PE.imp main fun _ _ _ q=>ztj q hlen⟩
 |true=>
  rw[j]at main;have n:=PE.imp main fun _ _ _ q=>zti q hlen
  exact⟨fun _=>n,zei n⟩
def zvK(nm:Names)(N:List Str)(o:Expr)(m:Str)(ap cp:Pos)(args:List Expr):Option (Dn G nm N (.Call (.Attribute o m ap) args [] cp)):=match hm:G.ob.mt m with
 |some c=>gd ((ap.endLine==cp.line)&&(decide (args.length<30)&&decide (args.length+1=c.2.ar))) fun d=>(zyG o).bind fun b=>(rc nm N o).bind fun fo=>(shL rc nm N args).bind fun a=>zuK c.2.own (zbx c.1 m c.2.run fo.f a.fs) fun g=>by
  simp only[yaa,yaA]at d;exact zqI g hm b.ok d.1 d.2.1 d.2.2 fo a
 |none=>none
def zwj(nm:Names)(N:List Str)(args:List Expr)(cp:Pos):∀f I,Option (Dn G nm N (.Call f args I cp))
 |.Name x p,[]=>(zu2 nm N x p cp args).or ((zzx rc nm N x p cp args).or ((zyW rc nm N x p cp args).or ((mkG rc nm N x p cp args).or (zwo rc nm N x p cp args))))|.Attribute o m ap,[]=>(zyQ nm N o m ap cp args).or ((zyq rc nm N o m ap cp args).or (zvK rc nm N o m ap cp args))|_,_=>none
end
noncomputable def zv0:Option NameKind->Bool|some .local=>true|some .cell=>true|_=>false
structure Ti(G:Genv)(nm:Names)(N:List Str)(n:Nat)(x:Str)where
 i:Nat
 ok:∀{cl k X E},Gx cl G k X nm N E->i<n/\X.N.Nodup/\X.N[i]?=some x/\Loc X.env.scope x/\(X.fn x=true\/X.env.scope.names.lookup x=some .local)
structure Tgs(G:Genv)(nm:Names)(N:List Str)(n:Nat)(es:List Expr)where
 is:List Nat
 ok:∀{cl k X E},Gx cl G k X nm N E->PGs X es (tGs cl n is)/\(assignEach es X.env).length=is.length/\(assignEach es X.env).findIdx? (·.1)=none
structure Dt(G:Genv)(nm:Names)(N:List Str)(n:Nat)(tg:Expr)where
 t:Tg
 ok:∀{cl k X E},Gx cl G k X nm N E->PG X tg (tG cl n t)
section
variable{G:Genv}(rc:Rec G){nm:Names}{N:List Str}{e:Expr}
def tgI(G:Genv)(nm:Names)(N:List Str)(n:Nat)(x:Str):Option (Ti G nm N n x):=gd (zv0 (nm.lookup x)) fun a=>match hi:idx N x with
 |some i=>gd (decide (i<n)) fun d=>some ⟨i,fun g=>by
  refine⟨yah d,by rw[g.eN];exact g.nd,by rw[g.eN];exact ze6 hi,?_⟩
  cases hk:nm.lookup x with
  |none=>rw[hk]at a;cases a|some b=>
   obtain⟨c,e,z⟩:=g.vis x b hk;rw[hk]at a
   cases b with
   |«local»=>
    rcases z with rfl|⟨z,_⟩
    ·exact⟨.inl e,.inr e⟩
    ·cases z
   |cell=>
    rcases z with rfl|⟨z,_⟩
    ·exact⟨.inr e,.inl (g.fnc x hk)⟩
    ·cases z
   |_=>cases a⟩
 |none=>none
def zw2(G:Genv)(nm:Names)(N:List Str)(n:Nat):∀es,Option (Tgs G nm N n es)
 |[]=>some ⟨[],fun _=>⟨zpT,rfl,rfl⟩⟩|.Name x pos::es=>(tgI G nm N n x).bind fun a=>(zw2 G nm N n es).map fun b=>⟨a.i::b.is,fun g=>by
   obtain⟨a1,a2,f,e,d⟩:=a.ok g;obtain⟨b1,b2,c⟩:=b.ok g;refine⟨zmT a1 a2 f e d b1,congrArg (·+1) b2,?_⟩;show((false,assign (.Name x pos) _)::assignEach es _).findIdx? (·.1)=none;rw[List.findIdx?_cons]
   simp[c]⟩
 |_::_=>none
def tgG(G:Genv)(nm:Names)(N:List Str)(n:Nat):∀tg,Option (Dt G nm N n tg)
 |.Name x _=>(tgI G nm N n x).map fun a=>⟨.one a.i,fun g=>by
   obtain⟨a1,a2,f,e,d⟩:=a.ok g
   exact zr8 a1 a2 f e d⟩
 |.Tuple es _ _=>(zw2 G nm N n es).map fun b=>⟨.tup b.is,fun g=>by
   obtain⟨b1,b2,c⟩:=b.ok g
   exact zr7 g.calm b1 b2 c⟩
 |_=>none
structure Di(G:Genv)(nm:Names)(N:List Str)(tg e:Expr)where
 f:Fi
 q:okE e=true
 ok:∀{cl k X E},Gx cl G k X nm N E->PI X tg e (tI cl E f)
def zwt(tg:Expr)(a:Dn G nm N e):Di G nm N tg e:=⟨zaG a.f,a.q,fun g=>zr6 g.kk (a.ok g).2.1⟩
noncomputable def zxY(nm:Names)(N:List Str)(x:Str)(p pos:Pos)(a b:Expr):∀tg,Option (Di G nm N tg (.Call (.Name x p) [a,b] [] pos))
 |.Tuple es kk d=>gd (decide (x="zip")&&(zbA nm x&&G.blt x)) fun c=>(rc nm N a).bind fun fa=>(rc nm N b).map fun fb=>⟨zry fa.f fb.f,rfl,fun g=>by
   simp only[yaa]at c;obtain rfl:=yah c.1
   exact zr3 (g.glob c.2.1).1 (g.gok.blt _ c.2.2) (zaR (fa.ok g).2.1 (zaR (fb.ok g).2.1 zek (za4 (zav fb.q))) (za4 (zav fa.q))) (za4 (zav fa.q)) (zbK (by simp[zav fb.q]))⟩
 |_=>none
def zyE(nm:Names)(N:List Str)(tg:Expr)(x:Str)(p pos:Pos)(a:Expr):Option (Di G nm N tg (.Call (.Name x p) [a] [] pos)):=gd (decide (x="range")&&(zbA nm x&&G.blt x)) fun b=>(rc nm N a).map fun fa=>⟨zeu fa.f,rfl,fun g=>by
   simp only[yaa]at b;obtain rfl:=yah b.1
   exact zpS (g.glob b.2.1).1 (g.gok.blt _ b.2.2) (zaR (fa.ok g).2.1 zek (za4 (zav fa.q))) (za4 (zav fa.q))⟩
def ztI(nm:Names)(N:List Str)(tg:Expr):∀e,Option (Di G nm N tg e)
 |.Call (.Name x p) [a] [] pos=>(zyE rc nm N tg x p pos a).or ((rc nm N (.Call (.Name x p) [a] [] pos)).map (zwt tg))|.Call (.Name x p) [a,b] [] pos=>(zxY rc nm N x p pos a b tg).or ((rc nm N (.Call (.Name x p) [a,b] [] pos)).map (zwt tg))|e=>(rc nm N e).map (zwt tg)
noncomputable def zte:Expr->Option Str|.Name x _=>some x|_=>none
def zbN:Expr->List Str
 |.Name x _=>[x]|.Tuple es _ _=>es.filterMap zte|_=>[]
def zbB(names:Names)(N:List Str):List (Str×Nat):=names.filterMap fun p=>if p.2=.free then(idx N p.1).map fun i=>(p.1,i)else none
noncomputable def zzw:Option NameKind->Bool|some .cell=>true|some .free=>true|_=>false
def zmr(nm:Names)(scope:Scope)(xs:List Str)(caps:List (Str×Nat)):Bool:=
 decide (scope.kind=.function)&&decide ((scope.names.map (·.1)).Nodup)&&scope.names.all (fun y=>!decide (y.2=.local)||decide (scope.names.lookup y.1=some .local))
 && scope.names.all (fun y=>!decide (y.2=.free)||zzw (nm.lookup y.1))&&caps.all (fun p=>scope.names.all fun z=>!decide (z.1=p.1)||decide (z.2=.free))&&decide ((xs++caps.map (·.1)).Nodup)
def zhX{env:PySem.Env}{x:Str}{J:NameKind}{names:Names}(h:names.lookup x=some J):
  ∃I,(names.map fun(n,k)=>if(k==NameKind.free&&env.scope.kind==.function&&env.kindOf n==some .cell)then(n,NameKind.cell)else(n,k)).lookup x=some I/\(I=J\/(J=.free/\I=.cell)):=by
 induction names with
 |nil=>cases h|cons p r c=>
  obtain⟨n,k0⟩:=p;rw[yaD]at h;rw[yar];dsimp only
  by_cases b:(k0==NameKind.free&&env.scope.kind==.function&&env.kindOf n==some .cell)=true
  ·rw[if_pos b,yaD]
   cases a:x==n with
   |true=>
    rw[a]at h;cases h;simp only[yaa,ybT]at b;exact⟨_,rfl,.inr ⟨b.1.1,rfl⟩⟩
   |false=>rw[a]at h;exact c h
  ·rw[if_neg b,yaD]
   cases a:x==n with
   |true=>rw[a]at h;cases h;exact⟨_,rfl,.inl rfl⟩|false=>rw[a]at h;exact c h
def zka{cl k X E}(g:Gx cl G k X nm N E)(h:zmr nm scope xs (zbB scope.names N)=true):CompScopeG X.env.scope scope X.N xs (zbB scope.names N)/\(xs++(zbB scope.names N).map (·.1)).Nodup:=by
 unfold zmr at h;simp only[yaa,yaK,yaA,ycu,yaH,ycy]at h;obtain⟨⟨⟨⟨⟨h1,h2⟩,s⟩,r⟩,o⟩,n⟩:=h
 have fr:∀y∈scope.names,y.2=.free->X.env.scope.names.lookup y.1=some .cell\/X.env.scope.names.lookup y.1=some .free:=fun y c hf=>by
  rcases r y c with z|z
  ·exact absurd hf z
  ·cases hk:nm.lookup y.1 with
   |none=>rw[hk]at z;cases z|some j=>
    obtain⟨b,e,f⟩:=g.vis y.1 j hk;rw[hk]at z;rw[e]
    rcases f with rfl|⟨_,rfl⟩
    ·cases b<;>first|exact .inl rfl|exact .inr rfl|cases z
    ·exact .inl rfl
 refine⟨⟨h2,h1,fun y c m=>(s y c).elim (fun z=>absurd m z) fun z=>z,fr,fun p a=>?_,fun p a z l e=>(o p a z l).elim (fun w=>absurd e w) fun w=>w⟩,n⟩;unfold zbB at a;obtain⟨q,d,e⟩:=ybA.mp a;split at e
 ·rename_i hf
  cases hi:idx N q.1 with
  |none=>rw[hi]at e;cases e|some i=>
   rw[hi]at e;have t:(q.1,i)=p:=Option.some.inj e;subst t;refine⟨by rw[g.eN];exact ze6 hi,by rw[<-hf];exact d,?_⟩
   rcases fr q d hf with z|z<;>rw[z]<;>exact fun w=>by cases w
 ·cases e
def zgk{cl k X E}(g:Gx cl G k X nm N E)(U:(xs++(zbB scope.names N).map (·.1)).Nodup)(J:List (Str×Addr))(C:Addr)(s:Shared)(H:Hp)(fp:List Addr):
  Gx cl G k (zbe X xs (zbB scope.names N) scope J C s H fp) scope.names (xs++(zbB scope.names N).map (·.1)) noE where
 gok:=g.gok
 room:=g.room
 calm:=g.calm
 pass:=fun pins σ H s e s' I q=>by
  obtain⟨a,cls,a0,H',B,_,_,_,_,_,_,_,_,_,z⟩:=q;exact z.elim
 eN:=rfl
 kk:=g.kk
 pp:=g.pp
 ww:=g.ww
 nd:=U
 vis:=fun x b h=>zhX h
 fnx:=fun x h=>lookup_relabel_local h
 cod:=fun c h=>g.cod c h
 fnc:=fun x h=>yap h
structure Dif(G:Genv)(nm:Names)(N:List Str)(ifs:List Expr)where
 f:Fe
 ok:∀{cl k X},Gx cl G k X nm N noE->PIf X ifs (tTr cl noE f)
def zwk(nm:Names)(N:List Str):∀ifs,Option (Dif G nm N ifs)
 |[]=>some ⟨zct,fun _ pins s σ H Q I q=>by
   obtain⟨B,w,ρ,S,rfl,R,q⟩:=q
   exact zqp pins s σ w.H Q I (q w R (Fut.refl _))⟩
 |[c]=>gd (zcD c) fun b=>(rc nm N c).map fun a=>⟨a.f,fun g=>zqo ((a.ok g).2.2 b)⟩|_=>none
structure Dc(G:Genv)(nm:Names)(N:List Str)(elt:Expr)(gg:Comprehension)(scope:Scope)where
 f:Fe
 ok:∀{cl k X E},Gx cl G k X nm N E->∃it t c el,f=zbS (zbN gg.target).length t it c el ((zbB scope.names N).map (·.2))/\gg=⟨gg.target,gg.iter,gg.ifs,0⟩/\CompScopeG X.env.scope scope X.N (zbN gg.target) (zbB scope.names N)/\PI X gg.target gg.iter (tI cl E it)/\okE gg.iter=true ∧
   (∀cl' C s H fp,PG (zbe X (zbN gg.target) (zbB scope.names N) scope cl' C s H fp) gg.target (tG cl (zbN gg.target).length t)) ∧
   (∀cl' C s H fp,PIf (zbe X (zbN gg.target) (zbB scope.names N) scope cl' C s H fp) gg.ifs (tTr cl noE c)) ∧
   ∀cl' C s H fp,PE (zbe X (zbN gg.target) (zbB scope.names N) scope cl' C s H fp) elt (tE cl noE el)
def zt5(nm:Names)(N:List Str)(elt:Expr)(I:Comprehension)(scope:Scope):Option (Dc G nm N elt I scope):=
 gd (decide (I.is_async=0)&&zmr nm scope (zbN I.target) (zbB scope.names N)) fun d=>
  (ztI rc nm N I.target I.iter).bind fun it=>
  (tgG G scope.names (zbN I.target++(zbB scope.names N).map (·.1)) (zbN I.target).length I.target).bind fun t=>
  (zwk rc scope.names (zbN I.target++(zbB scope.names N).map (·.1)) I.ifs).bind fun c=>
  (rc scope.names (zbN I.target++(zbB scope.names N).map (·.1)) elt).map fun e=>
  ⟨zbS (zbN I.target).length t.t it.f c.f e.f ((zbB scope.names N).map (·.2)),fun g=>by
   rw[yaa]at d;obtain⟨S,b⟩:=zka g d.2;refine⟨_,_,_,_,rfl,?_,S,it.ok g,it.q,fun a C s H fp=>t.ok (zgk g b a C s H fp),fun a C s H fp=>c.ok (zgk g b a C s H fp),fun a C s H fp=>(e.ok (zgk g b a C s H fp)).2.1⟩;have:=yah d.1;clear it t c e S b g;cases I;simp only at this
   rw[this]⟩
def Dc.n{cl k X E}{elt:Expr}{I:Comprehension}{scope:Scope}{pos:Pos}(c:Dc G nm N elt I scope)(g:Gx cl G k X nm N E):PE X (.ListComp elt [I] scope pos) (tN cl E c.f):=by
 obtain⟨it,t,c',i,e,h,S,i1,i2,d,b,a⟩:=c.ok g;rw[e,h];exact PE.imp (znq g.calm S i1 d b a (zf9 i2)) fun _ _ _ q=>zpd q
structure Dop(G:Genv)(nm:Names)(N:List Str)(o:Option Expr)where
 f:Option Fe
 ok:∀{cl k X E},Gx cl G k X nm N E->PO X o (zux cl E f)
def zw7(nm:Names)(N:List Str):∀o,Option (Dop G nm N o)
 |none=>some ⟨none,fun _=>zqm⟩|some e=>(opE rc nm N e).map fun a=>⟨some a.f,fun g=>zql (a.ok g)⟩
structure Px(i:Expr):Type where
 ok:ziv i
noncomputable def ixO:∀i,Option (Px i)|.Name _ _=>some ⟨fun _ _=>rfl⟩|.Constant _ _ _=>some ⟨fun _ _=>rfl⟩|.BinOp _ _ _ _=>some ⟨fun _ _=>rfl⟩|.Subscript _ _ _=>some ⟨fun _ _=>rfl⟩|.Call _ _ _ _=>some ⟨fun _ _=>rfl⟩|.UnaryOp _ _ _=>some ⟨fun _ _=>rfl⟩|_=>none
def zyB(nm:Names)(N:List Str)(a:Expr)(pos:Pos):∀i,Option (Dn G nm N (.Subscript a i pos))
 |.Slice none none (some b) _=>(opE rc nm N a).bind fun fa=>(opE rc nm N b).bind fun fb=>ziD (zaf zle fa.f fb.f) rfl (fun _ _=>rfl) fun g=>zmV (fa.ok g) (fb.ok g)|.Slice lo hi none _=>(opE rc nm N a).bind fun fa=>(zw7 rc nm N lo).bind fun l=>(zw7 rc nm N hi).bind fun u=>ziD (eSl fa.f l.f u.f) rfl (fun _ _=>rfl) fun g=>zvj (fa.ok g) (l.ok g) (u.ok g)|i=>(ixO i).bind fun h=>(opE rc nm N a).bind fun fa=>(opE rc nm N i).bind fun fi=>ziD (zaf ixD fa.f fi.f) rfl (fun _ _=>rfl) fun g=>zsd (ztL g.kk g.units) (fa.ok g) (fi.ok g) h.ok
noncomputable def ixF(nm:Names)(N:List Str)(b:Expr)(pos:Pos):∀i,Option (Dn G nm N (.Subscript b i pos))
 |.Name y _=>(faG G nm N b).bind fun t=>gd (zo8 t.f) fun _=>(slO G nm N y).bind fun s=>ziD (eQ (zqd G.ob.cur t.f t.i (zbI s.i))) rfl (fun _ _=>rfl) fun g=>by
   obtain⟨i,f,ok⟩:=t;obtain⟨x,p,d,rfl,s1,s2,c,a,fk⟩:=ok g;exact zvm (zss s1 s2 c a g.same fk rfl (g.un (by decide)) (s.v g).2.2 fun _ _=>rfl)
 |_=>none
structure Kn(d:D):Type where
 x:Str
 ok:d=.str x
noncomputable def zve:∀d,Option (Kn d)|.str x=>some ⟨x,rfl⟩|_=>none
def zrg:Rec G:=fun nm N e=>match e with
 |.Constant c _ _=>(match c with
  |.int i=>ziD (zaa (.int i)) rfl (fun _ _=>rfl) fun _=>zfZ zoO fun w=>.int _|.bool b=>ziD (zaa (.bl b)) rfl (fun _ _=>rfl) fun _=>zfZ zqv fun w=>.bl _|.none=>ziD (zaa .non) rfl (fun _ _=>rfl) fun _=>zfZ zoM fun w=>.non|.str x=>ziD (zaa (.str x)) rfl (fun _ _=>rfl) fun _=>zfZ zoL fun w=>.str _|_=>none)
 |.Name x _=>(match slO G nm N x with
  |some s=>ziD (zad s.i) rfl (fun _ _=>rfl) fun g=>(s.v g).1|none=>gd (zbA nm x) fun h=>(match o:G.con x with
   |some d=>ziD (zaa d) rfl (fun _ _=>rfl) fun g=>by
    obtain⟨v,u,m,r,sh⟩:=g.gok.con x d o;exact zfZ (zh2 (g.glob h).1 m r (g.glob h).2.1) sh
   |none=>none))
 |.Tuple es _ _=>(shL rc nm N es).bind fun a=>ziD (zmh a.fs) rfl (fun _ _=>rfl) fun g=>zsa (a.ok g)|.List es _=>(shL rc nm N es).bind fun a=>ztd (zev a.fs) rfl (fun _ _=>rfl) fun g=>ziZ (a.ok g)|.BinOp (.List es p) .Mult b _=>(opE rc nm N (.List es p)).bind fun fa=>(opE rc nm N b).bind fun fb=>ztd (zaf zjZ fa.f fb.f) rfl (fun _ _=>rfl) fun g=>zpY (fa.ok g) (fb.ok g)|.BinOp a op b _=>(zzM op).bind fun j=>(opE rc nm N a).bind fun fa=>(opE rc nm N b).bind fun fb=>ziD (zaf j.1 fa.f fb.f) rfl (fun _ _=>rfl) fun g=>zoC j.2 (fa.ok g) (fb.ok g)|.UnaryOp op a _=>(match op with
  |.Not=>gd (zcD a) fun l=>(rc nm N a).map fun fa=>⟨false,eUn zbz fa.f,rfl,fun g=>⟨nofun,zsb (fa.ok g).2.1,fun _=>zow ((fa.ok g).2.2 l)⟩⟩|.USub=>(opE rc nm N a).bind fun fa=>ziD (eUn znA fa.f) rfl (fun _ _=>rfl) fun g=>zvh zrF (fa.ok g)|_=>none)
 |.BoolOp op es _=>(zue rc nm N op es).map fun b=>⟨false,b.f,rfl,fun g=>⟨nofun,(b.ok g).1,fun _=>(b.ok g).2.pt⟩⟩|.Compare a ops bs p=>(inF nm N a p ops bs).or (zwl rc nm N a p ops bs)|.IfExp c a b _=>gd (zcD c) fun l=>(rc nm N c).bind fun fc=>(rc nm N a).bind fun fa=>(rc nm N b).map fun fb=>⟨false,eIf fc.f fa.f fb.f,rfl,fun g=>⟨nofun,zvl ((fc.ok g).2.2 l) (fa.ok g).2.1 (fb.ok g).2.1,nofun⟩⟩|.Subscript a i pos=>(ixF nm N a pos i).or (zyB rc nm N a pos i)|.Attribute (.Name x p) f _=>gd (G.ob.fk G.ob.cur f) fun hf=>(rc nm N (.Name x p)).bind fun fo=>ziD (zkr G.ob.cur f fo.f) rfl (fun _ _=>rfl) fun g=>zse (g.gok.fk _ _ hf) g.kk (fo.ok g).2.1 rfl|.Call f args k cp=>zwj rc nm N args cp f k|.ListComp elt [j] scope _=>(zt5 rc nm N elt j scope).bind fun c=>ztd c.f rfl (fun _ _=>rfl) fun g=>c.n g|.Dict [] [] _=>ztd zn5 rfl (fun _ _=>rfl) fun _=>zp2|.Dict [some (.Name c p)] [v] _=>gd (zbA nm c) fun h=>(match o:G.con c with
  |some d=>(zve d).bind fun q=>(rc nm N v).bind fun t=>ztd (zj8 q.x t.f) rfl (fun _ _=>rfl) fun g=>by
   obtain⟨y,u,m,r,sh⟩:=g.gok.con c d o;obtain⟨x,rfl⟩:=q;cases sh ⟨fun _=>none,fun _=>none,[]⟩;exact zp1 (zh2 (g.glob h).1 m r (g.glob h).2.1) (t.ok g).2.1
  |none=>none)
 |_=>none
end
noncomputable def zwe(G:Genv):Nat->Rec G
 |0=>fun _ _ _=>none|n+1=>zrg (zwe G n)
noncomputable def zmD(X:Cx)(E:St->XK):Prop:=∀(C:Addr) (pins:Z3) (σ:St) (H:Hp) (s:Shared) (e:Addr) (h':Heap) (vs:List Value),Inv X pins σ H s->Heap.MadeExcOf s.heap h' e (.ref C) vs->E σ (.ref C) none H->X.xe (.ref e) {s with heap:=h'}
noncomputable def zpx(C:Addr)(E:St->XK)(t:TA):TS:=fun _ σ H=>t σ H fun vs H1=>vs.length<=sizeLine/\E σ (.ref C) none H1
theorem zli(U:zmD X E)(hc:X.calm=true)(hg:Gl X x)(hm:X.mg x=some (.ref C))
  (z:PySem.W.excIn X.K C bmV "ValueError.__new__"=true) (ha:PA X (e::es) t)
  (he:starEach (e::es) X.env=(false,eval e X.env)::starEach es X.env) (af:(backTo cpos (starEach es X.env)).any (·.1)=false) (J:(x==("__debug__":Str))=false):
  PS X (.Raise (some (.Call (.Name x np) (e::es) [] cpos)) none pos) (zpx C E t):=by
 intro pins s σ H D I h;obtain⟨bm,N,nm,d,bs,hd,sn,sub,ab,col,dd,n,c1,c2,m,l,mN,k,j,i,c⟩:=zie I.mod.kin z
 refine wpAny_Raise_call_subU (C:=C) (nm:=nm) (q:=d) (N:=N) (bs:=bs) (bm:=bm) (hdct:=hd) (sn:=sn) (sub:=sub) (ab:=ab) (col:=col) (dd:=dd) (k0:=n) (k1:=c1) (k2:=c2) (k3:=m) (k5:=l)
  yce (by decide +kernel) yce (mN:=mN) (c.hasType yce.hasBase) (I.ok.hd hc) (by rw[he];show(false||(backTo cpos (starEach es X.env)).any (·.1))=false;rw[af];rfl) i (zc0 I hg hm ⟨rfl,?_⟩ J)
 have go:=ha cpos pins s σ H _ I h;rw[he]at go ⊢;exact ybJ (thn go fun us s2 ⟨vs,H2,b,r2,g,f⟩=>⟨rfl,by rw[<-r2.length];exact g,b.bk _ _ k,j.keeps b.bk,c.keeps b.bk,fun h' a mk=>U C pins σ H2 s2 a h' us b mk f⟩)
def sRz(c:Str)(fs:List Fe):Fs:=fun ρ S=>match zap fs ρ S with|.ok ds S'=>if zau ds.length then .ex c ρ S' else .bad|.exc x S'=>.ex x ρ S'|.bad=>.bad
noncomputable def zpq(X:Cx)(pins:Z3)(E:St->XK):Cx:={X with pn:=X.pn++pins,xe:=fun e s'=>∃σ H1 s1,Inv X pins σ H1 s1/\CXE X.prog X.w X.stack H1 s1 (E σ) e s'}
section
variable{X:Cx}{pins:Z3}{σ:St}{H:Hp}{s:Shared}{E:St->XK}
def zsY(ok:X.Ok):(zpq X pins E).Ok:=
 ⟨ok.mod,ok.kind,ok.glob,ok.blt,ok.above,ok.inj,ok.has,ok.cab,ok.hd,ok.frames,ok.stk,ok.exf,ok.bs,ok.bsz,ok.noex,ok.exfs,ok.funs,ok.frf⟩
def znw(ok:(zpq X pins E).Ok):X.Ok:=
 ⟨ok.mod,ok.kind,ok.glob,ok.blt,ok.above,ok.inj,ok.has,ok.cab,ok.hd,ok.frames,ok.stk,ok.exf,ok.bs,ok.bsz,ok.noex,ok.exfs,ok.funs,ok.frf⟩
def zqZ(I:Inv X pins σ H s):Inv (zpq X pins E) [] σ H s:=
 ⟨zsY I.ok,I.os,I.bare,I.base,I.loc,I.cell,I.free,I.freeC,fun p a=>I.pin p (by simpa[zpq]using a),I.hok,I.len⟩
def zc1{J:Z3}(I:Inv (zpq X pins E) J σ H s):Inv X pins σ H s:=
 ⟨znw I.ok,I.os,I.bare,I.base,I.loc,I.cell,I.free,I.freeC,fun p a=>I.pin p (ycR _ a),I.hok,I.len⟩
def zmR{J:Ends}{f:Flow}(h:SP (zpq X pins E) [] J f s):SP X pins J f s:=by
 cases f with
 |next=>obtain⟨a,H',I,q⟩:=h;exact⟨a,H',zc1 I,q⟩|brk=>obtain⟨a,H',I,q⟩:=h;exact⟨a,H',zc1 I,q⟩|cont=>obtain⟨a,H',I,q⟩:=h;exact⟨a,H',zc1 I,q⟩|ret u=>obtain⟨v,a,H',I,r,q⟩:=h;exact⟨v,a,H',zc1 I,r,q⟩
end
noncomputable def zu1(K:PySem.W.Frag)(C:Addr)(i:Nat)(th:TS)(I:Ends):St->XK:=fun σ cls _ H'=>∃b,cls=.ref b/\zrs K b C/\∀a ob,H' a=none->ob.cls=.ref b->th (I.goes i) (σ.set i (some (.ref a))) (upd H' a (.frz ob (.own a)))
def zqh{X:Cx}{body:List Stmt}{b0:Stmt}{J:List Stmt}{c n:Str}{C:Addr}{i:Nat}{bD:List Value}{iD:String}{tb:(St->XK)->TS}{th:TS}{np U pos:Pos}(hs:X.stack=X.env::X.outer)(hf:X.env.frame=some X.env.locals)(hN:X.N.Nodup)(hi:X.N[i]?=some n)
  (hk:X.env.scope.names.lookup n=some .local) (hg:Gl X c) (hm:X.mg c=some (.ref C)) (z:PySem.W.excIn X.K C bD iD=true) (hb:bD.contains (.type "BaseException")=true) (h1:∀pins E,PSs (zpq X pins E) body (tb E)) (h2:∀a,PSs (X.inH a) (b0::J) th) (a3:(c==("__debug__":Str))=false):
  PS X (.Try body [.ExceptHandler (some (.Name c np)) (some n) (b0::J) U] [] [] pos) (fun De σ H=>tb (zu1 X.K C i th De) De σ H):=by
 intro pins s σ H D I h
 have l:X.A.frames=some (X.env::X.outer):=by rw[<-hs];exact I.ok.frames
 refine wpAny_Try_except (ya0 (h1 pins (zu1 X.K C i th D) [] s σ H D (zqZ I) h) (fun f s1 q=>?_) fun e s1 q=>?_)
 ·have g:=zmR q
  cases f with
  |next=>exact ycT g|ret v=>exact g|brk=>exact g|cont=>exact g
 ·obtain⟨x,H1,s2,w,a,cls,a0,H',B,rfl,P,c1,c2,t,os,bare,un,hok,C',rfl,⟨⟨bC,V,y⟩,up⟩,q⟩:=q;have d:=P;rw[hs]at d;refine wpAny_looks_onW l hf d fun h4 m r=>?_
  refine wpAny_landsW m fun Z b p=>?_
  rw[<-hs]at b;obtain⟨u,M,k,j,_,_⟩:=zfO (s':=s1) w b (r.trans p) c1 c2 t os bare un hok;refine wpAny_handleBy_cons (codeAny_handlers_test ?_) (by intro q;cases q);refine zc0 (u.inH a) hg hm ?_ a3;refine zgc u.kIn y z j k hb up ?_;refine codeAny_handlers_suite_as ?_;refine lands_againW b fun Y o F=>?_
  obtain⟨_,ob,oc,T,O,R⟩:=zfO (s':=s1) w o ((r.trans p).trans F) c1 c2 t os bare un hok;refine zdc (v:=.ref a) R hN hi (.inl hk) rfl (fun G Q=>?_) (.inr hk);exact ya0 (h2 a pins G _ _ (D.goes i) (Q.inH a) (q a ob O oc)) (fun f S L=>zpO I.ok hN hi hk L) fun _ _ z=>z.elim
noncomputable def Wd.claim(w:Wd)(p:Addr)(r:Root):Wd:=⟨w.H,fun a=>if a=p then some r else if w.ow a=some r then some .far else w.ow a,w.mu⟩
section
variable{cl:Cf}{B:Base}{σ:St}{w:Wd}{ρ:Env}{S:Sto}
def ze7(h:w.ow p≠none):Fut w (w.claim p r)where
 keep:=fun a u b hk=>by
  have n:a≠p:=fun z=>h (by rw[<-z];exact hk)
  refine⟨b,?_⟩;show(if a=p then some r else if w.ow a=some r then some Root.far else w.ow a)=none;rw[if_neg n,if_neg (by rw[hk];exact fun z=>by cases z)];exact hk
 mu:=fun _ _ h=>h
theorem Rel.claim(R:Rel cl (B.hold p o) σ w ρ S)(I:B.Fr p=none)(t:Top cl w o d):Rel cl B (σ.set i (some (.ref p))) (w.claim p (.slot i)) (ρ.set i (some (true,d))) S:=by
 have F:=R.wd.fr p o (show(if p=p then some o else B.Fr p)=some o from if_pos rfl);have c:w.ow p=some .far:=F.2.trans (show(if p=p then some Root.far else B.fw p)=_ from if_pos rfl);have m:=ze7 (w:=w) (p:=p) (r:=.slot i) (by rw[c];exact yaF _)
 have kp:∀a u,w.H a=some u->w.ow a≠some .far->w.ow a≠some (.slot i)->(w.claim p (.slot i)).H a=some u/\(w.claim p (.slot i)).ow a=w.ow a:=fun a u C hk A=>by
  have n:a≠p:=fun z=>hk (by rw[z];exact c)
  refine⟨C,?_⟩;show(if a=p then _ else if w.ow a=some (Root.slot i)then some Root.far else w.ow a)=_;rw[if_neg n,if_neg A]
 refine⟨⟨fun a u h=>?_,fun a r h=>?_,R.wd.len,fun n ob h=>?_,R.wd.tab.keep m fun P ps h1 h2=>⟨(kp P _ h1 (by rw[h2];simp) (by rw[h2];simp)).1,(kp P _ h1 (by rw[h2];simp) (by rw[h2];simp)).2.trans h2⟩⟩,by rw[yaP,yaP];exact R.len,fun j b e l=>?_⟩
 ·have g:a≠p:=fun z=>by rw[z,I]at h;cases h
  have h2:=R.wd.fr a u (show(if a=p then some o else B.Fr a)=some u by rw[if_neg g];exact h);have J:w.ow a=B.fw a:=h2.2.trans (show(if a=p then some Root.far else B.fw a)=_ from if_neg g)
  have s:w.ow a≠some (.slot i):=fun z=>by
   rcases R.wd.own a _ z with y|y
   ·cases y
   ·have E:(if a=p then some o else B.Fr a)=none:=y;rw[if_neg g,h]at E;cases E
  refine⟨h2.1,?_⟩;show(if a=p then some (Root.slot i)else if w.ow a=some (Root.slot i)then some Root.far else w.ow a)=_;rw[if_neg g,if_neg s];exact J
 ·have h':(if a=p then some (Root.slot i)else if w.ow a=some (Root.slot i)then some Root.far else w.ow a)=some r:=h;split at h'
  ·rename_i e;rw[e];exact .inr I
  ·rename_i g;split at h'
   ·cases h';exact .inl rfl
   ·rcases R.wd.own a r h' with z|z
    ·exact .inl z
    ·have D:(if a=p then some o else B.Fr a)=none:=z;rw[if_neg g]at D;exact .inr D
 ·obtain⟨a,e,x⟩:=R.wd.obj n ob h;exact⟨a,e,x.keep m fun b u hb G=>kp b u hb (fun z=>by rwa[z]at G) (fun z=>by rwa[z]at G)⟩
 ·by_cases f:i=j
  ·subst f
   have k:i<ρ.length:=by
    have:=(yas.mp l).1;rwa[yaP]at this
   rw[yaG k]at l;cases l;exact⟨.ref p,by rw[yaG (by rw[R.len];exact k)],p,o,rfl,if_pos rfl,F.1,t.up m⟩
  ·rw[yaS f]at l ⊢;obtain⟨v,K,x⟩:=R.slots j b e l;refine⟨v,K,x.keep m fun a u C q=>?_⟩;have:=kp a u C (by rw[q];exact fun z=>by cases z) (by rw[q];exact fun z=>f (by cases z;rfl));exact⟨this.1,this.2.trans q⟩
end
noncomputable def tO(cl:Cf)(E:St->XK):Bool->Fe->TE|true,f=>tN cl E f|false,f=>tE cl E f
noncomputable def zoD(i j:Nat)(J:Bool)(f1:Fe)(I:Bool)(f2:Fe):Fs:=fun ρ S=>match f1 ρ S with
 |.ok b S1=>(match f2 ρ S1 with
  |.ok a S2=>.nx ((ρ.set i (some (J,b))).set j (some (I,a))) S2|.exc c S'=>.ex c ρ S'|.bad=>.bad)
 |.exc c S'=>.ex c ρ S'|.bad=>.bad
section
variable{X:Cx}{cl:Cf}{E:St->XK}{own:Bool}
def znt(q:tS cl E own (zoD i j J f1 I f2) U σ H):zw3 i j (zpz (tO cl E J f1) (zpz (tO cl E I f2) zuy)) U σ H:=by
 obtain⟨B,w,ρ,S,rfl,R,q⟩:=q;unfold zoD at q
 cases J with
 |false=>
  refine⟨B,w,ρ,S,rfl,R,?_⟩
  cases h1:f1 ρ S with
  |bad=>rwa[h1]at q|exc c S1=>rw[h1]at q;exact fun w' e g=>q σ w' e g|ok F S1=>
   rw[h1]at q;dsimp only at q;intro v m s h n
   cases I with
   |false=>
    refine⟨B,m,ρ,S1,rfl,s,?_⟩
    cases h2:f2 ρ S1 with
    |bad=>rwa[h2]at q|exc c S2=>rw[h2]at q;exact fun w' e g=>q σ w' e (h.trans g)|ok C S2=>
     rw[h2]at q;intro v2 a R2 f k;exact⟨v,v2,rfl,q _ a ((R2.put (n.up f)).put k) (h.trans f)⟩
   |true=>
    refine⟨B,m,ρ,S1,rfl,s,?_⟩
    cases h2:f2 ρ S1 with
    |bad=>rwa[h2]at q|exc c S2=>rw[h2]at q;exact fun w' e g=>q σ w' e (h.trans g)|ok C S2=>
     rw[h2]at q;intro p2 u2 a R2 f b y;exact⟨v,.ref p2,rfl,q _ (a.addAs p2 u2 (.slot j)) ((R2.put (n.up f)).own b y) (h.trans (f.trans (zbL b)))⟩
 |true=>
  refine⟨B,w,ρ,S,rfl,R,?_⟩
  cases h1:f1 ρ S with
  |bad=>rwa[h1]at q|exc c S1=>rw[h1]at q;exact fun w' e g=>q σ w' e g|ok F S1=>
   rw[h1]at q;dsimp only at q;intro p u m s h A t1;have D:=s.hold (o:=u) A;have fa:=zbL (w:=m) (p:=p) (o:=u) (r:=.far) A
   have t:B.Fr p=none:=by
    cases z:B.Fr p with
    |none=>rfl|some x=>have:=(s.wd.fr p x z).1;rw[A]at this;cases this
   cases I with
   |false=>
    refine⟨B.hold p u,m.addAs p u .far,ρ,S1,rfl,D,?_⟩
    cases h2:f2 ρ S1 with
    |bad=>rwa[h2]at q|exc c S2=>rw[h2]at q;exact fun w' e g=>q σ w' (e.unhold t) (h.trans (fa.trans g))|ok C S2=>
     rw[h2]at q;intro v2 a R2 f k;have l:=R2.wd.fr p u (show(if p=p then some u else B.Fr p)=some u from if_pos rfl)
     have d:a.ow p≠none:=by rw[l.2,show(B.hold p u).fw p=some Root.far from if_pos rfl];exact yaF _
     have fc:=ze7 (w:=a) (p:=p) (r:=.slot i) d;exact⟨.ref p,v2,rfl,q _ (a.claim p (.slot i)) ((R2.claim t (t1.up (fa.trans f))).put (k.up fc)) (h.trans (fa.trans (f.trans fc)))⟩
   |true=>
    refine⟨B.hold p u,m.addAs p u .far,ρ,S1,rfl,D,?_⟩
    cases h2:f2 ρ S1 with
    |bad=>rwa[h2]at q|exc c S2=>rw[h2]at q;exact fun w' e g=>q σ w' (e.unhold t) (h.trans (fa.trans g))|ok C S2=>
     rw[h2]at q;intro p2 u2 a R2 f b y;have l:=R2.wd.fr p u (show(if p=p then some u else B.Fr p)=some u from if_pos rfl)
     have d:a.ow p≠none:=by rw[l.2,show(B.hold p u).fw p=some Root.far from if_pos rfl];exact yaF _
     have fc:=ze7 (w:=a) (p:=p) (r:=.slot i) d;exact⟨.ref p,.ref p2,rfl,q _ ((a.claim p (.slot i)).addAs p2 u2 (.slot j)) ((R2.claim t (t1.up (fa.trans f))).own (w:=a.claim p (.slot i)) b (y.up fc)) (h.trans (fa.trans (f.trans (fc.trans (zbL (w:=a.claim p (.slot i)) b)))))⟩
end
noncomputable def zlZ:Expr->Bool|.ListComp _ _ _ _=>true|.SetComp _ _ _ _=>true|.DictComp _ _ _ _ _=>true|_=>false
def zdE(h:zlZ e=false):swapsWith e t l env=pure false:=by
 cases e<;>first|rfl|cases h
structure Gd(cl:Cf)(G:Genv)(k:Nat)(X:Cx)(nm:Names)(N:List Str)(E:St->XK):Prop where
 gx:Gx cl G k X nm N E
 kind:X.env.scope.kind=.function
 sc:X.env.scope.names=nm
 own:PassesOwn (model X.prog X.w) X.A X.env X.xe
 raises:zmD X E
def zcI:Nat->Names->List Str->Expr->List Nat
 |0,_,_,_=>[]|n+1,nm,N,e=>
  let rc:=zcI n nm N
  let op:=fun(e:Expr)=>match e with|.Name _ _=>[]|e=>rc e
  match e with
  |.Name x _=>(ziV nm N x).toList|.Tuple es _ _=>es.flatMap rc|.List es _=>es.flatMap rc|.BinOp a _ b _=>op a++op b|.UnaryOp _ a _=>rc a|.BoolOp _ es _=>es.flatMap rc|.Compare a _ bs _=>op a++bs.flatMap op|.IfExp c a b _=>rc c++rc a++rc b|.Subscript a (.Slice lo hi _ _) _=>op a++lo.toList.flatMap op++hi.toList.flatMap op|.Subscript a i _=>op a++op i|.Call (.Name f _) args [] _=>if(zug f).isSome||decide (f="isinstance")then args.flatMap op else args.flatMap rc
  |.Call (.Attribute o _ _) args [] _=>op o++args.flatMap rc|.Dict _ _ _=>[]|.Attribute o _ _=>op o|.ListComp _ [g] scope _=>rc g.iter++(zbB scope.names N).map (·.2)|.Lambda _ _ scope _=>(zbB scope.names N).map (·.2)|_=>[]
def zp3(t:Tg)(f:Fe):Fs:=fun ρ S=>match f ρ S with
 |.ok d S'=>(match t.put ρ d with|some a=>.nx a S'|none=>.bad)
 |.exc c S'=>.ex c ρ S'|.bad=>.bad
noncomputable def znu(nm:Names)(x y:Str)(px py:Pos)(a b:Expr):Bool:=
 decide (nm.lookup x=some .local)&&decide (nm.lookup y=some .local)&&decide (px.line=py.line)&&!decide (x=y)&&zbi a&&zbi b&&!([a,b].all (foldedForSure 8))&&!([a,b].all (constantsAlone 8))
def zqn(n:Nat)(own:Bool)(nm:Names)(N:List Str):Stmt->List Nat
 |.Assign [_] e _=>zcI n nm N e|.Expr (.Call (.Attribute _ _ _) args [] _) _=>args.flatMap (zcI n nm N)|.Expr e _=>zcI n nm N e|.Return (some (.Name x p)) _=>if own then[]else zcI n nm N (.Name x p)
 |.Return (some e) _=>zcI n nm N e|.If c _ _ _=>zcI n nm N c|.For _ it _ _ _=>zcI n nm N it|.While c _ _ _=>zcI n nm N c|_=>[]
structure Ds(G:Genv)(nm:Names)(N:List Str)(own:Bool)(st:Stmt)where
 f:Fs
 ok:∀{cl k X E},Gd cl G k X nm N E->PS X st (tS cl E own f)
structure Dss(G:Genv)(nm:Names)(N:List Str)(own:Bool)(b:List Stmt)where
 f:Fs
 ok:∀{cl k X E},Gd cl G k X nm N E->PSs X b (tS cl E own f)
noncomputable def ztJ:Expr->Bool|.Tuple _ _ _=>true|_=>false
section
variable{cl:Cf}{G:Genv}{k:Nat}{X:Cx}{nm:Names}{N:List Str}{E:St->XK}{own:Bool}
def zmy(q:tS cl E own (zp3 t f) I σ H):zrv (tE cl E f) (tG cl n t) I σ H:=by
 obtain⟨B,w,ρ,S,rfl,R,q⟩:=q;refine⟨B,w,ρ,S,rfl,R,?_⟩;unfold zp3 at q
 cases hf:f ρ S with
 |bad=>rwa[hf]at q|exc c S1=>rw[hf]at q;exact fun w' g h=>q σ w' g h|ok d S1=>
  rw[hf]at q;intro v w' g h h';dsimp only at q
  cases e:t.put ρ d with
  |none=>rw[e]at q;exact q.elim|some b=>rw[e]at q;exact⟨B,w',ρ,S1,d,b,rfl,g,h',e,fun a _ _ R2=>q a w' R2 h⟩
def zsN(hk:X.env.scope.kind=.function)(hs:X.env.scope.names=nm)(h:znu nm x y px py a b=true):
  swappedStores [.Tuple [.Name x px,.Name y py] kt pt] (.Tuple [a,b] k2 pt2) X.env=pure (some [x,y]):=by
 unfold znu at h;simp only[yaa,yaA,yaH,ycy]at h;obtain⟨⟨⟨⟨⟨⟨⟨h1,h2⟩,l⟩,k⟩,f⟩,d⟩,j⟩,i⟩:=h
 have hb:X.env.blockKind=.function:=by unfold Env.blockKind;rw[hk];rfl
 have k1:X.env.kindOf x=some .local:=by unfold Env.kindOf;rw[hs];exact h1
 have c:X.env.kindOf y=some .local:=by unfold Env.kindOf;rw[hs];exact h2
 have st:([a,b].any fun|.Starred ..=>true|_=>false)=false:=by
  rw[List.any_eq_false];intro e he
  have g:zbi e=true:=by
   rcases yaq.mp he with z|z
   ·rw[z];exact f
   ·rw[yaE.mp z];exact d
  cases e<;>first|(cases g;done)|(intro z;cases z)
 have m:[x,y].eraseDups.length=2:=by
  have:(y==x)=false:=by rw[ybi];exact fun z=>k z.symm
  simp[List.eraseDups_cons,this]
 unfold swappedStores;simp only[hb,st];simp[k1,c,l,j,i,m,show(Expr.Name x px).pos=px from rfl,show(Expr.Name y py).pos=py from rfl];intro z;exfalso
 rcases z with z|z
 ·cases a<;>first|(cases f;done)|cases z
 ·cases b<;>first|(cases d;done)|cases z
def zrS:swapsWithSole [.Subscript a i p] e l env=pure false:=by cases e<;>rfl
def zrW:swappedStores [.Subscript a i p] e env=pure none:=by cases e<;>rfl
def zrR:swapsWithSole [.Tuple es kk p] e l env=pure false:=by cases e<;>rfl
def zrV(h:ztJ e=false):swappedStores [.Tuple es kk p] e env=pure none:=by cases e<;>first|rfl|cases h
def zou:swapsWith e (some (.Attribute o f p)) l env=pure false:=by cases e<;>rfl
def zod(g:Gd cl G k X nm N E)(i:Ti G nm N N.length x)(c:Dc G nm N elt I scope):
  PS X (.Assign [.Name x px] (.ListComp elt [I] scope p) pos) (tS cl E own (zbO i.i true c.f)):=by
 obtain⟨a1,a2,h,d,a⟩:=i.ok g.gx;obtain⟨b,hb⟩:∃b,swapsWith (.ListComp elt [I] scope p) (some (.Name x px)) pos.line X.env=pure b:=⟨_,rfl⟩
 cases b with
 |false=>exact zhP a2 h d (c.n g.gx) hb a|true=>
  obtain⟨it,t,c',r,e,o,S,i1,i2,m,l,j⟩:=c.ok g.gx;rw[e];rw[o]at hb ⊢;refine PS.imp (znb g.gx.calm S a2 h d i1 m l j hb a (zf9 i2)) ?_;intro s σ H q;exact zpd (zul q)
end
section
variable{G:Genv}(rc:Rec G){nm:Names}{N:List Str}{own:Bool}
noncomputable def zzO(nm:Names)(N:List Str)(x:Str)(px pos:Pos):∀e,Option (Ds G nm N own (.Assign [.Name x px] e pos))
 |.ListComp elt [m] scope p=>(tgI G nm N N.length x).bind fun i=>(zt5 rc nm N elt m scope).map fun c=>⟨zbO i.i true c.f,fun g=>zod g i c⟩|e=>gd (!zlZ e) fun d=>(tgI G nm N N.length x).bind fun i=>(rc nm N e).map fun a=>⟨zbO i.i a.o a.f,fun g=>by
   obtain⟨a1,a2,k,j,h⟩:=i.ok g.gx;have b:=a.ok g.gx
   cases l:a.o with
   |false=>exact zoy a2 k j b.2.1 (zdE ((yaH _).mp d)) h|true=>exact zhP a2 k j (b.1 l) (zdE ((yaH _).mp d)) h⟩
def zum(nm:Names)(N:List Str)(es:List Expr)(kt:Nat)(pt pos:Pos)(e:Expr)(sw:∀{cl k X E},Gd cl G k X nm N E->swappedStores [.Tuple es kt pt] e X.env=pure none):Option (Ds G nm N own (.Assign [.Tuple es kt pt] e pos)):=(tgG G nm N N.length (.Tuple es kt pt)).bind fun t=>(rc nm N e).map fun a=>⟨zp3 t.t a.f,fun g=>PS.imp (zoJ (a.ok g.gx).2.1 (t.ok g.gx) zrR (sw g) rfl) fun _ _ _ q=>zmy q⟩
noncomputable def zrK{X:Cx}{cl:Cf}{E:St->XK}{e:Expr}{o:Bool}{f:Fe}(h:(o=true->PE X e (tN cl E f))/\PE X e (tE cl E f)):PE X e (tO cl E o f):=by
 cases o with
 |false=>exact h.2|true=>exact h.1 rfl
def zyR(nm:Names)(N:List Str)(kt k2:Nat)(pt p2 pos:Pos):∀es vs,Option (Ds G nm N own (.Assign [.Tuple es kt pt] (.Tuple vs k2 p2) pos))
 |[.Name x px,.Name y py],[a,b]=>gd (znu nm x y px py a b) fun d=>(tgI G nm N N.length x).bind fun i=>(tgI G nm N N.length y).bind fun j=>gd (!decide (i.i=j.i)) fun c=>(rc nm N a).bind fun fa=>(rc nm N b).map fun fb=>⟨zoD i.i j.i fa.o fa.f fb.o fb.f,fun g=>by
   have c:=of_decide_eq_false ((yaH _).mp c);obtain⟨_,a2,k,_,_⟩:=i.ok g.gx;obtain⟨_,_,h,_,_⟩:=j.ok g.gx;have P:=fa.ok g.gx;have Q:=fb.ok g.gx
   have e:nm.lookup x=some .local/\nm.lookup y=some .local:=by
    unfold znu at d;simp only[yaa,yaA]at d;exact⟨d.1.1.1.1.1.1.1,d.1.1.1.1.1.1.2⟩
   rw[<-g.sc]at e
   exact PS.imp (zsz g.gx.calm a2 k h c e.1 e.2 (za2 (zrK ⟨P.1,P.2.1⟩) (za2 (zrK ⟨Q.1,Q.2.1⟩) zbU (za4 (zav fb.q))) (za4 (zav fa.q))) (zsN g.kind g.sc d) rfl) fun _ _ _ q=>znt q⟩
 |_,_=>none
def zzN(nm:Names)(N:List Str)(es:List Expr)(kt:Nat)(pt pos:Pos):∀e,Option (Ds G nm N own (.Assign [.Tuple es kt pt] e pos))
 |.Tuple vs k2 p2=>if h:zwn nm es=true then zum rc nm N es kt pt pos _ fun g=>zrk g.sc h else zyR rc nm N kt k2 pt p2 pos es vs
 |e=>gd (!ztJ e) fun h=>zum rc nm N es kt pt pos e fun _=>zrV ((yaH _).mp h)
def zzQ(nm:Names)(N:List Str)(x f:Str)(p ap pos:Pos):∀e,Option (Ds G nm N own (.Assign [.Attribute (.Name x p) f ap] e pos))
 |.List [] _=>gd (G.ob.fk G.ob.cur f&&ztl f) fun hf=>(slO G nm N x).map fun s=>⟨zfn G.ob.cur f s.i,fun g=>by
   obtain⟨s1,s2,c,b⟩:=s.ok g.gx
   exact zpJ s1 s2 c b g.gx.same (g.gx.gok.fk _ _ ((yaa _ _).mp hf).1) rfl⟩
 |.Dict [] [] _=>gd (G.ob.fk G.ob.cur f&&zo8 f) fun hf=>(slO G nm N x).map fun s=>⟨zk0 G.ob.cur f s.i,fun g=>by
   obtain⟨s1,s2,c,b⟩:=s.ok g.gx
   exact zpK s1 s2 c b g.gx.same (g.gx.gok.fk _ _ ((yaa _ _).mp hf).1) rfl⟩
 |e=>gd (G.ob.fk G.ob.cur f) fun hf=>if zo8 f then(slO G nm N x).bind fun s=>(rc nm N e).bind fun a=>gd a.o fun d=>some ⟨zgP G.ob.cur f s.i a.f,fun g=>by
   obtain⟨s1,s2,c,b⟩:=s.ok g.gx
   exact zpH s1 s2 c b g.gx.kk (g.gx.gok.fk _ _ hf) ((a.ok g.gx).1 d) zou⟩
  else(rc nm N (.Name x p)).bind fun fo=>(rc nm N e).map fun a=>⟨zkZ G.ob.cur f fo.f a.f,fun g=>zpI g.gx.same (g.gx.gok.fk _ _ hf) (fo.ok g.gx).2.1 (a.ok g.gx).2.1 zou⟩
structure Ix(ix:Expr):Type where
 ok:∀(env:PySem.Env) (x:Str) (p p3:Pos) (v:Value),assign (.Subscript (.Name x p) ix p3) env v=(do
   let ov ← holding [v] (eval (.Name x p) env)
   let iv ← holding [v,ov] (eval ix env)
   standAt p3
   holding [v,ov,iv] (setItem ov iv v)
   release [v,ov,iv] [])
noncomputable def ixA:∀I,Option (Ix I)|.Name _ _=>some ⟨fun _ _ _ _ _=>rfl⟩|.Subscript _ _ _=>some ⟨fun _ _ _ _ _=>rfl⟩|.Call _ _ _ _=>some ⟨fun _ _ _ _ _=>rfl⟩|_=>none
noncomputable def zyP(nm:Names)(N:List Str)(I e:Expr)(p3 pos:Pos):∀b,Option (Ds G nm N own (.Assign [.Subscript b I p3] e pos))
 |.Name x _=>(ixA I).bind fun h=>(slO G nm N x).bind fun s=>(rc nm N I).bind fun k=>(rc nm N e).map fun a=>⟨zes s.i k.f a.f,fun g=>by
   obtain⟨s1,s2,d,c⟩:=s.ok g.gx
   exact zpE (g.gx.un (by decide)) s1 s2 d c (k.ok g.gx).2.1 (a.ok g.gx).2.1 zrS zrW (h.ok _ _ _ _)⟩
 |_=>none
noncomputable def zdh(nm:Names)(N:List Str)(b:Expr)(p3 pos:Pos):∀I e,Option (Ds G nm N own (.Assign [.Subscript b I p3] e pos))
 |.Name y _,.Name z _=>(faG G nm N b).bind fun t=>gd (zo8 t.f) fun _=>(slO G nm N y).bind fun s=>(slO G nm N z).map fun l=>⟨zjN G.ob.cur t.f t.i (zbI s.i) (zbI l.i),fun g=>by
   obtain⟨i,f,ok⟩:=t;obtain⟨x,p,d,rfl,s1,s2,c,a,fk⟩:=ok g.gx
   exact zpF s1 s2 c a g.gx.same fk rfl (g.gx.un (by decide)) (s.v g.gx).2.2 (l.v g.gx).2.2 rfl⟩
 |_,_=>none
def zzP(nm:Names)(N:List Str)(e:Expr)(pos:Pos):∀tg,Option (Ds G nm N own (.Assign [tg] e pos))
 |.Name x px=>zzO rc nm N x px pos e|.Tuple es kt pt=>zzN rc nm N es kt pt pos e|.Attribute (.Name x p) f ap=>zzQ rc nm N x f p ap pos e|.Subscript b i p3=>(zdh nm N b p3 pos i e).or (zyP rc nm N i e p3 pos b)|_=>none
def zxU(nm:Names)(N:List Str)(pos:Pos)(e:Expr):Option (Ds G nm N own (.Expr e pos)):=gd (!zlZ e) fun b=>(rc nm N e).map fun a=>⟨zk2 a.f,fun g=>zr0 (a.ok g.gx).2.1 (zdE ((yaH _).mp b))⟩
noncomputable def zzR(nm:Names)(N:List Str)(m:Str)(ap cp pos:Pos)(a:Expr):∀o,Option (Ds G nm N own (.Expr (.Call (.Attribute o m ap) [a] [] cp) pos))
 |.Name x _=>gd (decide (m="append")&&(ap.endLine==cp.line)) fun b=>(slO G nm N x).bind fun s=>(rc nm N a).map fun fa=>⟨zkm s.i fa.f,fun g=>by
   rw[yaa]at b;obtain rfl:=yah b.1;obtain⟨s1,s2,d,c⟩:=s.ok g.gx
   exact zr1 s1 s2 d c (fa.ok g.gx).2.1 (zav fa.q) b.2⟩
 |_=>none
noncomputable def zzJ(nm:Names)(N:List Str)(m:Str)(ap cp pos:Pos)(a:Expr):∀o,Option (Ds G nm N own (.Expr (.Call (.Attribute o m ap) [a] [] cp) pos))
 |.Name x _=>gd (decide (m="extend")&&(ap.endLine==cp.line)) fun b=>(slO G nm N x).bind fun s=>(opE rc nm N a).map fun fa=>⟨zk1 s.i fa.f,fun g=>by
   rw[yaa]at b;obtain rfl:=yah b.1;obtain⟨s1,s2,d,c⟩:=s.ok g.gx
   exact zrZ s1 s2 d c (fa.ok g.gx) (zav fa.q) b.2⟩
 |_=>none
def zzS(nm:Names)(N:List Str)(m:Str)(ap cp pos:Pos)(o:Expr):∀a,Option (Ds G nm N own (.Expr (.Call (.Attribute o m ap) [a] [] cp) pos))
 |.Tuple es kk p2=>gd (decide (m="append")&&(ap.endLine==cp.line)) fun b=>(faG G nm N o).bind fun t=>gd (ztl t.f) fun _=>(quL G nm N es).map fun gs=>⟨zjP G.ob.cur t.f t.i gs.gs,fun g=>by
   rw[yaa]at b;obtain rfl:=yah b.1;obtain⟨i,f,ok⟩:=t;obtain⟨x,p,e,rfl,s1,s2,d,c,fk⟩:=ok g.gx
   exact zpL s1 s2 d c g.gx.same fk rfl (gs.ok g.gx) rfl b.2⟩
 |a=>gd (decide (m="append")&&(ap.endLine==cp.line)) fun b=>(faG G nm N o).bind fun t=>gd (ztl t.f) fun _=>(quG G nm N a).map fun q=>⟨zp4 G.ob.cur t.f t.i q.q,fun g=>by
   rw[yaa]at b;obtain rfl:=yah b.1;obtain⟨i,f,ok⟩:=t;obtain⟨x,p,e,rfl,s1,s2,d,c,fk⟩:=ok g.gx
   exact zpM s1 s2 d c g.gx.same fk rfl (q.ok g.gx) rfl q.pl b.2⟩
def zv6(nm:Names)(N:List Str)(pos:Pos):∀e,Option (Ds G nm N own (.Expr e pos))
 |.Call (.Attribute o m ap) [.Name y py,.Constant .none j p2] [] cp=>gd (decide (m="pop")&&(ap.endLine==cp.line)) fun b=>(faG G nm N o).bind fun t=>gd (zo8 t.f) fun _=>(slO G nm N y).map fun s=>⟨zjO G.ob.cur t.f t.i (zbI s.i),fun g=>by
   rw[yaa]at b;obtain rfl:=yah b.1;obtain⟨i,f,ok⟩:=t;obtain⟨x,p,h,rfl,s1,s2,d,c,fk⟩:=ok g.gx
   exact zpG s1 s2 d c g.gx.same fk rfl (s.v g.gx).2.2 ⟨rfl,rfl,b.2,rfl⟩⟩
 |.Call (.Attribute o m ap) [a] [] cp=>(zzS nm N m ap cp pos o a).or ((zzR rc nm N m ap cp pos a o).or ((zzJ rc nm N m ap cp pos a o).or (zxU rc nm N pos _)))|e=>zxU rc nm N pos e
def zyF(nm:Names)(N:List Str)(e:Expr)(pos:Pos):∀own,Option (Ds G nm N own (.Return (some e) pos))
 |true=>(match e with
  |.Name x _=>(slO G nm N x).map fun s=>⟨zjM s.i,fun g=>by
    obtain⟨s1,s2,c,b⟩:=s.ok g.gx
    exact zpC s1 s2 c b⟩
  |e=>(rc nm N e).bind fun a=>gd a.o fun d=>some ⟨zbd a.f,fun g=>zpD ((a.ok g.gx).1 d)⟩)
 |false=>(rc nm N e).map fun a=>⟨zbd a.f,fun g=>zkL (a.ok g.gx).2.1⟩
def zvp{cl k X E}{c:Str}{args:List Expr}{p cp pos:Pos}(g:Gd cl G k X nm N E)(h:zbA nm c=true)(J:G.exc c=true)(I:args.isEmpty=false)(a:DL G nm N args):PS X (.Raise (some (.Call (.Name c p) args [] cp)) none pos) (tS cl E own (sRz c a.fs)):=by
 cases args with
 |nil=>cases I|cons e es=>
 obtain⟨m,z⟩:=g.gx.gok.exc c J;have a2:=a.q;rw[ya8,yaa]at a2;refine PS.imp (zli g.raises g.gx.calm (g.gx.glob h).1 m z (a.ok g.gx) (za4 a2.1) (zbK a2.2) (g.gx.glob h).2.1) ?_;rintro i σ H ⟨B,w,ρ,S,rfl,R,q⟩;refine⟨B,w,ρ,S,rfl,R,?_⟩;unfold sRz at q
 cases hv:zap a.fs ρ S with
 |bad=>rwa[hv]at q|exc c S1=>rw[hv]at q;exact fun w' d f=>q σ w' d f|ok ds S1=>
  rw[hv]at q;dsimp only at q
  cases b:zau ds.length with
  |false=>rw[b,if_neg (by decide)]at q;exact q.elim
  |true=>
   rw[b,if_pos rfl]at q;exact fun vs w' d f sh=>⟨by rw[sh.length];exact zaI b,q σ w' d f⟩
def stG(rs:∀b,Option (Dss G nm N own b)):∀st,Option (Ds G nm N own st)
 |.Assign [tg] e p=>zzP rc nm N e p tg|.Expr e p=>zv6 rc nm N p e|.Return (some e) p=>zyF rc nm N e p own|.If c a b _=>gd (zcD c) fun h=>(rc nm N c).bind fun fc=>(rs a).bind fun fa=>(rs b).map fun fb=>⟨sIf fc.f fa.f fb.f,fun g=>zrX ((fc.ok g.gx).2.2 h) (fa.ok g) (fb.ok g)⟩|.For tg it body [] _=>(ztI rc nm N tg it).bind fun i=>(tgG G nm N N.length tg).bind fun t=>(rs body).map fun b=>⟨zkl t.t i.f b.f,fun g=>zrY g.own g.gx.calm (i.ok g.gx) (t.ok g.gx) (b.ok g) (zf9 i.q)⟩|.Raise (some (.Call (.Name c _) args [] _)) none _=>gd (zbA nm c&&G.exc c&&!args.isEmpty) fun d=>(shL rc nm N args).map fun a=>⟨sRz c a.fs,fun g=>by
   simp only[yaa,yaH]at d
   exact zvp g d.1.1 d.1.2 d.2 a⟩
 |_=>none
end
def blk{G:Genv}{nm:Names}{N:List Str}{own:Bool}(ds:∀st,Option (Ds G nm N own st)):∀b,Option (Dss G nm N own b)
 |[]=>some ⟨sNx,fun _=>ziT⟩|s::r=>(ds s).bind fun f=>(blk ds r).map fun h=>⟨zag f.f h.f,fun g=>zd0 (f.ok g) (h.ok g)⟩
def zt0(G:Genv)(nm:Names)(N:List Str)(own:Bool):Nat->∀st,Option (Ds G nm N own st)
 |0=>fun _=>none|n+1=>fun st=>(stG (zwe G n) (blk (zt0 G nm N own n)) st).map fun a=>⟨sFz (zqn n own nm N st) a.f,fun g=>zvf _ (a.ok g)⟩
noncomputable def zbh(I:Nat)(own:Bool)(fs:Fs)(ds:List D)(S:Sto):Out D:=match fs (ds.map (fun d=>some (false,d))++List.replicate (I-ds.length) none) S with
 |.rt d S'=>.ok d S'|.nx _ S'=>if own then .bad else .ok .non S'
 |.ex c _ S'=>.exc c S'|_=>.bad
def zfJ(G:Genv)(own:Bool)(N:List Str)(st:Stmt):Option Fs:=(blk (zt0 G (zah st).names N own 40) (zaQ st)).map Dss.f
def zo9{cl k X E}{G:Genv}{own:Bool}{N:List Str}{st:Stmt}{f:Fs}(h:zfJ G own N st=some f)(g:Gd cl G k X (zah st).names N E):PSs X (zaQ st) (tS cl E own f):=by
 obtain⟨a,_,rfl⟩:=ya5.mp h;exact a.ok g
section
variable{cl:Cf}
theorem zir{fs:Fs}{own:Bool}{n:Nat}{N:List Str}{vs:List V}{H:Hp}{Q:VK}{X:XK}(I:zgA cl n own (zbh N.length own fs) vs H Q X):tS cl (fun _=>X) own fs {nx:=fun _ H'=>Q .non H',rt:=Q} (L2.zdn N vs) H:=by
 obtain⟨m,B,w,ds,k,rfl,W,sh,q⟩:=I;have g:ds.length=vs.length:=sh.length.symm;refine⟨B,w,ds.map (fun d=>some (false,d))++List.replicate (N.length-ds.length) none,k,rfl,⟨W,?_,fun i o d hi=>?_⟩,?_⟩
 ·unfold L2.zdn;rw[yae,yae,yab,yab,yaU,yaU,g]
 ·by_cases f:i<ds.length
  ·rw[yaI (by rw[yab];exact f),yaM]at hi
   cases a:ds[i]? with
   |none=>rw[a]at hi;cases hi|some d'=>
    rw[a]at hi;cases hi;obtain⟨v,l,e2⟩:=sh.at a;refine⟨v,?_,e2⟩;unfold L2.zdn;rw[yaI (by rw[yab];omega),yaM,l];rfl
  ·rw[yax (by rw[yab];omega),ybR]at hi
   split at hi<;>cases hi
 ·unfold zbh at q
  cases hf:fs (ds.map (fun d=>some (false,d))++List.replicate (N.length-ds.length) none) k with
  |bad=>rwa[hf]at q|bk _ _=>rw[hf]at q;exact q.elim|ct _ _=>rw[hf]at q;exact q.elim|rt d S'=>rwa[hf]at q|ex c e S'=>rw[hf]at q;exact fun b w' h j=>q w' h.wd j|nx e S'=>
   rw[hf]at q;dsimp only at q
   cases own with
   |true=>exact q.elim|false=>exact fun b w' h j=>q .non w' h.wd j .non
end
theorem zq7{P:Program}{wo:PySem.World}{K:PySem.W.Frag}{mg:Z6}{base:Heap}{cl:Cf}{G:Genv}{k:Nat}{x qual:Str}{st:Stmt}{f:Addr}{fd:FuncData}{N ps:List Str}{own:Bool}{fs:Fs}(F:Fun K x qual st f fd)(S:FnScope N ps (zah st))(hG:GOk cl G P wo K mg base k)
  (hk:K=cl.K) (hP:P=cl.P) (U:wo=cl.wo) (hd:zfJ G own N st=some fs) (J:autoParam (G.cod=none) yAW):FnOk P wo K mg base (CXE P wo) (k+1) f fd ps (zgA cl ps.length own (zbh N.length own fs)):=by
 obtain⟨oc,l,kV,doc,pm,an,j,ct,b,rfl,d,hcd⟩:=F.ex;refine ztN d hcd S (fun vs H Q E h=>h.1) fun A outer s H vs Q E i a=>⟨tS cl (fun _=>E) own fs,zo9 hd (k:=k) ⟨⟨hG,i,rfl,fun pins σ H1 s1 e s' I q=>zsM pins σ H1 s1 e s' I q,rfl,hk,hP,U,S.nd,fun x g h=>⟨g,h,.inl rfl⟩,(fun x h=>h),(fun c h=>by rw[J]at h;cases h),(fun x h=>rfl)⟩,S.kind,rfl,PassesOwn.leaving,fun C pins σ H1 s1 e h' vs I mk q=>zlg C pins σ H1 s1 e h' vs I mk q⟩,zir a⟩
noncomputable def inC(j:Nat):Stmt->Stmt|.ClassDef _ _ _ b ..=>b.getD j (.Pass ⟨0,0,0,0⟩)|s=>s
end S2
namespace L2
open PySem PySem.Spec PyProof.Rows
noncomputable def zoo(tabs:List (Addr×Addr))(H:Hp):Prop:=∀b,H b=none\/(∃o xs,H b=some (.frz o (.lst xs)))\/(H b=some (.tbl #[])/\b∈tabs.map (·.2))
def zlH{P:Program}{w:World}{K:PySem.W.Frag}{mg mb:Z6}{CX:CXT}{k:Nat}{fa a:Addr}{fd:FuncData}{x:Str}{sp:Sp}{I:Shared}{vs:List Value}{ns:List Int}{tabs:List (Addr×Addr)}
  (KX:K.In I.heap) (U:I.heap.Ns mainGlobals mg) (hb:I.heap.Ns builtinsNs mb) (a7:∀x:Str,x ≠ "__name__" -> mb x=bootBuiltins x) (a3:I.heap.NoLimit) (hg:I.gens=#[])
  (ha:I.heap.get? a=some {cls:=.type "list",data:=.seq vs.toArray}) (hi:IntsAre vs ns) (hl:ns.length<=sizeLine) (hr:Room k callerA)
  (hT:PySem.W.TabsAt tabs I.heap) (a5:PySem.W.noTabs K=true) (a6:zoq mg I.heap)
  (F:∀base:Heap,K.In base->base.Ns mainGlobals mg->zoq mg base->(∀q∈tabs,PySem.W.CodeHd base q.1 q.2)->FnOk P w K mg base CX k fa fd [x] sp) (J:∀(s:Shared) (u:Value),BindsTo s fd ⟨[u],[]⟩ [(x,u)])
  (a4:∀H:Hp,zoo tabs H->(∀q∈tabs,H q.2=some (.tbl #[]))->(∀q∈tabs,q.2≠a)->SqL K H a (ns.map V.int)->sp [.ref a] H (fun v _=>v=.bl true) fun _ _ _=>False)
  (a8:∀H e s',CX [] H I (fun _ _ _=>False) e s'->False):
  codeAny (model P w) callerA (.call (.ref fa) ⟨[.ref a],[]⟩) (fun r s'=>r=.ok (.ret (.bool true))/\OldK I.heap s'.heap/\s'.os=I.os/\AllBare s'.gens) I:=by
 have Z:=zgD hi;have E:=hi.length
 have B:∀b∈tabs.map (·.2),I.heap.get? b=some (PySem.W.tabObj #[]):=fun b hb=>by
  obtain⟨q,i,rfl⟩:=yaf.mp hb;exact(hT q i).2
 have D:a ∉ tabs.map (·.2):=fun z=>by have e:=B a z;rw[ha]at e;cases e
 have tK:∀b∈tabs.map (·.2),K.lookup b=none:=fun b hb=>by
  cases e:K.lookup b with
  |none=>rfl|some o=>
   have l:=KX b o e;rw[B b hb]at l;cases l;have h2:=yaK.mp a5 _ (PySem.W.mem_of_lookupK e);exact absurd (show false=true from h2) yaZ
 have core:∀H:Hp,zoo tabs H->(∀q∈tabs,H q.2=some (.tbl #[]))->SqL K H a (ns.map V.int)->HOk P w H I.heap->(∀b,H b≠none->b=a\/b∈tabs.map (·.2))->(H a≠none->K.lookup a=none) →
   codeAny (model P w) callerA (.call (.ref fa) ⟨[.ref a],[]⟩) (fun r s'=>r=.ok (.ret (.bool true))/\OldK I.heap s'.heap/\s'.os=I.os/\AllBare s'.gens) I:=by
  intro H hO T hS hok M hK;have zcO:∀{b:Addr}{o:Obj},I.heap.get? b=some o->H b=none->(zl8 I.heap H).get? b=some o:=fun e n=>znU e n
  have t:∀{b:Addr}{o:Obj},I.heap.get? b=some o->(∀aa n,o.data≠.seq aa n)->o≠PySem.W.tabObj #[]->H b=none:=fun {b o} e d d2=>by
   cases q:H b with
   |none=>rfl|some u=>
    rcases M b (by rw[q];simp)with y|y
    ·subst y;rw[ha]at e;cases e;exact absurd rfl (d _ _)
    ·rw[B b y]at e;cases e;exact absurd rfl d2
  have S:∀{b:Addr}{o:Obj}{es:Array DictEntry}{N:Nat},I.heap.get? b=some o->o.data=.dict es N->H b=none:=fun {b o es N} e d=>t e (fun _ _ z=>by rw[d]at z;cases z) (fun z=>by rw[z]at d;cases d)
  have g:∀{b:Addr}{m:Z6},I.heap.Ns b m->(zl8 I.heap H).Ns b m:=fun {b m} ⟨o,es,N,e,d,r⟩=>⟨o,es,N,zcO e (S e d),d,r⟩
  have L:K.In (zl8 I.heap H):=fun b o e=>zcO (KX b o e) (by
   cases q:H b with
   |none=>rfl|some u=>
    rcases M b (by rw[q];simp)with y|y
    ·subst y;rw[hK (by rw[q];simp)]at e;cases e
    ·rw[tK b y]at e;cases e)
  have Y:zoq mg (zl8 I.heap H):=by
   obtain⟨bm,ob,b1,b2,b3,b4,b5,O⟩:=a6;exact⟨bm,ob,b1,b2,zcO b3 (t b3 (fun _ _ z=>by rw[O]at z;cases z) (fun z=>by rw[z]at O;cases O)),b4,b5,O⟩
  have X:∀q∈tabs,PySem.W.CodeHd (zl8 I.heap H) q.1 q.2:=fun q i=>by
   obtain⟨o,us,file,tf,flags,tg,inF,text,tt,e,R,r2,r⟩:=(hT q i).1;exact⟨o,us,file,tf,flags,tg,inF,text,tt,zcO e (t e (fun _ _ z=>by rw[r2]at z;cases z) (fun z=>by rw[z]at R;cases R)),R,r2,r⟩
  have hM:Mod K mg (zl8 I.heap H):=⟨L,g U,⟨mb,g hb,a7⟩,let ⟨mc,h1,h2⟩:=a3;⟨mc,g h1,h2⟩⟩;have e0:Env0 P w K mg (zl8 I.heap H) callerA [] I H:=⟨rfl,hM,fun b o e=>zqz e,Nat.le_of_eq (zl7 _ _),trivial,fun b hb=>absurd (show b∈([]:List Addr)from hb) (by simp),hok,.of_eq hg⟩;refine ybQ ((F _ L (g U) Y X).run callerA [] I H ⟨[.ref a],[]⟩ [.ref a] [.ref a] _ _ hr e0 (J I (.ref a)) (.cons rfl .nil) (a4 H hO T (fun q i z=>D (z ▸ yaX i)) hS)) fun r s' h=>?_
  cases r with
  |error e=>exact(a8 H e s' h).elim|ok fl=>
   cases fl with
   |next=>exact False.elim h|brk=>exact False.elim h|cont=>exact False.elim h|ret u=>
    obtain⟨v,H',os,bare,un,j,r',q⟩:=h;have C:v=.bl true:=q;subst C;obtain rfl:u=Value.bool true:=r';refine⟨rfl,⟨fun b o e=>?_,fun b o e=>un.there b o e (by simp)⟩,os,bare⟩
    cases q:H b with
    |none=>exact .inl (un.keep b o e q (by intro z;exact absurd (show b∈([]:List Addr)from z) (by simp)) (by simp))
    |some u=>
     rcases hO b with z|⟨ob,xs,z⟩|⟨z,hb⟩
     ·rw[q]at z;cases z
     ·have Q:=un.frzs b ob _ z;obtain⟨l,_⟩:=hok b _ z;obtain⟨e2,_⟩:=j b _ Q;rw[e]at l;cases l;exact .inl e2
     ·obtain⟨more,Q⟩:=un.tbls b _ z;have e2:s'.heap.get? b=some (PySem.W.tabObj (#[]++more)):=j b _ Q;have l:=B b hb;rw[e]at l;cases l;obtain⟨p,hp,rfl⟩:=yaf.mp hb;exact .inr (.inl ⟨((hT p hp).1.tab (hT p hp).2).isCodeTable,rfl,#[],more,rfl,e2⟩)
 have G:∀(H0:Hp),HOk P w H0 I.heap->(∀b,H0 b≠none->b=a)->HOk P w (fun b=>if b∈tabs.map (·.2)then some (.tbl #[])else H0 b) I.heap:=fun H0 h0 M b u q=>by
  have C:(if b∈tabs.map (·.2)then some (HO.tbl #[])else H0 b)=some u:=q;split at C
  ·rename_i hb;cases C;exact B b hb
  ·refine(h0 b u C).stay (fun c v _ r=>r) (fun c r=>?_) fun c xs r=>?_
   ·show(if c∈tabs.map (·.2)then _ else H0 c)=_;rw[if_neg (fun z=>D (M c (by rw[r];simp) ▸ z))];exact r
   ·show(if c∈tabs.map (·.2)then _ else H0 c)=_;rw[if_neg (fun z=>D (M c (by rw[r];simp) ▸ z))];exact r
 cases hk:K.lookup a with
 |some o=>
  have e:=KX a o hk;rw[ha]at e;cases e;refine core (fun b=>if b∈tabs.map (·.2)then some (.tbl #[])else none) (fun b=>?_) (fun q i=>if_pos (yaX i)) (.inr ⟨_,vs.toArray,_,hk,rfl,rfl,rfl,by rw[yam,E];exact hl,by simpa using Z⟩) (G (fun _=>none) (fun b u z=>by have A:(none:Option HO)=some u:=z;cases A) fun b z=>absurd rfl z) (fun b z=>?_) fun z=>absurd (if_neg D) z
  ·by_cases hb:b∈tabs.map (·.2)
   ·exact .inr (.inr ⟨if_pos hb,hb⟩)
   ·exact .inl (if_neg hb)
  ·by_cases hb:b∈tabs.map (·.2)
   ·exact .inr hb
   ·exact absurd (if_neg hb) z
 |none=>
  have h0:HOk P w (fun b=>if b=a then some (.frz {cls:=.type "list",data:=.seq vs.toArray} (.lst (ns.map V.int)))else none) I.heap:=fun b u z=>by
   by_cases hb:b=a
   ·have A:=(if_pos hb).symm.trans z;cases A;subst hb;exact⟨ha,by rw[yab];exact hl,vs,_,Z,ha⟩
   ·have A:=(if_neg hb).symm.trans z;cases A
  refine core (fun b=>if b∈tabs.map (·.2)then some (.tbl #[])else if b=a then some (.frz {cls:=.type "list",data:=.seq vs.toArray} (.lst (ns.map V.int)))else none) (fun b=>?_) (fun q i=>if_pos (yaX i)) (.inl (.inr ⟨{cls:=.type "list",data:=.seq vs.toArray},(if_neg D).trans (if_pos rfl)⟩)) (G _ h0 fun b z=>?_) (fun b z=>?_) fun _=>hk
  ·by_cases hb:b∈tabs.map (·.2)
   ·exact .inr (.inr ⟨if_pos hb,hb⟩)
   ·by_cases f:b=a
    ·exact .inr (.inl ⟨_,_,(if_neg hb).trans (if_pos f)⟩)
    ·exact .inl ((if_neg hb).trans (if_neg f))
  ·by_cases hb:b=a
   ·exact hb
   ·exact absurd (if_neg hb) z
  ·by_cases hb:b∈tabs.map (·.2)
   ·exact .inr hb
   ·by_cases f:b=a
    ·exact .inl f
    ·exact absurd ((if_neg hb).trans (if_neg f)) z
def zmI{l:PySem.W.OpenLaw}{n k:Nat}{q:Program}{loose:List Str}{XP:(Str->Option Value)->Heap->Prop}{YP:World->Heap->Prop}{d:DefRec}{K:Params->PySem.W.Frag}{CX:World->CXT}{sp:World->Sp}{x:Str}{tabs:List (Addr×Addr)}
  (hn:l.most=some n) (a4:n<=sizeLine) (a5:d.params.defaults=[]) (hr:Room k callerA)
  (hY:∀(w:World) (h:Heap),YP w h->(K w.params).In h) (a3:∀w:World,PySem.W.noTabs (K w.params)=true)
  (hT:∀(w:World) (mg J:Z6) (I:ExcName->Option Value) (h:Heap),(K w.params).In h->Top q (PySem.W.looseW q loose) I mg J h->PySem.W.TabsAt tabs h)
  (F:∀(w:World) (mg:Z6) (fa:Addr) (h:Heap),(K w.params).In h->h.Ns mainGlobals mg->mg d.name=some (.ref fa) →
   ∃fd:FuncData,(∀(s:Shared) (u:Value),BindsTo s fd ⟨[u],[]⟩ [(x,u)]) ∧
    ∀base:Heap,(K w.params).In base->base.Ns mainGlobals mg->zoq mg base->(∀q∈tabs,PySem.W.CodeHd base q.1 q.2)->FnOk l.prog w (K w.params) mg base (CX w) k fa fd [x] (sp w))
  (U:∀(w:World) (H:Hp) (a:Addr) (ns:List Int),ns.length<=n->zoo tabs H->(∀q∈tabs,H q.2=some (.tbl #[]))->(∀q∈tabs,q.2≠a)->SqL (K w.params) H a (ns.map V.int)->sp w [.ref a] H (fun v _=>v=.bl true) fun _ _ _=>False)
  (a6:∀(w:World) (H:Hp) (s:Shared) (e:Value) (s':Shared),CX w [] H s (fun _ _ _=>False) e s'->False):
  PySem.W.WalkO q loose XP YP l.row.toRowW d [] (fun f vs=>PySem.call f vs):=by
 refine Att.zis hn a5 fun w s₀ c mg J fa o pm cd doc a vs ns G Y B hd hcd m i hints hlen t=>?_
 have r:=hY w _ Y;obtain⟨fd,hb,A⟩:=F w mg fa _ r G.T.g m;exact zlH r G.T.g G.T.b G.T.builtins G.T.nolimit t i hints (yav hlen a4) hr (hT w mg J _ _ r G.T) (a3 w) G.T.bmain A hb (fun H z p j y=>U w H a ns hlen z p j y) fun H e s'=>a6 w H c e s'
end L2
namespace S2
open PySem PySem.Spec PyProof.Rows L2
structure Tab where
 con:List (Str×D)
 blt:List Str
 exc:List Str
 und:List (Str×Str)
 rz:List Str
 fk:List (Str×Str)
 df:List Str
 ds:List Str
noncomputable def zuH(rz exc:List Str)(c C:Str):Option Bool:=if rz.contains c then(if C="ValueError"then some true else if exc.contains C then some (decide (C=c)||decide (C="FloorError"))else none)else none
noncomputable def ziF(l:List (Str×Str))(c C:Str):Bool:=l.contains (c,C)
structure Fn3 where
 cur:Str
 fs:List (Str×FnI)
 ms:List (Str×Str×FnI)
 ks:List (Str×List D×FnI)
def Gn(T:Tab)(F:Fn3):Genv:=⟨fun x=>T.con.lookup x,fun x=>F.fs.lookup x,fun x=>T.blt.contains x,fun x=>T.exc.contains x,ziF T.und,zuH T.rz T.exc,⟨F.cur,ziF T.fk,fun f=>T.df.contains f,fun m=>F.ms.lookup m,fun c=>F.ks.lookup c⟩,fun x=>T.ds.contains x,fun _=>none,none⟩
noncomputable def Fn3.fn(F:Fn3)(x:Str)(fi:FnI):Fn3:=⟨F.cur,(x,fi)::F.fs,F.ms,F.ks⟩
noncomputable def Fn3.mt(F:Fn3)(m c:Str)(fi:FnI):Fn3:=⟨F.cur,F.fs,(m,c,fi)::F.ms,F.ks⟩
noncomputable def Fn3.cls(F:Fn3)(c:Str)(ah:List D)(fi:FnI):Fn3:=⟨F.cur,F.fs,F.ms,(c,ah,fi)::F.ks⟩
noncomputable def Fn3.at(F:Fn3)(c:Str):Fn3:=⟨c,F.fs,F.ms,F.ks⟩
section
variable{cl:Cf}{T:Tab}{P:Program}{wo:PySem.World}{K:PySem.W.Frag}{mg:Z6}{base:Heap}{k:Nat}{fs:Fn3}
def zch{α:Type}{a:α}{l:List (Str×α)}{b:α}(h:((x,a)::l).lookup y=some b):(y=x/\b=a)\/l.lookup y=some b:=by
 rw[yaD]at h
 cases e:y==x with
 |true=>rw[e]at h;cases h;exact .inl ⟨eq_of_beq e,rfl⟩|false=>rw[e]at h;exact .inr h
def zfa{α:Type}{p:α->Prop}:∀x∈([]:List α),p x:=fun _ h=>nomatch h
def zar{α:Type}{p:α->Prop}{a:α}{l:List α}(h:p a)(t:∀x∈l,p x):∀x∈a::l,p x:=fun x b=>(yaq.mp b).elim (fun e=>e ▸ h) (t x)
theorem zg8{α:Type}{a:α}:∀{l:List (Str×α)},l.lookup x=some a->(x,a)∈l
 |[],h=>by cases h
 |(y,b)::l,h=>by
  rcases zch h with⟨rfl,rfl⟩|h
  ·exact yao
  ·exact yaj _ (zg8 h)
noncomputable def zur(K:PySem.W.Frag)(cl:Cf)(exc:List Str)(c:Str):Prop:=PySem.W.ExcCls K (cl c)/\PySem.W.kitOne K (.ref (cl c)) (.type "ValueError")=some true/\∀C∈exc,PySem.W.kitOne K (.ref (cl c)) (.ref (cl C))=some (decide (C=c)||decide (C="FloorError"))
def zzB(J:∀p∈T.con,∃v u,mg p.1=some u/\zaZ v u/\∀w,Shd cl w v p.2)(hb:∀x∈T.blt,mg x=none)(he:∀c∈T.exc,mg c=some (.ref (cl c))/\PySem.W.excIn K (cl c) bmV "ValueError.__new__"=true)(hu:∀p∈T.und,L2.zrs K (cl p.1) (cl p.2))(U:∀c∈T.rz,zur K cl T.exc c)(I:∀p∈T.fk,Cls cl.K (cl p.1)/\zcp cl.K (cl p.1) p.2):GOk cl (Gn T ⟨"",[],[],[]⟩) P wo K mg base 0 where
 fk:=fun c f h=>I (c,f) (by simpa using(show T.fk.contains (c,f)=true from h))
 mt:=fun m c fi h=>by cases h
 mks:=fun c ah fi h=>by cases h
 tl:=fun _ _ _ h=>by cases h
 con:=fun x d h=>J (x,d) (zg8 h)
 fn:=fun x fi h=>by cases h
 blt:=fun x h=>hb x (by simpa using(show T.blt.contains x=true from h))
 exc:=fun c h=>he c (by simpa using(show T.exc.contains c=true from h))
 und:=fun c C h=>hu (c,C) (by simpa using(show T.und.contains (c,C)=true from h))
 isx:=fun c C b h=>by
  have h':zuH T.rz T.exc c C=some b:=h;unfold zuH at h';split at h'
  ·rename_i J;obtain⟨g,e,x3⟩:=U c (by simpa using J);refine⟨g,?_⟩;unfold clsV;split at h'
   ·rename_i a;cases h';rw[if_pos a];exact e
   ·rename_i a;rw[if_neg a];split at h'
    ·rename_i hm;cases h';exact x3 C (by simpa using hm)
    ·cases h'
  ·cases h'
def GOk.add(g:GOk cl (Gn T fs) P wo K mg base k)(m:mg x=some (.ref f))(kp:PySem.W.keepIn K (.ref f)=true)(b:zcR K fd ps [])(F:FnOk P wo K mg base (CXE P wo) (k+1) f fd ps (zgA cl fi.ar fi.own fi.run)):
  GOk cl (Gn T (fs.fn x fi)) P wo K mg base (k+1)where
 con:=g.con
 fn:=fun y j h=>by
  rcases zch h with⟨rfl,rfl⟩|h
  ·exact⟨f,fd,ps,m,kp,b,F⟩
  ·obtain⟨d,a,au,h1,h2,i,e⟩:=g.fn y j h;exact⟨d,a,au,h1,h2,i,e.mono (ybH _)⟩
 blt:=g.blt
 exc:=g.exc
 und:=g.und
 isx:=g.isx
 fk:=g.fk
 tl:=fun _ _ _ h=>by cases h
 mt:=fun m c fi h=>by
  obtain⟨d,a,au,h1,h2,i,e⟩:=g.mt m c fi h;exact⟨d,a,au,h1,h2,i,e.mono (ybH _)⟩
 mks:=fun c ah fi h=>by
  obtain⟨d,a,au,dvs,ds,k',hk,z⟩:=g.mks c ah fi h;exact⟨d,a,au,dvs,ds,k',Nat.le_succ_of_le hk,z⟩
theorem GOk.at(g:GOk cl (Gn T fs) P wo K mg base k)(c:Str):GOk cl (Gn T (fs.at c)) P wo K mg base k:=⟨g.con,g.fn,g.blt,g.exc,g.und,g.isx,g.fk,g.mt,g.mks,fun _ _ _ h=>by cases h⟩
def GOk.up(g:GOk cl (Gn T fs) P wo K mg base k)(hk:k<=k'):GOk cl (Gn T fs) P wo K mg base k' where
 con:=g.con
 fn:=fun y i h=>by
  obtain⟨b,a,au,h1,h2,e,d⟩:=g.fn y i h;exact⟨b,a,au,h1,h2,e,d.mono hk⟩
 blt:=g.blt
 exc:=g.exc
 und:=g.und
 isx:=g.isx
 fk:=g.fk
 tl:=fun _ _ _ h=>by cases h
 mt:=fun m c fi h=>by
  obtain⟨b,a,au,h1,h2,e,d⟩:=g.mt m c fi h;exact⟨b,a,au,h1,h2,e,d.mono hk⟩
 mks:=fun c ah fi h=>by
  obtain⟨b,a,au,dvs,ds,j,f,z⟩:=g.mks c ah fi h;exact⟨b,a,au,dvs,ds,j,yav f hk,z⟩
def GOk.addM(g:GOk cl (Gn T fs) P wo K mg base k)(I:Cls K (cl c))(hm:Meth K (cl c) m f)(b:zcR K fd ps [])(F:FnOk P wo K mg base (CXE P wo) k f fd ps (zgA cl fi.ar fi.own fi.run)):
  GOk cl (Gn T (fs.mt m c fi)) P wo K mg base k where
 con:=g.con
 fn:=g.fn
 blt:=g.blt
 exc:=g.exc
 und:=g.und
 isx:=g.isx
 fk:=g.fk
 tl:=fun _ _ _ h=>by cases h
 mt:=fun d c' a h=>by
  rcases zch h with⟨rfl,e⟩|h
  ·cases e;exact⟨f,fd,ps,I,hm,b,F⟩
  ·exact g.mt d c' a h
 mks:=g.mks
def GOk.addK(g:GOk cl (Gn T fs) P wo K mg base k)(hk:k'+1<=k)(hm:mg c=some (.ref (cl c)))(M:Mk K (cl c) f)(b0:zcR K fd ps [])(U:zcR K fd ps ds)(I:Vals dvs ds)(J:∀w,Shds cl w dvs ah)(F:FnOk P wo K mg base (CXE P wo) k' f fd ps (zgA cl fi.ar false fi.run)):
  GOk cl (Gn T (fs.cls c ah fi)) P wo K mg base k where
 con:=g.con
 fn:=g.fn
 blt:=g.blt
 exc:=g.exc
 und:=g.und
 isx:=g.isx
 fk:=g.fk
 tl:=fun _ _ _ h=>by cases h
 mt:=g.mt
 mks:=fun c' a b h=>by
  rcases zch h with⟨rfl,e⟩|h
  ·cases e;exact⟨f,fd,ps,dvs,ds,k',hk,hm,M,b0,U,I,J,F⟩
  ·exact g.mks c' a b h
def zmu{C:Addr}{b:List Value}{i:String}(x:PySem.W.excIn K C b i=true):(PySem.W.clsIn K C).isSome=true/\PySem.W.typeIn K (.ref C)=some (.type "type"):=by
 unfold PySem.W.excIn at x;split at x
 ·rename_i d cd sl e;refine⟨?_,?_⟩
  ·unfold PySem.W.clsIn;rw[e];rfl
  ·show(K.lookup C).map (·.cls)=_;rw[e];rfl
 ·cases x
def zfV{C:Addr}{el:Value}{ed:Option Addr}{I:ClassData}{es:Array (Option Value)}{m:List Value}{v:Value}(U:K.lookup C=some ⟨el,ed,.cls I,es⟩)(J:I.mro=.ref C::m):PySem.W.subIn K (.ref C) v=some ((Value.ref C::m).contains v):=by
 show PySem.W.mroIn K C v=_;unfold PySem.W.mroIn PySem.W.clsIn;rw[U];show(if I.mro.isEmpty then none else some (I.mro.contains v))=_;rw[J];rfl
def zlf{a b:Addr}(h:a≠b):(Value.ref a==Value.ref b)=false:=Bool.eq_false_iff.mpr fun z=>h (Value.ref.inj (ybT.mp z))
theorem zqN{C F:Addr}{el:Value}{ed:Option Addr}{I:ClassData}{es:Array (Option Value)}(U:K.lookup C=some ⟨el,ed,.cls I,es⟩)(J:I.mro=.ref C::.ref F::bmV):PySem.W.kitOne K (.ref C) (.type "ValueError")=some true:=by
 have h1:PySem.W.kitMeta "ValueError"=true:=by decide +kernel
 have h0:(Value.ref C==Value.type "ValueError")=false:=by with_unfolding_all rfl
 unfold PySem.W.kitOne PySem.W.kitCls;simp only[h0,h1,zfV U J];simp
def zqO{C D F:Addr}{el:Value}{ed:Option Addr}{I:ClassData}{es:Array (Option Value)}{b:List Value}{i:String}(U:K.lookup C=some ⟨el,ed,.cls I,es⟩)(J:I.mro=.ref C::.ref F::bmV)(x:PySem.W.excIn K D b i=true):PySem.W.kitOne K (.ref C) (.ref D)=some (decide (D=C)||decide (D=F)):=by
 by_cases h:D=C
 ·subst h;unfold PySem.W.kitOne;rw[if_pos (ybq _)];simp
 ·obtain⟨h1,h2⟩:=zmu x;have h0:=zlf (fun z=>h z.symm:C≠D);unfold PySem.W.kitOne PySem.W.kitCls;simp only[h0,h1,h2,zfV U J];have c:(Value.ref D==Value.ref C)=false:=zlf h;simp only[yct,c,Bool.false_or,yb0,ydg,ybq,Bool.and_self,yci,h,decide_false]
  by_cases a:D=F
  ·subst a;simp
  ·have e2:(Value.ref D==Value.ref F)=false:=zlf a;simp only[e2,Bool.false_or,a,decide_false,Option.some.injEq]
   with_unfolding_all rfl
def zh7{c:ClassData}{C F:Addr}{m:List Value}(h:c.mro=.ref C::.ref F::m):c.mro.contains (.ref F)=true:=by
 rw[h,yct,yct,ybq,Bool.true_or,Bool.or_true]
def zph{L:List (Str×Addr)}:∀{C:Str},C∈L.map (·.1)->∃a,L.lookup C=some a/\(C,a)∈L:=by
 induction L with
 |nil=>intro C h;simp at h|cons p L b=>
  intro C h;rw[yaD]
  cases e:C==p.1 with
  |true=>exact⟨p.2,rfl,by rw[eq_of_beq e];exact yao⟩
  |false=>
   have:C∈L.map (·.1):=by
    rw[yar,yaq]at h
    rcases h with h|h
    ·rw[h]at e;simp at e
    ·exact h
   obtain⟨a,h1,h2⟩:=b this;exact⟨a,h1,yaj _ h2⟩
theorem zkN:∀{L:List (Str×Addr)},(L.map (·.2)).Nodup->∀{C c:Str}{a:Addr},(C,a)∈L->(c,a)∈L->C=c
 |[],_,_,_,_,h,_=>by simp at h
 |p::L,nd,C,c,a,h,h'=>by
  rw[yar,ya7]at nd;rw[yaq]at h h'
  rcases h with h|h<;>rcases h' with h'|h'
  ·rw[<-h']at h;exact(Prod.mk.inj h).1
  ·exact absurd (yaf.mpr ⟨_,h',by rw[<-h]⟩) nd.1
  ·exact absurd (yaf.mpr ⟨_,h,by rw[<-h']⟩) nd.1
  ·exact zkN nd.2 h h'
def zun{L:List (Str×Addr)}(nd:(L.map (·.2)).Nodup){C c:Str}(J:C∈L.map (·.1))(I:c∈L.map (·.1)):(L.lookup C).getD 0=(L.lookup c).getD 0↔C=c:=by
 obtain⟨a,h1,h2⟩:=zph J;obtain⟨b,d,f⟩:=zph I;rw[h1,d];constructor
 ·intro e;have:a=b:=e;subst this;exact zkN nd h2 f
 ·rintro rfl;rw[h1]at d;cases d;rfl
def zlW{c:Str}{cl:Cf}{exc:List Str}{F:Addr}{el:Value}{ed:Option Addr}{U:ClassData}{es:Array (Option Value)}
  (I:K.lookup (cl c)=some ⟨el,ed,.cls U,es⟩) (J:U.mro=.ref (cl c)::.ref F::bmV) (hF:cl "FloorError"=F)
  (ga:PySem.W.findIn K (.ref (cl c)) "__getattribute__"=some (some (.builtin "BaseException.__getattribute__"))) (gt:PySem.W.findIn K (.ref (cl c)) "__getattr__"=some none) (cc:PySem.W.findIn K (.ref (cl c)) "__class__"=some (some (.builtin "object.__class__")))
  (hx:∀C∈exc,PySem.W.excIn K (cl C) bmV "ValueError.__new__"=true) (hi:∀C∈exc,(cl C=cl c↔C=c)/\(cl C=cl "FloorError" ↔ C="FloorError")):zur K cl exc c:=by
 refine⟨⟨ga,gt,cc,?_,?_,_,_,_,_,I⟩,zqN I J,fun C a=>?_⟩
 ·rw[zfV I J];simp
 ·rw[zfV I J];simp
 ·rw[zqO I J (hx C a)];obtain⟨i1,i2⟩:=hi C a;rw[hF]at i2;simp only[i1,i2]
end
noncomputable def ziU(K:PySem.W.Frag)(tabs:List (Addr×Addr)):Sp:=fun vs H Q _=>∃(a:Addr) (ns:List Int),vs=[.ref a]/\ns.length<=63/\zoo tabs H/\(∀q∈tabs,H q.2=some (.tbl #[]))/\(∀q∈tabs,q.2≠a)/\SqL K H a (ns.map V.int)/\∀H',Q (.bl true) H'
def zqK{cl:Cf}{tabs:List (Addr×Addr)}(J:∀P q,cl.tabs P=some q->P∈tabs.map (·.2)){run:List D->Sto->Out D}(I:∀l:List Int,l.length<=63->∃S,run [.scr l] []=.ok (.bl true) S):∀vs H Q E,ziU cl.K tabs vs H Q E->zgA cl 1 false run vs H Q E:=by
 rintro vs H Q E ⟨a,ns,rfl,k,s,m,f,c,q⟩
 have j:a ∉ tabs.map (·.2):=fun z=>by obtain⟨p,d,e⟩:=yaf.mp z;exact f p d e
 refine⟨rfl,⟨fun _=>none,fun _=>none⟩,⟨H,fun b=>if b∈tabs.map (·.2)then some .tab else none,[]⟩,[.scr ns],[],rfl,⟨(fun a o h=>by cases h),(fun a r h=>.inr rfl),rfl,(fun n ob h=>by simp at h),fun P w h=>?_⟩,.cons ?_ .nil,?_⟩
 ·have g:=J P w h;obtain⟨p,d,rfl⟩:=yaf.mp g;exact⟨#[],m p d,if_pos g,trivial,fun pos t e=>by cases e⟩
 ·rcases c with(c|⟨o,c⟩)|c
  ·rcases s a with z|⟨o,xs,z⟩|⟨z,_⟩
   ·rw[c]at z;cases z
   ·rw[c]at z;cases z
   ·rw[c]at z;cases z
  ·exact .scr c (if_neg j)
  ·exact .scrK fun H=>.inr c
 ·obtain⟨S',e⟩:=I ns k;rw[e];intro v w' _ _ r;have i:Shd cl w' v (.bl true):=r;cases i;exact q _
noncomputable abbrev Rn:=List D->Sto->Out D
structure FnT(K:PySem.W.Frag)(x q:Str)(st:Stmt)(f:Addr):Prop where
 ex:∃(oc:Value) (od:Option Addr) (kV dc pm:Value) (an:Option Addr) (cd ct:Value) (sl:Array (Option Value)),K.lookup f=some ⟨oc,od,.func (PySem.W.fnOf x q (za8 st) (zaQ st) (zah st) .none kV dc pm an cd ct),sl⟩/\PySem.W.codeIn K cd q=true/\PySem.W.keepIn K (.ref f)=true/\PySem.W.isFn K (.ref f)=true
structure GFn(K:PySem.W.Frag)(x:Str)(st:Stmt):Prop where
 ex:∃f,PySem.W.nsIn K mainGlobals x=some (some (.ref f))/\FnT K x x st f
structure MFn(K:PySem.W.Frag)(C:Addr)(m q:Str)(st:Stmt):Prop where
 ex:∃f,PySem.W.findIn K (.ref C) m=some (some (.ref f))/\FnT K m q st f
noncomputable def BB(x q:Str)(st:Stmt)(ps:List Str):Prop:=∀(kV doc pm:Value) (an:Option Addr) (a ct:Value) (us:List Value),us.length=ps.length->bindArgs (PySem.W.fnOf x q (za8 st) (zaQ st) (zah st) .none kV doc pm an a ct) ⟨us,[]⟩=pure (ps.zip us)
def bb0{p:List Value->Prop}(h:p []):∀us:List Value,us.length=0->p us:=fun us e=>by rw[ya9 e];exact h
def bbS{n:Nat}{p:List Value->Prop}(h:∀a:Value,∀us:List Value,us.length=n->p (a::us)):∀us:List Value,us.length=n+1->p us:=fun us e=>by
 cases us with
 |nil=>cases e|cons a us=>exact h a us (Nat.succ.inj e)
def bb1{p:List Value->Prop}(h:∀a0:Value,p [a0]):∀us:List Value,us.length=1->p us:=bbS fun a0=>bb0 (h a0)
def bb2{p:List Value->Prop}(h:∀a0 a1:Value,p [a0,a1]):∀us:List Value,us.length=2->p us:=bbS fun a0=>bbS fun a1=>bb0 (h a0 a1)
def bb3{p:List Value->Prop}(h:∀a0 a1 a2:Value,p [a0,a1,a2]):∀us:List Value,us.length=3->p us:=bbS fun a0=>bbS fun a1=>bbS fun a2=>bb0 (h a0 a1 a2)
def bb4{p:List Value->Prop}(h:∀a0 a1 a2 I:Value,p [a0,a1,a2,I]):∀us:List Value,us.length=4->p us:=bbS fun a0=>bbS fun a1=>bbS fun a2=>bbS fun I=>bb0 (h a0 a1 a2 I)
def bb5{p:List Value->Prop}(h:∀a0 a1 a2 J I:Value,p [a0,a1,a2,J,I]):∀us:List Value,us.length=5->p us:=bbS fun a0=>bbS fun a1=>bbS fun a2=>bbS fun J=>bbS fun I=>bb0 (h a0 a1 a2 J I)
def bb6{p:List Value->Prop}(h:∀a0 a1 a2 U J I:Value,p [a0,a1,a2,U,J,I]):∀us:List Value,us.length=6->p us:=bbS fun a0=>bbS fun a1=>bbS fun a2=>bbS fun U=>bbS fun J=>bbS fun I=>bb0 (h a0 a1 a2 U J I)
section
variable{cl:Cf}{T:Tab}{P:Program}{wo:PySem.World}{K:PySem.W.Frag}{mg:Z6}{base:Heap}{k:Nat}{fs:Fn3}
def FnT.un{x q:Str}{st:Stmt}{f:Addr}{ps:List Str}(p:FnT K x q st f)(b:BB x q st ps):∃fd,Fun K x q st f fd/\zcR K fd ps []/\PySem.W.keepIn K (.ref f)=true/\PySem.W.isFn K (.ref f)=true:=by
 obtain⟨oc,a,kV,d,pm,an,cd,ct,sl,l,c,kp,i⟩:=p.ex;have U:=zjo (st:=st) l c kp;exact⟨_,U,U.binds b,kp,i⟩
end
open PySem
open L2 hiding D
noncomputable def zcA:Fs:=
  (zag (sFz [] (zbd (zhK (eUn (zcK "int") (zac 0)) (eUn zbz (eUn (zcK "bool") (zac 0))))))
  sNx)
noncomputable def zbb:List S2.D->Sto->Out S2.D:=zbh 1 false zcA
noncomputable def zbZ:Fs:=
  (zag (sFz [] (zbd (zhK (eUn (zcK "tuple") (zac 0)) (zcC leD leD (zac 1) (zaF zen [(zac 0)]) (zac 2)))))
  sNx)
noncomputable def zaK:List S2.D->Sto->Out S2.D:=zbh 3 false zbZ
noncomputable def zb8:Fs:=
  (zag (sFz [0] (zbd (zhK (eFn zbb [(zad 0)]) (zcC leD leD (zaa (.int 0)) (zac 0) (zaa (.int 8))))))
  sNx)
noncomputable def zbp:List S2.D->Sto->Out S2.D:=zbh 1 false zb8
noncomputable def zdU:Fs:=
  (zag (sFz [0,0] (zbd (zhK (eFn zaK [(zad 0),(zaa (.int 4)),(zaa (.int 4))]) (zaF zmH [(zbS 1 (.one 0) (zaG (zad 0)) zct (eFn zbp [(zad 0)]) [])]))))
  sNx)
noncomputable def zcy:List S2.D->Sto->Out S2.D:=zbh 1 false zdU
noncomputable def zdV:Fs:=
  (zag (sFz [0] (sIf (eUn zbz (eFn zaK [(zad 0),(zaa (.int 1)),(zaa (.int 16))])) (zag (sFz [] (zbd (zaa (.bl false)))) sNx) sNx))
  (zag (sFz [0,0] (zbd (zhK (zaF zmH [(zbS 1 (.one 0) (zaG (zad 0)) zct (eFn zcy [(zad 0)]) [])]) (zaf eqD (eUn zdu (zad 0)) (zaF zen [(zac 0)])))))
  sNx))
noncomputable def zbm:List S2.D->Sto->Out S2.D:=zbh 1 false zdV
noncomputable def zcm:Fs:=
  (zag (sFz [1] (zbd (zhK (eFn zbb [(zad 1)]) (zcC leD ltD (zaa (.int 0)) (zac 1) (zaF zen [(zac 0)])))))
  sNx)
noncomputable def zcc:List S2.D->Sto->Out S2.D:=zbh 2 false zcm
noncomputable def zc2:Fs:=
  (zag (sFz [0,1] (zbd (eOr (zaf zjk (zac 1) (zaa .non)) (eFn zcc [(zad 0),(zad 1)]))))
  sNx)
noncomputable def zb7:List S2.D->Sto->Out S2.D:=zbh 2 false zc2
noncomputable def zeA:Fs:=
  (zag (sFz [1,1,0] (zbd (zhK (eFn zaK [(zad 1),(zaa (.int 1)),(zaa (.int 6))]) (zaF zmH [(zbS 1 (.one 0) (zaG (zad 1)) zct (eFn zb7 [(zad 1),(zad 0)]) [0])]))))
  sNx)
noncomputable def zdf:List S2.D->Sto->Out S2.D:=zbh 2 false zeA
noncomputable def zcB:Fs:=
  (zag (sFz [1] (sIf (eUn zbz (eFn zaK [(zad 1),(zaa (.int 1)),(zaa (.int 6))])) (zag (sFz [] (zbd (zaa (.bl false)))) sNx) sNx))
  (zag (sFz [1,0] (sIf (eUn zbz (zaF zmH [(zbS 1 (.one 0) (zaG (zad 1)) zct (eFn zdf [(zad 1),(zad 0)]) [0])])) (zag (sFz [] (zbd (zaa (.bl false)))) sNx) sNx))
  (zag (sFz [1,1] (zbd (zaF zmH [(zbS 1 (.one 0) (zaG (zad 1)) zct (zaf eqD (zaF zen [(zac 0)]) (zaF zen [(zaf ixD (zac 1) (zaa (.int 0)))])) [1])])))
  sNx)))
noncomputable def zaJ:List S2.D->Sto->Out S2.D:=zbh 2 false zcB
noncomputable def zfb:Fs:=
  (zag (sFz [] (zbO 1 false (eIf (zaf gtD (zaF zen [(zac 0)]) (zaa (.int 0))) (zaF zen [(zaf ixD (zac 0) (zaa (.int 0)))]) (zaa (.int 0)))))
  (zag (sFz [1] (zbd (zmh [(zaF zen [(zac 0)]),(zad 1)])))
  sNx))
noncomputable def zb6:List S2.D->Sto->Out S2.D:=zbh 2 false zfb
noncomputable def zdy:Fs:=
  (zag (sFz [0] (zbd (eSm zdw (zaa (.str "")) (zbS 1 (.one 0) (zaG (zad 0)) zct (zaF zov [(zac 0)]) []))))
  sNx)
noncomputable def zbC:List S2.D->Sto->Out S2.D:=zbh 1 false zdy
noncomputable def zea:Fs:=
  (zag (sFz [0] (zbd (eSm zdw (zaa (.str "")) (zbS 1 (.one 0) (zaG (zad 0)) zct (zaf za0 (eFn zbC [(zad 0)]) (zaa (.str "\n"))) []))))
  sNx)
noncomputable def zde:List S2.D->Sto->Out S2.D:=zbh 1 false zea
noncomputable def zbY:Fs:=
  (zag (sFz [] (zbd (eIf (zaf zjk (zac 0) (zaa .non)) (zaa (.str "-")) (zaF zov [(zac 0)]))))
  sNx)
noncomputable def zaV:List S2.D->Sto->Out S2.D:=zbh 1 false zbY
noncomputable def zeb:Fs:=
  (zag (sFz [0] (zbd (eSm zdw (zaa (.str " ")) (zbS 1 (.one 0) (zaG (zad 0)) zct (eFn zaV [(zad 0)]) []))))
  sNx)
noncomputable def zb1:List S2.D->Sto->Out S2.D:=zbh 1 false zeb
noncomputable def zc4:Fs:=
  (zag (sFz [0] (zbd (eSm zdw (zaa (.str "\n")) (zbS 1 (.one 0) (zaG (zad 0)) zct (eFn zb1 [(zad 0)]) []))))
  sNx)
noncomputable def zcd:List S2.D->Sto->Out S2.D:=zbh 1 false zc4
noncomputable def zcL:Fs:=
  (zag (sFz [0] (zbd (eIf (zaf inD (zac 0) (zaa (.str "012345678"))) (eSm zjn (zaa (.str "012345678")) (zad 0)) (zaa (.str "?")))))
  sNx)
noncomputable def zbq:List S2.D->Sto->Out S2.D:=zbh 1 false zcL
noncomputable def zdz:Fs:=
  (zag (sFz [0] (zbd (zaF zcv [(zbS 1 (.one 0) (zaG (zad 0)) zct (eFn zbq [(zad 0)]) [])])))
  sNx)
noncomputable def zbD:List S2.D->Sto->Out S2.D:=zbh 1 false zdz
noncomputable def zcz:Fs:=
  (zag (sFz [] (sIf (eUn zbz (eSm zmf (zad 0) (zaa (.str "\n")))) (zag (sFz [] (sRz "NoText" [(zaa (.str "the last line is not ended"))])) sNx) sNx))
  (zag (sFz [] (zbO 1 false (zaF zcv [(zbS 1 (.one 0) (zaG (eSm zcW (eSl (zac 0) none (some (eUn znA (zaa (.int 1))))) (zaa (.str "\n")))) zct (eFn zbD [(zad 0)]) [])])))
  (zag (sFz [1] (sIf (eUn zbz (eFn zbm [(zad 1)])) (zag (sFz [] (sRz "NoText" [(zaa (.str "this is not the writing of a set"))])) sNx) sNx))
  (zag (sFz [1] (zbd (zad 1)))
  sNx))))
noncomputable def zb2:List S2.D->Sto->Out S2.D:=zbh 2 false zcz
noncomputable def zbt:Fs:=
  (zag (sFz [2] (zes 1 (eFn zaV [(zad 2)]) (zad 2))) sNx)
noncomputable def zbF:Fs:=
  (zag (sFz [] (zbO 1 true (zj8 "-" (zaa .non))))
  (zag (sFz [] (zkl (.one 2) (zeu (zaF zen [(zac 0)])) zbt))
  (zag (sFz [] (zjM 1))
  sNx)))
noncomputable def zba:List S2.D->Sto->Out S2.D:=zbh 3 true zbF
noncomputable def zec:Fs:=
  (zag (sFz [0] (zbd (zaF zcv [(zbS 1 (.one 0) (zaG (eSm zcW (zad 1) (zaa (.str " ")))) zct (zep (zad 1) (zad 0) (zaa (.str "?"))) [0])])))
  sNx)
noncomputable def zb3:List S2.D->Sto->Out S2.D:=zbh 2 false zec
noncomputable def zcl:Fs:=
  (zag (sFz [0] (zbO 2 true (eFn zba [(zad 0)])))
  (zag (sFz [2] (zbO 3 false (zaF zcv [(zbS 1 (.one 0) (zaG (eSm zcW (zad 1) (zaa (.str "\n")))) zct (eFn zb3 [(zad 1),(zad 0)]) [2])])))
  (zag (sFz [0,3] (sIf (eUn zbz (eFn zaJ [(zad 0),(zad 3)])) (zag (sFz [] (sRz "NoText" [(zaa (.str "this is not the writing of a floor of the set"))])) sNx) sNx))
  (zag (sFz [3] (zbd (zad 3)))
  sNx))))
noncomputable def za7:List S2.D->Sto->Out S2.D:=zbh 4 false zcl
noncomputable def zeB:Fs:=
  (zag (sFz [0,1] (sIf (zaf neD (zaf ixD (eFn zb6 [(zad 0)]) (zaa (.int 0))) (zaf ixD (eFn zb6 [(zad 1)]) (zaa (.int 0)))) (zag (sFz [] (sRz "Unlike" [(zaa (.str "the floors have not as many rows"))])) sNx) sNx))
  (zag (sFz [0,1] (zbd (zaF zcv [(zbS 2 (.tup [0,1]) (zry (zad 0) (zad 1)) zct (zaf za0 (zac 0) (zac 1)) [])])))
  sNx))
noncomputable def zbW:List S2.D->Sto->Out S2.D:=zbh 2 false zeB
noncomputable def zgq:Fs:=
  (zag (sFz [0,1] (sIf (zaf neD (zaf ixD (eFn zb6 [(zad 0)]) (zaa (.int 1))) (zaf ixD (eFn zb6 [(zad 1)]) (zaa (.int 1)))) (zag (sFz [] (sRz "Unlike" [(zaa (.str "the floors have not as many columns"))])) sNx) sNx))
  (zag (sFz [] (zbd (zaf za0 (zac 0) (zac 1))))
  sNx))
noncomputable def zcH:List S2.D->Sto->Out S2.D:=zbh 2 false zgq
noncomputable def zc3:Fs:=
  (zag (sFz [] (sIf (eOr (eUn zbz (eUn (zcK "str") (zac 0))) (eUn zbz (zcC leD leD (zaa (.int 1)) (zaF zen [(zac 0)]) (zaa (.int 6))))) (zag (sFz [] (zbd (zaa (.bl false)))) sNx) sNx))
  (zag (sFz [0] (zbd (zaF zmH [(zbS 1 (.one 0) (zaG (zad 0)) zct (zcC leD leD (zaa (.str "a")) (zac 0) (zaa (.str "z"))) [])])))
  sNx))
noncomputable def zby:List S2.D->Sto->Out S2.D:=zbh 1 false zc3
noncomputable def zbQ:Fs:=
  (zag (sFz [0] (sIf (eUn zbz (eFn zby [(zad 0)])) (zag (sFz [] (sRz "NoName" [(zaa (.str "this is no name"))])) sNx) sNx))
  sNx)
noncomputable def zaX:List S2.D->Sto->Out S2.D:=zbh 1 false zbQ
noncomputable def zbR:Fs:=
  (zag (sFz [1] (sIf (eUn zbz (eFn zbm [(zad 1)])) (zag (sFz [] (sRz "Unlike" [(zaa (.str "this is no set"))])) sNx) sNx))
  (zag (sFz [1] (zkZ "Album" "tiles" (zad 0) (zad 1)))
  (zag (sFz [] (zk0 "Album" "named" 0))
  (zag (sFz [] (zfn "Album" "done" 0))
  (zag (sFz [] (zfn "Album" "undone" 0))
  sNx)))))
noncomputable def zaC:List S2.D->Sto->Out S2.D:=zbh 2 false zbR
noncomputable def za3:Fs:=
  (zag (sFz [] (sIf (zaf zjk (zac 2) (zaa .non)) (zag (sFz [1] (zjO "Album" "named" 0 (zbI 1))) sNx) (zag (sFz [2] (zjN "Album" "named" 0 (zbI 1) (zbI 2))) sNx)))
  sNx)
noncomputable def zaL:List S2.D->Sto->Out S2.D:=zbh 3 false za3
noncomputable def zed:Fs:=
  (zag (sFz [1,2,2,3] (zjP "Album" "done" 0 [(zbI 1),(zbI 2),(zgY "Album" "named" 0 (zbI 2)),(zbI 3)]))
  (zag (sFz [] (zfn "Album" "undone" 0))
  (zag (sFz [2,3] (zk2 (zbx "Album" "name_floor" zaL (zad 0) [(zad 2),(zad 3)])))
  sNx)))
noncomputable def zb4:List S2.D->Sto->Out S2.D:=zbh 4 false zed
noncomputable def zdB:Fs:=
  (zag (sFz [1] (zk2 (eFn zaX [(zad 1)])))
  (zag (sFz [2] (sIf (eUn zbz (eFn zaJ [(zkr "Album" "tiles" (zad 0)),(zad 2)])) (zag (sFz [] (sRz "Unlike" [(zaa (.str "this is no floor of the set"))])) sNx) sNx))
  (zag (sFz [] (zbO 3 false (eQ (zm7 "Album" "named" 0 (zbI 1)))))
  (zag (sFz [1,2] (zk2 (zbx "Album" "do" zb4 (zad 0) [(zaa (.str "put")),(zad 1),(zad 2)])))
  (zag (sFz [3] (zbd (zad 3)))
  sNx)))))
noncomputable def zaP:List S2.D->Sto->Out S2.D:=zbh 4 false zdB
noncomputable def zbn:Fs:=
  (zag (sFz [1] (sIf (eOr (eUn zbz (eFn zby [(zad 1)])) (eQ (zfo "Album" "named" 0 (zbI 1)))) (zag (sFz [] (sRz "NoName" [(zaa (.str "no floor has this name"))])) sNx) sNx))
  (zag (sFz [] (zbd (eQ (zqd "Album" "named" 0 (zbI 1)))))
  sNx))
noncomputable def zas:List S2.D->Sto->Out S2.D:=zbh 2 false zbn
noncomputable def zcn:Fs:=
  (zag (sFz [1] (zbO 2 false (zbx "Album" "floor_of" zas (zad 0) [(zad 1)])))
  (zag (sFz [1] (zk2 (zbx "Album" "do" zb4 (zad 0) [(zaa (.str "take")),(zad 1),(zaa .non)])))
  (zag (sFz [2] (zbd (zad 2)))
  sNx)))
noncomputable def zay:List S2.D->Sto->Out S2.D:=zbh 3 false zcn
noncomputable def zaE:Fs:=
  (zag (sFz [1] (zk2 (eFn zaX [(zad 1)])))
  (zag (sFz [2] (zbO 5 false (zbx "Album" "floor_of" zas (zad 0) [(zad 2)])))
  (zag (sFz [3] (zbO 6 false (zbx "Album" "floor_of" zas (zad 0) [(zad 3)])))
  (zag (sFz [4,5,6,5,6] (zbO 7 false (eIf (zad 4) (eFn zbW [(zad 5),(zad 6)]) (eFn zcH [(zad 5),(zad 6)]))))
  (zag (sFz [7] (sIf (eUn zbz (eFn zaJ [(zkr "Album" "tiles" (zad 0)),(zad 7)])) (zag (sFz [] (sRz "Unlike" [(zaa (.str "both together are no floor"))])) sNx) sNx))
  (zag (sFz [1,7] (zk2 (zbx "Album" "do" zb4 (zad 0) [(zaa (.str "join")),(zad 1),(zad 7)])))
  (zag (sFz [7] (zbd (zad 7)))
  sNx)))))))
noncomputable def zak:List S2.D->Sto->Out S2.D:=zbh 8 false zaE
noncomputable def zcM:Fs:=
  (zag (sFz [] (zbd (zj7 "Album" "named" 0)))
  sNx)
noncomputable def zbX:List S2.D->Sto->Out S2.D:=zbh 1 true zcM
noncomputable def zcs:Fs:=
  (zag (sFz [] (zbd (zkr "Album" "tiles" (zad 0))))
  sNx)
noncomputable def zbH:List S2.D->Sto->Out S2.D:=zbh 1 false zcs
noncomputable def zc5:Fs:=
  (zag (sFz [1] (zbd (zaf za0 (zaf za0 (zaf za0 (zaf za0 (zaa (.str "--\n")) (zac 1)) (zaa (.str "\n"))) (eFn zcd [(zbx "Album" "floor_of" zas (zad 0) [(zad 1)])])) (zaa (.str "\n")))))
  sNx)
noncomputable def zbw:List S2.D->Sto->Out S2.D:=zbh 2 false zc5
noncomputable def zc6:Fs:=
  (zag (sFz [0] (zbd (zaf za0 (eFn zde [(zbx "Album" "set_of" zbH (zad 0) [])]) (eSm zdw (zaa (.str "")) (zbS 1 (.one 0) (zaG (zbx "Album" "names" zbX (zad 0) [])) zct (eFn zbw [(zad 1),(zad 0)]) [0])))))
  sNx)
noncomputable def zaA:List S2.D->Sto->Out S2.D:=zbh 1 false zc6
noncomputable def zam:Fs:=
  (zag (sFz [] (zbO 5 false (eSm zlr (zad 4) (zaa (.str "\n"))))) (zag (sFz [] (zbO 6 false (zaf ixD (zac 5) (zaa (.int 0))))) (zag (sFz [6] (sIf (eOr (eUn zbz (eFn zby [(zad 6)])) (zaf leD (zac 6) (zac 3))) (zag (sFz [] (sRz "NoText" [(zaa (.str "there is no name, or not in its turn"))])) sNx) sNx)) (zag (sFz [0] (zes 2 (zad 6) (eFn za7 [(zad 0),(zaf ixD (zac 5) (zaa (.int 2)))]))) (zag (sFz [6] (zbO 3 false (zad 6))) sNx)))))
noncomputable def zbJ:Fs:=
  (zag (sFz [] (zbO 2 true zn5))
  (zag (sFz [] (zbO 3 false (zaa (.str ""))))
  (zag (sFz [1] (zkl (.one 4) (zaG (zad 1)) zam))
  (zag (sFz [] (zjM 2))
  sNx))))
noncomputable def zaz:List S2.D->Sto->Out S2.D:=zbh 7 true zbJ
noncomputable def zaM:Fs:=
  (zag (sFz [] (sIf (eOr (eUn zbz (eUn (zcK "str") (zac 0))) (eUn zbz (eSm zmf (zad 0) (zaa (.str "\n"))))) (zag (sFz [] (sRz "NoText" [(zaa (.str "this is no text, or its last line is not ended"))])) sNx) sNx))
  (zag (sFz [] (zbO 1 false (eSm zcW (eSl (zac 0) none (some (eUn znA (zaa (.int 1))))) (zaa (.str "\n--\n")))))
  (zag (sFz [] (zbO 2 false (eMk "Album" [] zaC [(eFn zb2 [(zaf za0 (zaf ixD (zac 1) (zaa (.int 0))) (zaa (.str "\n")))])])))
  (zag (sFz [] (zgP "Album" "named" 2 (eFn zaz [(zkr "Album" "tiles" (zad 2)),(eSl (zac 1) (some (zaa (.int 1))) none)])))
  (zag (sFz [2] (zbd (zad 2)))
  sNx)))))
noncomputable def zae:List S2.D->Sto->Out S2.D:=zbh 3 false zaM
noncomputable def zca:Fs:=
  (zag (sFz [] (sIf (zaf ltD (zac 1) (zaF zen [(zac 0)])) (zag (sFz [] (zbd (zaf ixD (zac 0) (zac 1)))) sNx) sNx))
  (zag (sFz [] (sIf (zaf eqD (zac 0) (zev [])) (zag (sFz [] (zbd (zaa (.int 0)))) sNx) sNx))
  (zag (sFz [] (zbd (zaf za0 (zaf zja (zaf ixD (zac 0) (zaf zj0 (zac 1) (zaF zen [(zac 0)]))) (zaa (.int 31))) (zac 1))))
  sNx)))
noncomputable def zbr:List S2.D->Sto->Out S2.D:=zbh 2 false zca
noncomputable def zdA:Fs:=
  (zag (sFz [0,1] (zbO 3 false (zaf zj0 (zaf zja (zaf za0 (eFn zbr [(zad 0),(zad 1)]) (zaf zja (zaa (.int 6151)) (zaf za0 (zac 1) (zaa (.int 1))))) (zaa (.int 40692))) (zaa (.int 2147483399)))))
  (zag (sFz [] (zbd (zaf zj0 (zaf zj0 (zaf za0 (zaf zja (zac 3) (zac 3)) (zaf zo7 (zac 3) (zaa (.int 31)))) (zaa (.int 2147483629))) (zac 2))))
  sNx))
noncomputable def zan:List S2.D->Sto->Out S2.D:=zbh 4 false zdA
noncomputable def zbk:Fs:=
  (zag (sFz [1,3,5,0] (zbO 6 false (zaF zcv [(zbS 1 (.one 0) (zeu (zaa (.int 4))) zct (eFn zan [(zad 4),(zaf za0 (zaf za0 (zaf za0 (zac 1) (zaf zja (zaa (.int 4)) (zac 3))) (zaa (.int 2))) (zac 0)),(zad 2)]) [1,3,5,0])]))) (zag (sFz [0] (sIf (zaf eqD (eFn zan [(zad 0),(zaf za0 (zaf za0 (zac 1) (zaa (.int 60))) (zac 5)),(zaa (.int 3))]) (zaa (.int 0))) (zag (sFz [] (zbO 6 false (zmh [(zaf ixD (zac 6) (zaa (.int 0))),(zaf ixD (zac 6) (zaa (.int 1))),(zaf ixD (zac 6) (zaa (.int 0))),(zaf ixD (zac 6) (zaa (.int 1)))]))) sNx) sNx)) (zag (sFz [] (sIf (zaf zqD (zac 6) (zac 4)) (zag (sFz [6] (zkm 4 (zad 6))) sNx) sNx)) sNx)))
noncomputable def zc7:Fs:=
  (zag (sFz [0,1] (zbO 3 false (zaf za0 (zaa (.int 2)) (eFn zan [(zad 0),(zad 1),(zaa (.int 2))]))))
  (zag (sFz [] (zbO 4 true (zev [])))
  (zag (sFz [0,2] (zkl (.one 5) (zeu (zaf za0 (zaa (.int 1)) (eFn zan [(zad 0),(zaf za0 (zac 1) (zaa (.int 1))),(zad 2)]))) zbk))
  (zag (sFz [] (zbd (zaF zcv [(zac 4)])))
  sNx))))
noncomputable def zce:List S2.D->Sto->Out S2.D:=zbh 7 false zc7
noncomputable def zbl:Fs:=
  (zag (sFz [0] (zbO 10 false (eFn zan [(zad 0),(zaf za0 (zaf za0 (zac 1) (zaf zja (zaa (.int 7)) (zac 7))) (zac 9)),(zaf zja (zaF zen [(zac 2)]) (zac 5))]))) (zag (sFz [10] (zkm 8 (eIf (zaf ltD (zac 10) (zaF zen [(zac 2)])) (zad 10) (zaa .non)))) sNx))
noncomputable def zcu:Fs:=
  (zag (sFz [] (zbO 8 true (zev []))) (zag (sFz [4] (zkl (.one 9) (zeu (zad 4)) zbl)) (zag (sFz [] (zkm 6 (zaF zcv [(zac 8)]))) sNx)))
noncomputable def zc8:Fs:=
  (zag (sFz [] (zbO 6 true (zev [])))
  (zag (sFz [3] (zkl (.one 7) (zeu (zad 3)) zcu))
  (zag (sFz [] (zbd (zaF zcv [(zac 6)])))
  sNx)))
noncomputable def zcf:List S2.D->Sto->Out S2.D:=zbh 11 false zc8
noncomputable def zb9:Fs:=
  (zag (sFz [] (zbO 3 true (zev [(zaa (.str "a")),(zaa (.str "b")),(zaa (.str "c")),(zaa (.str "sheet"))])))
  (zag (sFz [0,1,0] (zoD 4 5 false (zaf ixD (zac 3) (eFn zan [(zad 0),(zad 1),(zaa (.int 4))])) false (eFn zan [(zad 0),(zaf za0 (zac 1) (zaa (.int 1))),(zaa (.int 6))])))
  (zag (sFz [] (sIf (zaf ltD (zac 5) (zaa (.int 3))) (zag (sFz [0,0] (zoD 6 7 false (zaf za0 (zaa (.int 1)) (eFn zan [(zad 0),(zaf za0 (zac 1) (zaa (.int 2))),(zaa (.int 3))])) false (zaf za0 (zaa (.int 1)) (eFn zan [(zad 0),(zaf za0 (zac 1) (zaa (.int 3))),(zaa (.int 3))])))) (zag (sFz [4,0,2,6,7] (zbd (zmh [(zaa (.str "put")),(zad 4),(eFn zcf [(zad 0),(zaf za0 (zac 1) (zaa (.int 10))),(zad 2),(zad 6),(zad 7),(zaa (.int 2))])]))) sNx)) sNx))
  (zag (sFz [] (sIf (zaf eqD (zac 5) (zaa (.int 3))) (zag (sFz [4] (zbd (zmh [(zaa (.str "take")),(zad 4)]))) sNx) sNx))
  (zag (sFz [0,0] (zoD 8 9 false (zaf ixD (zac 3) (eFn zan [(zad 0),(zaf za0 (zac 1) (zaa (.int 4))),(zaa (.int 4))])) false (zaf ixD (zac 3) (eFn zan [(zad 0),(zaf za0 (zac 1) (zaa (.int 5))),(zaa (.int 4))]))))
  (zag (sFz [4,8,9,0] (zbd (zmh [(zaa (.str "join")),(zad 4),(zad 8),(zad 9),(zaf eqD (eFn zan [(zad 0),(zaf za0 (zac 1) (zaa (.int 6))),(zaa (.int 2))]) (zaa (.int 0)))])))
  sNx))))))
noncomputable def zbE:List S2.D->Sto->Out S2.D:=zbh 10 false zb9
noncomputable def zaN:Fs:=
  (zag (sFz [] (zbO 3 false (zaf zj0 (zac 1) (zaf za0 (zaF zen [(zac 0)]) (zaa (.int 1))))))
  (zag (sFz [] (zbO 4 false (zaf ixD (zac 2) (zaf zj0 (zaf zo7 (zac 1) (zaa (.int 1000))) (zaF zen [(zac 2)])))))
  (zag (sFz [] (zbO 5 false (zaf za0 (zaf za0 (zac 3) (zaa (.int 1))) (zaf zj0 (zaf zo7 (zac 1) (zaa (.int 7))) (zaa (.int 9))))))
  (zag (sFz [] (zbO 6 false (zaf zj0 (zaf zo7 (zac 1) (zaa (.int 100000))) (zaa (.int 8)))))
  (zag (sFz [] (sIf (zaf ltD (zac 6) (zaa (.int 2))) (zag (sFz [] (zbd (zaf za0 (zaf za0 (eSl (zac 0) none (some (zac 3))) (zac 4)) (eSl (zac 0) (some (zac 3)) none)))) sNx) sNx))
  (zag (sFz [] (sIf (zaf eqD (zac 6) (zaa (.int 2))) (zag (sFz [] (zbd (zaf za0 (eSl (zac 0) none (some (zac 3))) (eSl (zac 0) (some (zaf za0 (zac 3) (zaa (.int 1)))) none)))) sNx) sNx))
  (zag (sFz [] (sIf (zaf ltD (zac 6) (zaa (.int 5))) (zag (sFz [] (zbd (zaf za0 (zaf za0 (eSl (zac 0) none (some (zac 3))) (zac 4)) (eSl (zac 0) (some (zaf za0 (zac 3) (zaa (.int 1)))) none)))) sNx) sNx))
  (zag (sFz [] (sIf (zaf eqD (zac 6) (zaa (.int 5))) (zag (sFz [] (zbd (zaf za0 (eSl (zac 0) none (some (zac 3))) (eSl (zac 0) (some (zac 5)) none)))) sNx) sNx))
  (zag (sFz [] (sIf (zaf eqD (zac 6) (zaa (.int 6))) (zag (sFz [] (zbd (zaf za0 (eSl (zac 0) none (some (zac 5))) (eSl (zac 0) (some (zac 3)) none)))) sNx) sNx))
  (zag (sFz [] (zbd (zaf ixD (zev [(zaf za0 (zac 0) (zaa (.str " "))),(zaf za0 (zaa (.str " ")) (zac 0)),(zaf za0 (eSl (zac 0) (some (zac 3)) none) (eSl (zac 0) none (some (zac 3)))),(zaa (.str "")),(zaf za0 (zac 0) (zac 0))]) (zaf zj0 (zac 1) (zaa (.int 5))))))
  sNx))))))))))
noncomputable def zaD:List S2.D->Sto->Out S2.D:=zbh 7 false zaN
noncomputable def Fo.seq(b:Fs):Fo->Fo|.nx I S'=>b I S'|o=>o
def zvU(a b:Fs)(ρ:Env):Out D->Fo|.ok d S'=>(match isB d with|some true=>a ρ S'|some false=>b ρ S'|none=>.bad)|.exc x S'=>.ex x ρ S'|.bad=>.bad
noncomputable def zvW(i:Nat)(o:Bool)(ρ:Env):Out D->Fo|.ok d S'=>.nx (ρ.set i (some (o,d))) S'|.exc c S'=>.ex c ρ S'|.bad=>.bad
noncomputable def zxN(ρ:Env):Out D->Fo|.ok _ S'=>.nx ρ S'|.exc c S'=>.ex c ρ S'|.bad=>.bad
noncomputable def zvT(ρ:Env):Out D->Fo|.ok d S'=>.rt d S'|.exc c S'=>.ex c ρ S'|.bad=>.bad
noncomputable def ztx(S:Sto):Option (Option (Bool×D))->Fo|some (some (true,d))=>.rt d S|_=>.bad
def zqT(i:Nat)(ρ:Env)(l:List D):Out D->Fo
 |.ok d S'=>if zau l.length then .nx (ρ.set i (some (true,.lst (l++[d])))) S' else .bad
 |.exc c S'=>.ex c ρ S'|.bad=>.bad
noncomputable def zxR(i:Nat)(f:Fe)(ρ:Env)(S:Sto):Option (Option (Bool×D))->Fo|some (some (true,.lst l))=>zqT i ρ l (f ρ S)|_=>.bad
def zqQ(i:Nat)(ρ:Env)(l:List D):Out D->Fo
 |.ok (.lst k) S'=>if zau (l.length+k.length)then .nx (ρ.set i (some (true,.lst (l++k)))) S' else .bad
 |.ok _ _=>.bad|.exc c S'=>.ex c ρ S'|.bad=>.bad
noncomputable def zxM(i:Nat)(f:Fe)(ρ:Env)(S:Sto):Option (Option (Bool×D))->Fo|some (some (true,.lst l))=>zqQ i ρ l (f ρ S)|_=>.bad
noncomputable def zqP(i j:Nat)(J I:Bool)(d1:D)(ρ:Env):Out D->Fo|.ok U S2=>.nx ((ρ.set i (some (J,d1))).set j (some (I,U))) S2|.exc c S'=>.ex c ρ S'|.bad=>.bad
noncomputable def zxH(i j:Nat)(J I:Bool)(g:Fe)(ρ:Env):Out D->Fo|.ok U S1=>zqP i j J I U ρ (g ρ S1)|.exc c S'=>.ex c ρ S'|.bad=>.bad
noncomputable def zxK(t:Tg)(a:Fs)(ρ:Env):Out (List D)->Fo|.ok ds S'=>zgn t a ds ρ S'|.exc c S'=>.ex c ρ S'|.bad=>.bad
noncomputable def zxF(S:Sto):Option (Option (Bool×D))->Out D|some (some (false,d))=>.ok d S|_=>.bad
noncomputable def zxP(S:Sto):Option (Option (Bool×D))->Out D|some (some (_,d))=>.ok d S|_=>.bad
def kUn(u:D->Option D):Out D->Out D|.ok a S=>Out.of (u a) S|.exc c S=>.exc c S|.bad=>.bad
def znO(u:D->D->Option D)(a:D):Out D->Out D|.ok b S=>Out.of (u a b) S|.exc c S=>.exc c S|.bad=>.bad
noncomputable def zxQ(u:D->D->Option D)(g:Fe)(ρ:Env):Out D->Out D|.ok a S=>znO u a (g ρ S)|.exc c S=>.exc c S|.bad=>.bad
def kIf(f g:Fe)(ρ:Env):Out D->Out D|.ok d S1=>(match isB d with|some true=>f ρ S1|some false=>g ρ S1|none=>.bad)|.exc c S=>.exc c S|.bad=>.bad
def zvX(g:Fe)(ρ:Env):Out D->Out D|.ok d S1=>(match isB d with|some true=>g ρ S1|some false=>.ok (.bl false) S1|none=>.bad)|.exc c S=>.exc c S|.bad=>.bad
def kOr(g:Fe)(ρ:Env):Out D->Out D|.ok d S1=>(match isB d with|some true=>.ok (.bl true) S1|some false=>g ρ S1|none=>.bad)|.exc c S=>.exc c S|.bad=>.bad
noncomputable def zjj(d:D):Out (List D)->Out (List D)|.ok ds S=>.ok (d::ds) S|.exc c S=>.exc c S|.bad=>.bad
def zqR(fs:List Fe)(ρ:Env):Out D->Out (List D)|.ok d S=>zjj d (zap fs ρ S)|.exc c S=>.exc c S|.bad=>.bad
def zxG:Out (List D)->Out D|.ok ds S=>if zau ds.length then .ok (.tup ds) S else .bad|.exc c S=>.exc c S|.bad=>.bad
def zxI:Out (List D)->Out D|.ok ds S=>if zau ds.length then .ok (.lst ds) S else .bad|.exc c S=>.exc c S|.bad=>.bad
def ztC(u:List D->Option D):Out (List D)->Out D|.ok ds S=>Out.of (u ds) S|.exc c S=>.exc c S|.bad=>.bad
noncomputable def kFn(r:List D->Sto->Out D):Out (List D)->Out D|.ok ds S=>r ds S|.exc c S=>.exc c S|.bad=>.bad
def zeY(v:D->D->Option D)(b:D):Out D->Out D|.ok c S=>Out.of (v b c) S|.exc c S=>.exc c S|.bad=>.bad
def zeX(v:D->D->Option D)(h:Fe)(ρ:Env)(b:D)(S:Sto):Option D->Out D|some d=>(match isB d with|some true=>zeY v b (h ρ S)|some false=>.ok (.bl false) S|none=>.bad)|none=>.bad
noncomputable def zgg(u v:D->D->Option D)(h:Fe)(ρ:Env)(a:D):Out D->Out D|.ok b S=>zeX v h ρ b S (u a b)|.exc c S=>.exc c S|.bad=>.bad
noncomputable def zoX(u v:D->D->Option D)(g h:Fe)(ρ:Env):Out D->Out D|.ok a S=>zgg u v h ρ a (g ρ S)|.exc c S=>.exc c S|.bad=>.bad
noncomputable def zxJ:Out D->Out (Option Int)|.ok (.int i) S=>.ok (some i) S|.ok _ _=>.bad|.exc c S=>.exc c S|.bad=>.bad
def zuC(d:D)(l:Option Int):Out (Option Int)->Out D|.ok u S=>Out.of (slD d l u) S|.exc c S=>.exc c S|.bad=>.bad
def zuD(d:D)(u:Option Fe)(ρ:Env):Out (Option Int)->Out D|.ok l S=>zuC d l (zcT u ρ S)|.exc c S=>.exc c S|.bad=>.bad
def kSl(l u:Option Fe)(ρ:Env):Out D->Out D|.ok d S=>zuD d u ρ (zcT l ρ S)|.exc c S=>.exc c S|.bad=>.bad
def zji:Out D->Out (List D)|.ok (.str x) S=>.ok (zhQ x) S|.ok (.lst l) S=>.ok l S|.ok (.tup l) S=>.ok l S|.ok _ _=>.bad|.exc c S=>.exc c S|.bad=>.bad
def zxE:Out (List D)->Out (List D)|.ok ds S1=>(match ds with|[.tup l,.tup k]=>.ok (zgB l k) S1|_=>.bad)|.exc c S=>.exc c S|.bad=>.bad
def ztw:Out (List D)->Out (List D)|.ok ds S1=>(match ds with|[.int j]=>if -1000000<=j/\j<=1000000 then .ok (zbv 0 j) S1 else .bad|_=>.bad)|.exc c S=>.exc c S|.bad=>.bad
def zlP:Out (List D)->Out D|.ok ys S2=>if zau ys.length then .ok (.lst ys) S2 else .bad|_=>.bad
def zqS(tg:Tg)(c elt:Fe)(aw:Env):Out (List D)->Out D|.ok ds S1=>zlP (za5 tg c elt aw ds S1)|.exc c S=>.exc c S|.bad=>.bad
noncomputable def zxO:Option (Option (Bool×D))->Option (Bool×D)|some (some (false,d))=>some (false,d)|_=>none
noncomputable def zvV(ρ:Env)(i:Nat):Option (Option (Bool×D))->Env|some (some (true,d))=>ρ.set i (some (false,d))|_=>ρ
noncomputable def zuE(own:Bool):Fo->Out D|.rt d S'=>.ok d S'|.nx _ S'=>if own then .bad else .ok .non S'|.ex c _ S'=>.exc c S'|_=>.bad
def kRz(c:Str)(ρ:Env):Out (List D)->Fo|.ok ds S'=>if zau ds.length then .ex c ρ S' else .bad|.exc x S'=>.ex x ρ S'|.bad=>.bad
section
variable{ρ:Env}{S:Sto}{f g h k c:Fe}{a b:Fs}
@[simp] def zwz:zag a b ρ S=(a ρ S).seq b:=by
 show(match a ρ S with|.nx c S'=>b c S'|o=>o)=_
 cases a ρ S<;>rfl
@[simp] def zxc:(Fo.nx ρ S).seq b=b ρ S:=(rfl)
@[simp] def zxb:(Fo.rt d S).seq b=.rt d S:=(rfl)
@[simp] def zxa:(Fo.ex x ρ S).seq b=.ex x ρ S:=(rfl)
@[simp] def zuV:zn5 ρ S=.ok (.dic []) S:=(rfl)
def zsv{i:Nat}{fk fe:Fe}{ds:List (D×D)}{d:D}{x:Str}{S1 S2:Sto}(h:ρ[i]?=some (some (true,.dic ds)))(ho:zal ds=true)(I:ds.length<=100000)(he:fe ρ S=.ok d S1)(hk:fk ρ S1=.ok (.str x) S2):zes i fk fe ρ S=.nx (ρ.set i (some (true,.dic (putS x d ds)))) S2:=by
 unfold zes zfl;rw[h];dsimp only;rw[ho,show zau ds.length=true from yap I]
 show(match fe ρ S with
  |.ok d S1=>(match fk ρ S1 with
   |.ok k S2=>(match k with
    |.str x=>Fo.nx (ρ.set i (some (true,.dic (putS x d ds)))) S2|_=>.bad)
   |.exc c S2=>.ex c ρ S2|.bad=>.bad)
  |.exc c S1=>.ex c ρ S1|.bad=>.bad)=_
 rw[he];dsimp only;rw[hk]
@[simp] def zx6:sFz is a ρ S=a (frz is ρ) S:=(rfl)
@[simp] def zwN:frz [] ρ=ρ:=(rfl)
@[simp] def zwM:frz (i::is) ρ=frz is (frz1 ρ i):=(rfl)
@[simp] def zye(i:Nat):frz1 ρ i=zvV ρ i ρ[i]?:=(rfl)
@[simp] def zxs:zvV ρ i (some (some (true,d)))=ρ.set i (some (false,d)):=(rfl)
@[simp] def zxr:zvV ρ i (some (some (false,d)))=ρ:=(rfl)
@[simp] def zx4:sNx ρ S=.nx ρ S:=(rfl)
@[simp] def zwF:zbO i o f ρ S=zvW i o ρ (f ρ S):=(rfl)
@[simp] def zxA:zvW i o ρ (.ok d S)=.nx (ρ.set i (some (o,d))) S:=(rfl)
@[simp] def zxz:zvW i o ρ (.exc x S)=.ex x ρ S:=(rfl)
@[simp] def zwE:zk2 f ρ S=zxN ρ (f ρ S):=(rfl)
@[simp] def zxu:zxN ρ (.ok d S)=.nx ρ S:=(rfl)
@[simp] def zwA:zbd f ρ S=zvT ρ (f ρ S):=(rfl)
@[simp] def zxj:zvT ρ (.ok d S)=.rt d S:=(rfl)
@[simp] def zxi:zvT ρ (.exc x S)=.ex x ρ S:=(rfl)
@[simp] def zuN:zjM i ρ S=ztx S ρ[i]?:=(rfl)
@[simp] def zxh:ztx S (some (some (true,d)))=.rt d S:=(rfl)
@[simp] def zx5:sIf c a b ρ S=zvU a b ρ (c ρ S):=(rfl)
@[simp] def zxn:zvU a b ρ (.ok (.bl true) S)=a ρ S:=(rfl)
@[simp] def zxm:zvU a b ρ (.ok (.bl false) S)=b ρ S:=(rfl)
@[simp] def zwG:zkm i f ρ S=zxR i f ρ S ρ[i]?:=(rfl)
@[simp] def zzu:zxR i f ρ S (some (some (true,.lst l)))=zqT i ρ l (f ρ S):=(rfl)
@[simp] def zxB:zqT i ρ l (.ok d S)=if zau l.length then .nx (ρ.set i (some (true,.lst (l++[d])))) S else .bad:=(rfl)
@[simp] def zwD{i:Nat}:zk1 i f ρ S=zxM i f ρ S ρ[i]?:=(rfl)
@[simp] def zzm:zxM i f ρ S (some (some (true,.lst l)))=zqQ i ρ l (f ρ S):=(rfl)
@[simp] def zxt{l k:List D}:zqQ i ρ l (.ok (.lst k) S)=if zau (l.length+k.length)then .nx (ρ.set i (some (true,.lst (l++k)))) S else .bad:=(rfl)
@[simp] def zwB:zoD i j J f I g ρ S=zxH i j J I g ρ (f ρ S):=(rfl)
@[simp] def zy7:zxH i j J I g ρ (.ok d S)=zqP i j J I d ρ (g ρ S):=(rfl)
@[simp] def zxk:zqP i j J I d ρ (.ok e S)=.nx ((ρ.set i (some (J,d))).set j (some (I,e))) S:=(rfl)
@[simp] def zwC:zkl t it a ρ S=zxK t a ρ (it ρ S):=(rfl)
@[simp] def zzi:zxK t a ρ (.ok ds S)=zgn t a ds ρ S:=(rfl)
@[simp] def zx3:sRz x fs ρ S=kRz x ρ (zap fs ρ S):=(rfl)
@[simp] def zz0:kRz x ρ (.ok ds S)=if zau ds.length then .ex x ρ S else .bad:=(rfl)
@[simp] def zrC:zad i ρ S=zxF S ρ[i]?:=(rfl)
@[simp] def zyY:zxF S (some (some (false,d)))=.ok d S:=(rfl)
@[simp] def zwT:zac i ρ S=zxP S ρ[i]?:=(rfl)
@[simp] def zzt:zxP S (some (some (o,d)))=.ok d S:=(rfl)
@[simp] def zwS:zaa d ρ S=.ok d S:=(rfl)
@[simp] def zyg:eUn u f ρ S=kUn u (f ρ S):=by
 unfold eUn;cases f ρ S<;>rfl
@[simp] def zyZ:kUn u (.ok d S)=Out.of (u d) S:=(rfl)
@[simp] def zwU:zaf u f g ρ S=zxQ u g ρ (f ρ S):=by
 unfold zaf
 cases f ρ S with
 |ok a S1=>show((g ρ S1).bind fun b S2=>Out.of (u a b) S2)=znO u a (g ρ S1);cases g ρ S1<;>rfl|exc c S=>rfl|bad=>rfl
@[simp] def zxy:zxQ u g ρ (.ok d S)=znO u d (g ρ S):=(rfl)
@[simp] def zxx:znO u d (.ok e S)=Out.of (u d e) S:=(rfl)
@[simp] def zyl:eIf c f g ρ S=kIf f g ρ (c ρ S):=by
 unfold eIf;cases c ρ S<;>rfl
@[simp] def zzh:kIf f g ρ (.ok (.bl true) S)=f ρ S:=(rfl)
@[simp] def zzg:kIf f g ρ (.ok (.bl false) S)=g ρ S:=(rfl)
@[simp] def zwV:zhK f g ρ S=zvX g ρ (f ρ S):=by
 unfold zhK;cases f ρ S<;>rfl
@[simp] def zxD:zvX g ρ (.ok (.bl true) S)=g ρ S:=(rfl)
@[simp] def zxC:zvX g ρ (.ok (.bl false) S)=.ok (.bl false) S:=(rfl)
@[simp] def zyj:eOr f g ρ S=kOr g ρ (f ρ S):=by
 unfold eOr;cases f ρ S<;>rfl
@[simp] def zy9:kOr g ρ (.ok (.bl true) S)=.ok (.bl true) S:=(rfl)
@[simp] def zy8:kOr g ρ (.ok (.bl false) S)=g ρ S:=(rfl)
@[simp] def zuR:zap [] ρ S=.ok [] S:=(rfl)
@[simp] def zuS:zap (f::fs) ρ S=zqR fs ρ (f ρ S):=by
 show((f ρ S).bind fun d S1=>(zap fs ρ S1).bind fun ds S2=>.ok (d::ds) S2)=_
 cases f ρ S with
 |ok a S1=>show((zap fs ρ S1).bind fun ds S2=>.ok (a::ds) S2)=zjj a (zap fs ρ S1);cases zap fs ρ S1<;>rfl|exc c S=>rfl|bad=>rfl
@[simp] def zvQ:zqR fs ρ (.ok d S)=zjj d (zap fs ρ S):=(rfl)
@[simp] def zvP:zqR fs ρ (.exc x S)=.exc x S:=(rfl)
@[simp] def zvO:zjj d (.ok ds S)=.ok (d::ds) S:=(rfl)
@[simp] def zwP:zmh fs ρ S=zxG (zap fs ρ S):=by
 unfold zmh;cases zap fs ρ S<;>rfl
@[simp] def zy0:zxG (.ok ds S)=if zau ds.length then .ok (.tup ds) S else .bad:=(rfl)
@[simp] def zwQ:zev fs ρ S=zxI (zap fs ρ S):=by
 unfold zev;cases zap fs ρ S<;>rfl
@[simp] def zzb:zxI (.ok ds S)=if zau ds.length then .ok (.lst ds) S else .bad:=(rfl)
@[simp] def zuX:zaF u fs ρ S=ztC u (zap fs ρ S):=by
 unfold zaF;cases zap fs ρ S<;>rfl
@[simp] def zvS:ztC u (.ok ds S)=Out.of (u ds) S:=(rfl)
@[simp] def zym:eFn r fs ρ S=kFn r (zap fs ρ S):=by
 unfold eFn;cases zap fs ρ S<;>rfl
@[simp] def zzk:kFn r (.ok ds S)=r ds S:=(rfl)
@[simp] def zzj:kFn r (.exc x S)=.exc x S:=(rfl)
@[simp] def zuw:zcC u v f g h ρ S=zoX u v g h ρ (f ρ S):=by
 show((f ρ S).bind fun a S1=>(g ρ S1).bind fun b S2=>match(u a b).bind isB with
  |some true=>(h ρ S2).bind fun c e=>Out.of (v b c) e|some false=>.ok (.bl false) S2|none=>.bad)=_
 cases f ρ S with
 |ok a S1=>
  show((g ρ S1).bind fun b S2=>match(u a b).bind isB with
   |some true=>(h ρ S2).bind fun c e=>Out.of (v b c) e|some false=>.ok (.bl false) S2|none=>.bad)=zgg u v h ρ a (g ρ S1)
  cases g ρ S1 with
  |ok b S2=>
   show(match(u a b).bind isB with
    |some true=>(h ρ S2).bind fun c e=>Out.of (v b c) e|some false=>.ok (.bl false) S2|none=>.bad)=zeX v h ρ b S2 (u a b)
   cases i:u a b with
   |none=>rfl|some d=>
    show(match isB d with
     |some true=>(h ρ S2).bind fun c e=>Out.of (v b c) e|some false=>.ok (.bl false) S2|none=>.bad)=(match isB d with|some true=>zeY v b (h ρ S2)|some false=>.ok (.bl false) S2|none=>.bad)
    cases hb:isB d with
    |none=>rfl|some x=>cases x with
     |true=>show((h ρ S2).bind fun c e=>Out.of (v b c) e)=zeY v b (h ρ S2);cases h ρ S2<;>rfl|false=>rfl
  |exc c S=>rfl|bad=>rfl
 |exc c S=>rfl|bad=>rfl
@[simp] def zzr:zoX u v g h ρ (.ok d S)=zgg u v h ρ d (g ρ S):=(rfl)
@[simp] def zzq:zgg u v h ρ d (.ok e S)=zeX v h ρ e S (u d e):=(rfl)
@[simp] def zzp:zeX v h ρ e S (some (.bl true))=zeY v e (h ρ S):=(rfl)
@[simp] def zzo:zeX v h ρ e S (some (.bl false))=.ok (.bl false) S:=(rfl)
@[simp] def zzn:zeY v e (.ok d S)=Out.of (v e d) S:=(rfl)
@[simp] def zuv:zcT none ρ S=.ok none S:=(rfl)
@[simp] def zuu:zcT (some f) ρ S=zxJ (f ρ S):=by
 show((f ρ S).bind fun d S1=>match d with|.int i=>.ok (some i) S1|_=>.bad)=_
 cases f ρ S with
 |ok d S'=>cases d<;>rfl|exc c S'=>rfl|bad=>rfl
@[simp] def zzf:zxJ (.ok (.int i) S)=.ok (some i) S:=(rfl)
@[simp] def zyi:eSl f l u ρ S=kSl l u ρ (f ρ S):=by
 unfold eSl
 cases f ρ S with
 |ok d S1=>
  show((zcT l ρ S1).bind fun l S2=>(zcT u ρ S2).bind fun u a=>Out.of (slD d l u) a)=zuD d u ρ (zcT l ρ S1)
  cases zcT l ρ S1 with
  |ok l S2=>show((zcT u ρ S2).bind fun u a=>Out.of (slD d l u) a)=zuC d l (zcT u ρ S2);cases zcT u ρ S2<;>rfl|exc c S=>rfl|bad=>rfl
 |exc c S=>rfl|bad=>rfl
@[simp] def zzZ:kSl l u ρ (.ok d S)=zuD d u ρ (zcT l ρ S):=(rfl)
@[simp] def zy4:zuD d u ρ (.ok l S)=zuC d l (zcT u ρ S):=(rfl)
@[simp] def zy3:zuC d l (.ok u S)=Out.of (slD d l u) S:=(rfl)
@[simp] def zuQ:zaG f ρ S=zji (f ρ S):=by
 show((f ρ S).bind fun d S1=>match d with|.str x=>.ok (zhQ x) S1|.lst l=>.ok l S1|.tup l=>.ok l S1|_=>.bad)=_
 cases f ρ S with
 |ok d S'=>cases d<;>rfl|exc c S'=>rfl|bad=>rfl
@[simp] def zzc{x:Str}:zji (.ok (.str x) S)=.ok (zhQ x) S:=(rfl)
@[simp] def zze:zji (.ok (.lst l) S)=.ok l S:=(rfl)
@[simp] def zzd:zji (.ok (.tup l) S)=.ok l S:=(rfl)
@[simp] def zx0:zry f g ρ S=zxE (zap [f,g] ρ S):=by
 unfold zry;cases zap [f,g] ρ S<;>rfl
@[simp] def zw9{l k:List D}:zxE (.ok [.tup l,.tup k] S)=.ok (zgB l k) S:=(rfl)
@[simp] def zwH:zeu f ρ S=ztw (zap [f] ρ S):=by
 unfold zeu;cases zap [f] ρ S<;>rfl
@[simp] def zxg:ztw (.ok [.int j] S)=if -1000000<=j/\j<=1000000 then .ok (zbv 0 j) S else .bad:=(rfl)
@[simp] def zwW:zbS n t it c f caps ρ S=zqS t c f (zbT n caps ρ) (it ρ S):=by
 unfold zbS
 cases it ρ S with
 |ok ds S'=>
  simp only[Out.bind,zqS]
  cases za5 t c f (zbT n caps ρ) ds S'<;>rfl
 |exc c S'=>rfl|bad=>rfl
@[simp] def zxw:zqS t c f aw (.ok ds S)=zlP (za5 t c f aw ds S):=(rfl)
@[simp] def zvR:zlP (.ok ys S)=if zau ys.length then .ok (.lst ys) S else .bad:=(rfl)
@[simp] def zrD:zbT n caps ρ=List.replicate n none++caps.map (zmw ρ):=(rfl)
@[simp] def zwX:zmw ρ i=zxO ρ[i]?:=(rfl)
@[simp] def zzs:zxO (some (some (false,d)))=some (false,d):=(rfl)
def zai:zbh n own fs ds S=zuE own (fs (ds.map (fun d=>some (false,d))++List.replicate (n-ds.length) none) S):=(rfl)
@[simp] def zxf:zuE own (.rt d S)=.ok d S:=(rfl)
@[simp] def zxe:zuE false (.nx ρ S)=.ok .non S:=(rfl)
@[simp] def zxd:zuE own (.ex x ρ S)=.exc x S:=(rfl)
@[simp] def zyd{b:Bool}:isB (.bl b)=some b:=(rfl)
@[simp] def zw0:za0 (.int i) (.int j)=some (.int (i+j)):=(rfl)
@[simp] def zwY:za0 (.tup x) (.tup y)=if zau (x.length+y.length)then some (.tup (x++y))else none:=(rfl)
@[simp] def zwZ:za0 (.lst x) (.lst y)=if zau (x.length+y.length)then some (.lst (x++y))else none:=(rfl)
@[simp] def zx8:zja (.int i) (.int j)=if zbV i||zbV j then some (.int (i*j))else none:=(rfl)
@[simp] def zx9:zj0 (.int i) (.int j)=if 0<j then some (.int (i % j))else none:=(rfl)
@[simp] def zyn:zo7 (.int i) (.int j)=if 0<j/\j<1073741824 then some (.int (i / j))else none:=(rfl)
@[simp] def zzW:ltD (.int i) (.int j)=some (.bl (decide (i<j))):=(rfl)
@[simp] def zzX:leD (.int i) (.int j)=some (.bl (decide (i<=j))):=(rfl)
@[simp] def zzY:gtD (.int i) (.int j)=some (.bl (decide (j<i))):=(rfl)
@[simp] def zyc:ixD (.lst l) (.int i)=atI l i:=(rfl)
@[simp] def zya:ixD (.tup l) (.int i)=atI l i:=(rfl)
@[simp] def zyb:ixD (.scr l) (.int i)=(atI l i).map D.int:=(rfl)
@[simp] def zwK:zen [.lst l]=some (.int l.length):=(rfl)
@[simp] def zwI:zen [.tup l]=some (.int l.length):=(rfl)
@[simp] def zwJ:zen [.scr l]=some (.int l.length):=(rfl)
@[simp] def zwx:zcv [.lst l]=some (.tup l):=(rfl)
@[simp] def zx2:slD (.lst l) x y=some (.lst (zhL l x y)):=(rfl)
@[simp] def zuM:zau n=decide (n<=100000):=(rfl)
def zax{α:Type}(xs:List α)(j:Nat):atI xs (j:Int)=xs[j]?:=by
 unfold atI ixN
 by_cases h:j<xs.length
 ·simp[h]
 ·simp[h]
@[simp] def zuL{α:Type}(xs:List α):atI xs 0=xs[0]?:=zax xs 0
@[simp] def zwr{α:Type}(xs:List α):atI xs 1=xs[1]?:=zax xs 1
def zjC{α:Type}{xs:List α}(h:0<=i):atI xs i=xs[i.toNat]?:=by
 obtain⟨n,rfl⟩:=ybs h;exact zax xs n
end
theorem zez(Iv:Nat->Env->Prop)(step:∀k d ρ,ds[k]?=some d->Iv k ρ->∃U J,tg.put ρ d=some U/\body U S=.nx J S/\Iv (k+1) J)(h0:Iv 0 ρ):∃I,zgn tg body ds ρ S=.nx I S/\Iv ds.length I:=by
 have go:∀(n:Nat) (es:List D) (k:Nat) (ρ:Env),es.length=n->ds.drop k=es->k+n=ds.length->Iv k ρ->∃I,zgn tg body es ρ S=.nx I S/\Iv ds.length I:=by
  intro n
  induction n with
  |zero=>
   intro es k ρ a he hk hi;obtain rfl:es=[]:=ya9 a;exact⟨ρ,rfl,by rw[show ds.length=k by omega];exact hi⟩
  |succ n c=>
   intro es k ρ a he hk hi
   cases es with
   |nil=>cases a|cons d es=>
    have hd:ds[k]?=some d:=by
     have:=congrArg (fun l=>l[0]?) he;rw[ybE]at this;simpa using this
    obtain⟨U,J,g,e2,b⟩:=step k d ρ hd hi;obtain⟨I,f,e⟩:=c es (k+1) J (by simpa using a) (by rw[<-List.drop_drop,he];rfl) (by omega) b;refine⟨I,?_,e⟩;unfold zgn;rw[g];dsimp only;rw[e2];exact f
 exact go ds.length ds 0 ρ rfl (by simp) (by omega) h0
theorem zhv:∀{ds:List D},(∀d∈ds,∃I,tg.put aw d=some I/\c I S=.ok (.bl (p d)) S/\(p d=true->elt I S=.ok (g d) S))->za5 tg c elt aw ds S=.ok ((ds.filter p).map g) S
 |[],_=>rfl|d::ds,h=>by
  obtain⟨I,i,e2,f⟩:=h d yao;have b:=zhv (ds:=ds) fun x e=>h x (yaj _ e)
  unfold za5;rw[i];dsimp only;rw[e2]
  cases a:p d with
  |true=>simp[f a,b,a]|false=>simp[b,a]
def zaB(h:∀d∈ds,∃I,tg.put aw d=some I/\elt I S=.ok (g d) S):za5 tg zct elt aw ds S=.ok (ds.map g) S:=by
 have:=zhv (c:=zct) (p:=fun _=>true) (tg:=tg) (elt:=elt) (aw:=aw) (S:=S) (g:=g) (ds:=ds) fun d hd=>by
  obtain⟨I,a,e2⟩:=h d hd;exact⟨I,a,rfl,fun _=>e2⟩
 rw[this,List.filter_eq_self.mpr (fun _ _=>rfl)]
mutual
noncomputable def D.pl:D->Bool
 |.non=>true|.int _=>true|.str _=>true|.tup l=>D.pls l|.lst l=>D.pls l|_=>false
noncomputable def D.pls:List D->Bool
 |[]=>true|d::l=>d.pl&&D.pls l
end
theorem D.pls_iff:∀{l:List D},D.pls l=true↔∀d∈l,d.pl=true
 |[]=>by simp[D.pls]
 |d::l=>by simp[D.pls,D.pls_iff (l:=l)]
mutual
theorem zjs:∀(d e:D),d.pl=true->e.pl=true->(d.py.eqv e.py=true↔d=e)
 |.non,e,_,h=>by cases e<;>simp[D.py,PyData.eqv,D.pl]at h ⊢
 |.int i,e,_,h=>by cases e<;>simp[D.py,PyData.eqv,D.pl]at h ⊢
 |.str x,e,_,h=>by cases e<;>simp[D.py,PyData.eqv,D.pl]at h ⊢
 |.tup l,e,hd,h=>by
  cases e with
  |tup k=>
   simp only[D.py,PyData.eqv,D.pl]at hd h ⊢;rw[zig l k hd h];simp
  |_=>simp[D.py,PyData.eqv,D.pl]at h ⊢
 |.lst l,e,hd,h=>by
  cases e with
  |lst k=>
   simp only[D.py,PyData.eqv,D.pl]at hd h ⊢;rw[zig l k hd h];simp
  |_=>simp[D.py,PyData.eqv,D.pl]at h ⊢
 |.bl _,_,hd,_=>by simp[D.pl]at hd
 |.dic _,_,hd,_=>by simp[D.pl]at hd
 |.ref _,_,hd,_=>by simp[D.pl]at hd
 |.exc _,_,hd,_=>by simp[D.pl]at hd
 |.scr _,_,hd,_=>by simp[D.pl]at hd
theorem zig:∀(l k:List D),D.pls l=true->D.pls k=true->(PyData.eqvAll (D.pys l) (D.pys k)=true↔l=k)
 |[],[],_,_=>by simp[D.pys,PyData.eqvAll]
 |[],_::_,_,_=>by simp[D.pys,PyData.eqvAll]
 |_::_,[],_,_=>by simp[D.pys,PyData.eqvAll]
 |d::l,e::k,h1,h2=>by
  simp only[D.pls,yaa]at h1 h2;simp only[D.pys,PyData.eqvAll,yaa,List.cons.injEq];rw[zjs d e h1.1 h2.1,zig l k h1.2 h2.2]
end
@[simp] def zra:D.fit n (.int i)=true:=by cases n<;>rfl
@[simp] def zyf:eqD (.int i) (.int j)=some (.bl (decide (i=j))):=by
 unfold eqD zf6;simp[D.py,PyData.eqv]
 cases h:(i==j)<;>simp_all
@[simp] def zx7:neD (.int i) (.int j)=some (.bl (!decide (i=j))):=by
 unfold neD zf6;simp[D.py,PyData.eqv]
 cases h:(i==j)<;>simp_all
def zfI:eqD (.scr l) (.lst [])=some (.bl (decide (l=[]))):=by
 cases l with
 |nil=>rfl|cons a l=>simp[eqD,D.fit,D.fits,zf6,D.py,D.pys,PyData.eqv,PyData.eqvAll]
noncomputable def zgv(l:List Int)(k:Int):Int:=if k<l.length then l.getD k.toNat 0 else if l=[]then 0 else l.getD (k % l.length).toNat 0*31+k
def za1(l:List Int)(k:Int)(many:Int):Int:=
 let d:=(zgv l k+6151*(k+1))*40692 % 2147483399
 (d*d+d / 31) % 2147483629 % many
def zbs(l:List Int)(k:Int)(h:0<many):0<=za1 l k many/\za1 l k many<many:=⟨ybO _ (by omega),ybn _ h⟩
@[simp] def zxT:zbV 31=true:=by decide
@[simp] def zuJ:zbV 6151=true:=by decide
@[simp] def ztU:zbV 40692=true:=by decide
theorem ztT(h0:-(2 ^ 64)<i)(h:i<2 ^ 64):zbV i=true:=by unfold zbV;simp;omega
theorem zi1(hk:0<=k):zbr [.scr l,.int k] S=.ok (.int (zgv l k)) S:=by
 unfold zgv
 by_cases h:k<l.length
 ·have a:l[k.toNat]?=some l[k.toNat]:=yal (by omega);rw[if_pos h,ycd,a];simp[zbr,zai,zca,h,zjC hk,a]
 ·by_cases h0:l=[]
  ·subst h0;simp[zbr,zai,zca,zfI,show ¬ k<0 by omega]
  ·have d:0<l.length:=by cases l with|nil=>exact absurd rfl h0|cons _ _=>simp
   have b:0<=k % (l.length:Int):=ybO _ (by omega);have c:k % (l.length:Int)<l.length:=ybn _ (by omega);have a:l[(k % (l.length:Int)).toNat]?=some (l[(k % (l.length:Int)).toNat]'(by omega)):=yal (by omega);rw[if_neg h,if_neg h0,ycd,a];simp[zbr,zai,zca,h,h0,zfI,zjC b,a,d]
theorem zaU(hk:0<=k)(hm:0<many):zan [.scr l,.int k,.int many] S=.ok (.int (za1 l k many)) S:=by
 unfold za1;have h0:0<=(zgv l k+6151*(k+1))*40692 % 2147483399:=ybO _ (by omega);have h1:(zgv l k+6151*(k+1))*40692 % 2147483399<2147483399:=ybn _ (by omega);have hf:zbV ((zgv l k+6151*(k+1))*40692 % 2147483399)=true:=ztT (by omega) (by omega);simp[zan,zai,zdA,zi1 hk,hf,hm]
noncomputable def zaq(t:List Int):D:=.tup (t.map D.int)
def znS{t u:List Int}:t.map D.int=u.map D.int↔t=u:=by
 constructor
 ·intro h
  induction t generalizing u with
  |nil=>cases u with|nil=>rfl|cons _ _=>cases h
  |cons a t c=>cases u with
   |nil=>cases h|cons b u=>
    simp only[yar,List.cons.injEq,D.int.injEq]at h;rw[h.1,c h.2]
 ·rintro rfl;rfl
def zmN:zaq t=zaq u↔t=u:=by unfold zaq;rw[D.tup.injEq];exact znS
def znd{t:List Int}:D.pls (t.map D.int)=true:=by rw[D.pls_iff];intro d hd;obtain⟨i,_,rfl⟩:=yaf.mp hd;rfl
def zlk:(zaq t).pl=true:=znd
def zme{t:List Int}:D.fits n (t.map D.int)=true:=by rw[D.fits_iff];intro d hd;obtain⟨i,_,rfl⟩:=yaf.mp hd;exact zra
def zjr:(zaq t).fit (n+1)=true:=zme
theorem zoV:∀{l:List D},d.pl=true->D.pls l=true->(zlB d l=true↔d∈l)
 |[],_,_=>by simp[zlB]
 |e::l,h,a=>by
  simp only[D.pls,yaa]at a;have b:=zoV (d:=d) (l:=l) h a.2;have c:=zjs e d a.1 h;unfold zlB;simp only[ydh,ycu,yaq];unfold zlB at b;rw[b];unfold zf6;rw[c]
  constructor<;>(intro z;rcases z with z|z<;>simp[z])
def zg7{ts:Z2}:zqD (zaq t) (.lst (ts.map zaq))=some (.bl (!decide (t∈ts))):=by
 have f1:(zaq t).fit 8=true:=zjr
 have f2:D.fits 8 (ts.map zaq)=true:=by rw[D.fits_iff];intro d hd;obtain⟨i,_,rfl⟩:=yaf.mp hd;exact zjr
 have p2:D.pls (ts.map zaq)=true:=by rw[D.pls_iff];intro d hd;obtain⟨i,_,rfl⟩:=yaf.mp hd;exact zlk
 have m:=zoV (d:=zaq t) zlk p2
 have:(zaq t∈ts.map zaq)↔t∈ts:=by
  rw[yaf];constructor
  ·rintro⟨u,a,e⟩;rw[<-zmN.mp e];exact a
  ·intro h;exact⟨t,h,rfl⟩
 rw[this]at m;unfold zqD;simp only[f1,f2,Bool.and_self,yci,Option.some.injEq,D.bl.injEq];congr 1
 by_cases h:t∈ts
 ·rw[m.mpr h];simp[h]
 ·cases hm:zlB (zaq t) (ts.map zaq)
  ·simp[h]
  ·exact absurd (m.mp hm) h
structure Tiles(most:Int)(ts:Z2):Prop where
 ne:1<=ts.length
 le:(ts.length:Int)<=most
 four:∀t∈ts,t.length=4
 col:∀t∈ts,∀c∈t,0<=c/\c<3
 nd:ts.Nodup
def zcx{k:Nat}(h:(zbv 0 hi)[k]?=some d):d=.int k/\(k:Int)<hi:=by
 unfold zbv at h;rw[yaM]at h
 cases a:(List.range (hi-0).toNat)[k]? with
 |none=>rw[a]at h;cases h|some j=>
  rw[a]at h;obtain⟨h1,h2⟩:=yas.mp a;simp at h1 h2;subst h2;simp at h;exact⟨h.symm,by omega⟩
@[simp] def zdO:(zbv 0 hi).length=hi.toNat:=by unfold zbv;simp
def zsn:zbv 0 4=[.int 0,.int 1,.int 2,.int 3]:=by rfl
@[simp] def zzI:zbV 4=true:=by decide
@[simp] def zzH:zbV 7=true:=by decide
theorem zps(ha:0<=at')(hk:0<=k)(I:0<col)(U:col<=3)(hn:ts.length<=1000):
  ∃t J,t.length=4/\(∀c∈t,0<=c/\c<3)/\zbk [some (false,.scr l),some (false,.int at'),some (false,.int most),some (false,.int col),some (true,.lst (ts.map zaq)),some (false,.int k),y] S
   = .nx [some (false,.scr l),some (false,.int at'),some (false,.int most),some (false,.int col),some (true,.lst ((if t∈ts then ts else ts++[t]).map zaq)),some (false,.int k),J] S:=by
 have a:∀aw:Env,aw=[none,some (false,.int at'),some (false,.int col),some (false,.int k),some (false,.scr l)]->za5 (.one 0) zct (eFn zan [(zad 4),(zaf za0 (zaf za0 (zaf za0 (zac 1) (zaf zja (zaa (.int 4)) (zac 3))) (zaa (.int 2))) (zac 0)),(zad 2)]) aw (zbv 0 4) S
   = .ok ([za1 l (at'+4*k+2+0) col,za1 l (at'+4*k+2+1) col,za1 l (at'+4*k+2+2) col,za1 l (at'+4*k+2+3) col].map D.int) S:=by
  rintro _ rfl;rw[zsn,zaB (g:=fun d=>match d with|.int i=>.int (za1 l (at'+4*k+2+i) col)|_=>.non)]
  ·rfl
  ·intro d hd;simp only[yaq,ybS,or_false]at hd
   rcases hd with rfl|rfl|rfl|rfl<;>exact⟨_,rfl,by simp;rw[zaU (by omega) I]⟩
 have m:=zbs l (at'+4*k+2+0) I;have b1:=zbs l (at'+4*k+2+1) I;have b2:=zbs l (at'+4*k+2+2) I;have j:=zbs l (at'+4*k+2+3) I;generalize za1 l (at'+4*k+2+0) col=e at*;generalize za1 l (at'+4*k+2+1) col=b at*;generalize za1 l (at'+4*k+2+2) col=p2 at*;generalize za1 l (at'+4*k+2+3) col=p3 at*
 have fin:∀t:List Int,(zag (sFz [] (sIf (zaf zqD (zac 6) (zac 4)) (zag (sFz [6] (zkm 4 (zad 6))) sNx) sNx)) sNx) [some (false,.scr l),some (false,.int at'),some (false,.int most),some (false,.int col),some (true,.lst (ts.map zaq)),some (false,.int k),some (false,zaq t)] S
   = .nx [some (false,.scr l),some (false,.int at'),some (false,.int most),some (false,.int col),some (true,.lst ((if t∈ts then ts else ts++[t]).map zaq)),some (false,.int k),some (false,zaq t)] S:=by
  intro t
  by_cases h:t∈ts
  ·simp[zg7,h]
  ·simp[zg7,h,show ts.length<=100000 by omega]
 by_cases f:za1 l (at'+60+k) 3=0
 ·refine⟨[e,b,e,b],some (false,zaq [e,b,e,b]),rfl,by simp;omega,?_⟩;rw[<-fin];simp[zbk,a,zaU (show 0<=at'+60+k by omega) (show(0:Int)<3 by omega),f];rfl
 ·refine⟨[e,b,p2,p3],some (false,zaq [e,b,p2,p3]),rfl,by simp;omega,?_⟩;rw[<-fin];simp[zbk,a,zaU (show 0<=at'+60+k by omega) (show(0:Int)<3 by omega),f];rfl
theorem zk3(I:0<=at')(hm:0<most)(J:most<=100):∃ts,Tiles most ts/\zce [.scr l,.int at',.int most] S=.ok (.tup (ts.map zaq)) S:=by
 have b:=zbs l at' (many:=2) (by omega);have n:=zbs l (at'+1) hm;have p:=zaU (l:=l) (S:=S) I (show(0:Int)<2 by omega);have p2:=zaU (l:=l) (S:=S) (show 0<=at'+1 by omega) hm;generalize za1 l at' 2=c at*;generalize za1 l (at'+1) most=m at*
 obtain⟨o,e,ts,x,y,rfl,h1,h2,j,i,g⟩:=zez (tg:=.one 5) (body:=zbk) (ds:=zbv 0 (1+m)) (S:=S) (fun k ρ=>∃ts x y,ρ=[some (false,.scr l),some (false,.int at'),some (false,.int most),some (false,.int (2+c)),some (true,.lst (ts.map zaq)),x,y]/\ts.length<=k/\(0<k->1<=ts.length)/\(∀t∈ts,t.length=4)/\(∀t∈ts,∀c∈t,0<=c/\c<3)/\ts.Nodup) (by
   rintro k d ρ hd ⟨ts,x,y,rfl,h1,h2,j,i,g⟩;obtain⟨rfl,hk⟩:=zcx hd;obtain⟨t,r,a1,a2,q⟩:=zps (l:=l) (at':=at') (most:=most) (col:=2+c) (k:=k) (S:=S) (ts:=ts) (y:=y) I (by omega) (by omega) (by omega) (by omega);refine⟨_,_,rfl,q,_,_,_,rfl,?_,?_,?_,?_,?_⟩
   ·split<;>(try simp)<;>omega
   ·intro _;split
    ·rename_i h;exact List.length_pos_of_mem h
    ·simp
   ·intro u f;split at f
    ·exact j u f
    ·rw[yay,yaE]at f
     rcases f with f|rfl
     ·exact j u f
     ·exact a1
   ·intro u f;split at f
    ·exact i u f
    ·rw[yay,yaE]at f
     rcases f with f|rfl
     ·exact i u f
     ·exact a2
   ·split
    ·exact g
    ·rename_i h;rw[ybP];refine⟨g,by simp,?_⟩
     intro a I b hb;rw[yaE]at hb;subst hb;rintro rfl;exact h I)
  (ρ:=[some (false,.scr l),some (false,.int at'),some (false,.int most),some (false,.int (2+c)),some (true,.lst []),none,none]) ⟨[],none,none,rfl,by simp,by simp,by simp,by simp,by simp⟩
 rw[zdO]at h1 h2;refine⟨ts,⟨h2 (by omega),by omega,j,i,g⟩,?_⟩;simp[zce,zai,zc7,p,p2,show -1000000<=1+m/\1+m<=1000000 by omega,e]
noncomputable def oD:Option Int->D|none=>.non|some i=>.int i
noncomputable def zkn(c:Nat)(g:Nat->Option Int):List D:=(List.range c).map fun j=>oD (g j)
def zvr(c:Nat)(g:Nat->Option Int):D:=.tup (zkn c g)
noncomputable def znZ(r c:Nat)(g:Z1):List D:=(List.range r).map fun i=>zvr c (g i)
def flr(r c:Nat)(g:Z1):D:=.tup (znZ r c g)
@[simp] def zm3:(zkn c g).length=c:=by simp[zkn]
@[simp] def zuI:(znZ r c g).length=r:=by simp[znZ]
def zld:zkn (k+1) g=zkn k g++[oD (g k)]:=by simp[zkn,List.range_succ]
def zmd:znZ (k+1) c g=znZ k c g++[zvr c (g k)]:=by simp[znZ,List.range_succ]
def zlw(l:List Int)(at' n m:Int)(i j:Nat):Option Int:=if za1 l (at'+7*i+j) (n*m)<n then some (za1 l (at'+7*i+j) (n*m))else none
theorem zs7(h:0<n*m):∀x,zlw l at' n m i j=some x->0<=x/\x<n:=by
 intro x e;unfold zlw at e;have:=zbs l (at'+7*i+j) h;split at e
 ·cases e;omega
 ·cases e
theorem zn0{l:List Int}{at' m:Int}{ts:List D}{r c:Nat}{i:Nat}{S:Sto}{A B Mm:Option (Bool×D)}{y:Option (Bool×D)}{z:Option (Bool×D)}(ha:0<=at')(U:0<(ts.length:Int)*m)(hm:zbV m=true)(hc:c<=1000):
  ∃J I,zgn (.one 9) zbl (zbv 0 c) [some (false,.scr l),some (false,.int at'),some (false,.tup ts),A,B,some (false,.int m),Mm,some (false,.int i),some (true,.lst []),y,z] S
   = .nx [some (false,.scr l),some (false,.int at'),some (false,.tup ts),A,B,some (false,.int m),Mm,some (false,.int i),some (true,.lst (zkn c (zlw l at' ts.length m i))),J,I] S:=by
 obtain⟨a,e,J,I,rfl⟩:=zez (tg:=.one 9) (body:=zbl) (ds:=zbv 0 c) (S:=S) (fun k ρ=>∃y z,ρ=[some (false,.scr l),some (false,.int at'),some (false,.tup ts),A,B,some (false,.int m),Mm,some (false,.int i),some (true,.lst (zkn k (zlw l at' ts.length m i))),y,z]) (by
  rintro k d ρ hd ⟨y,z,rfl⟩;obtain⟨rfl,hk⟩:=zcx hd;have p:=zaU (l:=l) (S:=S) (show 0<=at'+7*(i:Int)+(k:Int)by omega) U;have pn:=zbs l (at'+7*(i:Int)+(k:Int)) U;refine⟨_,_,rfl,?_,some (false,.int k),some (false,.int (za1 l (at'+7*i+k) (ts.length*m))),rfl⟩
  ·rw[zld]
   by_cases h:za1 l (at'+7*(i:Int)+(k:Int)) (ts.length*m)<ts.length
   ·simp[zbl,p,hm,h,zlw,oD,show k<=100000 by omega]
   ·simp[zbl,p,hm,h,zlw,oD,show k<=100000 by omega])
  (ρ:=[some (false,.scr l),some (false,.int at'),some (false,.tup ts),A,B,some (false,.int m),Mm,some (false,.int i),some (true,.lst []),y,z]) ⟨y,z,rfl⟩
 exact⟨J,I,by simpa using e⟩
theorem zk8(ha:0<=at')(U:0<(ts.length:Int)*m)(hm:zbV m=true)(J:0<=r)(I:r<=1000)(hc:0<=c)(a3:c<=1000):
  zcf [.scr l,.int at',.tup ts,.int r,.int c,.int m] S=.ok (flr r.toNat c.toNat (zlw l at' ts.length m)) S:=by
 obtain⟨r,rfl⟩:=ybs J;obtain⟨c,rfl⟩:=ybs hc
 obtain⟨f,e,b,a,x3,x4,rfl⟩:=zez (tg:=.one 7) (body:=zcu) (ds:=zbv 0 r) (S:=S) (fun k ρ=>∃b a x3 x4,ρ=[some (false,.scr l),some (false,.int at'),some (false,.tup ts),some (false,.int r),some (false,.int c),some (false,.int m),some (true,.lst (znZ k c (zlw l at' ts.length m))),b,a,x3,x4]) (by
  rintro k d ρ hd ⟨b,a,x3,x4,rfl⟩;obtain⟨rfl,hk⟩:=zcx hd;obtain⟨h,g,e⟩:=zn0 (l:=l) (at':=at') (m:=m) (ts:=ts) (r:=r) (c:=c) (i:=k) (S:=S) (A:=some (false,.int r)) (B:=some (false,.int c)) (Mm:=some (true,.lst (znZ k c (zlw l at' ts.length m)))) (y:=x3) (z:=x4) ha U hm (by omega);refine⟨_,_,rfl,?_,some (false,.int k),some (true,.lst (zkn c (zlw l at' ts.length m k))),h,g,rfl⟩
  ·rw[zmd]
   simp[zcu,e,zvr,show -1000000<=(c:Int)/\(c:Int)<=1000000 by omega,show k<=100000 by omega])
  (ρ:=[some (false,.scr l),some (false,.int at'),some (false,.tup ts),some (false,.int r),some (false,.int c),some (false,.int m),some (true,.lst []),none,none,none,none]) ⟨none,none,none,none,rfl⟩
 simp at e;simp[zcf,zai,zc8,e,flr,show -1000000<=(r:Int)/\(r:Int)<=1000000 by omega]
end S2
namespace TX
open PySem
noncomputable abbrev L(x:Str):List Nat:=x.cps.toList
noncomputable abbrev T(l:List Nat):Str:=⟨l.toArray⟩
def zdp{a b:Str}(h:L a=L b):a=b:=Str.ext' (Array.toList_inj.mp h)
def L_T(l:List Nat):L (T l)=l:=List.toList_toArray
def TL(x:Str):T (L x)=x:=zdp (L_T _)
def zef(a b:Str):L (a++b)=L a++L b:=by show(a.cps++b.cps).toList=_;simp
def zbM(a:Str):(L a).length=a.length:=by show a.cps.toList.length=a.cps.size;simp
def zdP:("\n":Str)=⟨#[10]⟩:=by decide +kernel
def zpP:(" ":Str)=⟨#[32]⟩:=by decide +kernel
def zhn:("":Str)=⟨#[]⟩:=by decide +kernel
noncomputable def jn(c:Nat):List (List Nat)->List Nat
 |[]=>[]|[x]=>x|x::y::r=>x++c::jn c (y::r)
theorem ze0(c:Nat):∀ps:List Str,L (Str.join ⟨#[c]⟩ ps)=jn c (ps.map L)
 |[]=>rfl|[x]=>rfl|x::y::r=>by
  show L (x++⟨#[c]⟩++Str.join ⟨#[c]⟩ (y::r))=L x++c::jn c ((y::r).map L);rw[zef,zef,ze0 c (y::r)];show(L x++[c])++_=_;rw[ybc];rfl
theorem zgh:∀ps:List Str,L (Str.join ⟨#[]⟩ ps)=(ps.map L).flatten
 |[]=>rfl|[x]=>by simp[Str.join]
 |x::y::r=>by
  show L (x++⟨#[]⟩++Str.join ⟨#[]⟩ (y::r))=L x++((y::r).map L).flatten;rw[zef,zef,zgh (y::r)];show(L x++[])++_=_;rw[yaQ]
def zqV{c:Nat}{x:List Nat}{r:List (List Nat)}(h:r≠[]):jn c (x::r)=x++c::jn c r:=by
 cases r with
 |nil=>exact absurd rfl h|cons y r=>rfl
theorem zpa{c:Nat}:∀{a b x y:List Nat},c ∉ a->c ∉ b->a++c::x=b++c::y->a=b/\x=y
 |[],[],x,y,_,_,h=>⟨rfl,(List.cons.inj h).2⟩|[],b::bs,x,y,_,hb,h=>absurd (yaq.mpr (.inl (List.cons.inj h).1)) hb|a::as,[],x,y,d,_,h=>absurd (yaq.mpr (.inl (List.cons.inj h).1.symm)) d|a::as,b::bs,x,y,d,hb,h=>by
  obtain⟨h1,h2⟩:=List.cons.inj h;obtain⟨e,e2⟩:=zpa (fun z=>d (yaj _ z)) (fun z=>hb (yaj _ z)) h2;exact⟨by rw[h1,e],e2⟩
theorem zoZ{c:Nat}:∀{ps qs:List (List Nat)},ps≠[]->qs≠[]->(∀p∈ps,c ∉ p)->(∀p∈qs,c ∉ p)->jn c ps=jn c qs->ps=qs
 |[],_,h,_,_,_,_=>absurd rfl h|_,[],_,h,_,_,_=>absurd rfl h|[x],[y],_,_,_,_,h=>by rw[show x=y from h]
 |[x],y::z::r,_,_,h1,_,h=>by
  have h:x=y++c::jn c (z::r):=h;exact absurd (by rw[h];exact yay.mpr (.inr yao)) (h1 x yao)
 |y::z::r,[x],_,_,_,h1,h=>by
  have h:y++c::jn c (z::r)=x:=h;exact absurd (by rw[<-h];exact yay.mpr (.inr yao)) (h1 x yao)
 |x::y::r,d::b::e,_,_,h1,h2,h=>by
  obtain⟨f,e2⟩:=zpa (h1 x yao) (h2 d yao) (show x++c::jn c (y::r)=d++c::jn c (b::e)from h);rw[f,zoZ (ps:=y::r) (qs:=b::e) (ycQ _ _) (ycQ _ _) (fun p a=>h1 p (yaj _ a)) (fun p a=>h2 p (yaj _ a)) e2]
def zfX(x y:Str):Txt.split x y≠[]:=by
 unfold Txt.split;split
 ·exact fun z=>nomatch z
 ·split
  ·exact fun z=>nomatch z
  ·rw[StrLaws.partsBetween_eq];obtain⟨p,r,e⟩:=StrLaws.partsFrom_ne x y.length 0 (Builtin.Str.occurrences x y 0 x.length (x.length+1))
   rw[e];exact fun z=>nomatch z
def zcF(x:Str)(c:Nat):jn c ((Txt.split x ⟨#[c]⟩).map L)=L x:=by rw[<-ze0,StrLaws.join_split]
def zlD{ps qs:List Str}(h:ps.map L=qs.map L):ps=qs:=by
 have:=congrArg (List.map T) h;rw[yat,yat]at this;have e:(T∘L)=id:=funext TL
 rwa[e,ycF,ycF]at this
def zd1{c:Nat}{ps:List Str}(h:ps≠[])(J:∀p∈ps,c ∉ L p){x:Str}(I:L x=jn c (ps.map L)):Txt.split x ⟨#[c]⟩=ps:=by
 refine zlD (zoZ (c:=c) (fun z=>zfX x _ (ybb.mp z)) (fun z=>h (ybb.mp z)) (fun p b=>?_) (fun p b=>?_) (by rw[zcF,I]))
 ·obtain⟨q,a,rfl⟩:=yaf.mp b;exact StrLaws.split_free x c q a
 ·obtain⟨q,a,rfl⟩:=yaf.mp b;exact J q a
def zcw(x:Str)(c:Nat):(Txt.split x ⟨#[c]⟩).length<=x.length+1/\∀p∈Txt.split x ⟨#[c]⟩,p.length<=x.length:=by
 have key:∀ps:List (List Nat),ps.length<=(jn c ps).length+1/\∀p∈ps,p.length<=(jn c ps).length:=by
  intro ps
  induction ps with
  |nil=>exact⟨yaJ _,fun p b=>nomatch b⟩|cons a r d=>
   by_cases e:r=[]
   ·subst e;refine⟨?_,fun p b=>?_⟩
    ·show 1<=a.length+1;omega
    ·obtain rfl:=yaE.mp b;exact yai _
   ·rw[zqV e,yae,yad,yad];refine⟨by have:=d.1;omega,fun p b=>?_⟩
    rcases yaq.mp b with rfl|b
    ·omega
    ·have:=d.2 p b;omega
 obtain⟨k1,k2⟩:=key ((Txt.split x ⟨#[c]⟩).map L);rw[zcF,zbM,yab]at k1;refine⟨k1,fun p b=>?_⟩;have:=k2 _ (yaX b)
 rwa[zcF,zbM,zbM]at this
def zff(x:Str):Txt.endswith x ⟨#[10]⟩=true↔∃b,L x=b++[10]:=by
 unfold Txt.endswith;rw[yaa,StrLaws.subAt_eq,yaA];show(0+1<=x.length/\(((L x).drop (x.length-1)).take 1==[10])=true)↔_;rw[ybT,<-zbM];constructor
 ·rintro⟨h1,h2⟩;refine⟨(L x).take ((L x).length-1),?_⟩;have e:=List.take_append_drop ((L x).length-1) (L x);rw[ybX (by rw[ybp];omega)]at h2;rw[h2]at e;exact e.symm
 ·rintro⟨b,e⟩;rw[e,yae,ycJ];refine⟨by omega,?_⟩;rw[Nat.add_sub_cancel,List.drop_left];rfl
def zdd{x:Str}{b:List Nat}{c:Nat}(h:L x=b++[c]):Txt.slice x none (some (-1))=T b:=by
 have a:x.length=b.length+1:=by rw[<-zbM,h,yae];rfl
 have e:Txt.slice x none (some (-1))=_:=StrLaws.sliceText_to_neg (x:=x) (j:=-1) (by decide) (by omega);rw[e,show x.cps.toList=b++[c]from h,a,ycG,show(-1+((b.length+1:Nat):Int)-0).toNat=b.length by omega,List.take_left]
noncomputable def dI(i:Int):Str:=toString i
noncomputable abbrev dg(n:Nat):Str:=dI n
def zoa:∀n,n<9->dg n=⟨#[48+n]⟩:=by decide +kernel
def zml:∀n,n<16->10 ∉ L (dg n)/\32 ∉ L (dg n)/\(L (dg n)).length<=2/\L (dg n)≠[]:=by decide +kernel
def ztK(c:Nat):(!(Builtin.Str.occurrences ("012345678":Str) ⟨#[c]⟩ 0 ("012345678":Str).length 1).isEmpty)=decide (48<=c/\c<=56):=by
 rw[StrLaws.found_one]
 have e:("012345678":Str).cps.toList=[48,49,50,51,52,53,54,55,56]:=by decide +kernel
 rw[e]
 by_cases h:48<=c/\c<=56
 ·rw[yap h,yap]
  have:∀c,c<=56->48<=c->c∈[48,49,50,51,52,53,54,55,56]:=by decide
  exact this c h.2 h.1
 ·rw[yaz h,yaz];intro z;apply h;simp only[yaq,ybS,or_false]at z;omega
def zuk:∀c,c<=56->48<=c->(Builtin.Str.occurrences ("012345678":Str) ⟨#[c]⟩ 0 ("012345678":Str).length 1).head?=some (c-48):=by decide +kernel
end TX
namespace S2
open PySem TX
open L2 hiding D
def zuB(g:Str->D->Option D)(x:Str):Out D->Out D|.ok d S=>Out.of (g x d) S|.exc c S=>.exc c S|.bad=>.bad
noncomputable def kSm(g:Str->D->Option D)(f:Fe)(ρ:Env):Out D->Out D|.ok d S=>(match d with|.str x=>zuB g x (f ρ S)|_=>.bad)|.exc c S=>.exc c S|.bad=>.bad
def znM(ds:List (D×D))(k:D):Out D->Out D|.ok z S=>(match k with|.str x=>.ok ((zaj x ds).getD z) S|_=>.bad)|.exc c S=>.exc c S|.bad=>.bad
noncomputable def znN(f2:Fe)(ρ:Env)(ds:List (D×D)):Out D->Out D|.ok k S=>znM ds k (f2 ρ S)|.exc c S=>.exc c S|.bad=>.bad
def ztA(f f2:Fe)(ρ:Env):Out D->Out D|.ok d S=>(match d with|.dic ds=>if zal ds then znN f2 ρ ds (f ρ S)else .bad|_=>.bad)|.exc c S=>.exc c S|.bad=>.bad
noncomputable def ztB(k:Str):Out D->Out D|.ok d S=>.ok (.dic [(.str k,d)]) S|.exc c S=>.exc c S|.bad=>.bad
def zuF(i:Nat)(ρ:Env)(ds:List (D×D))(d:D):Out D->Fo|.ok k S=>(match k with|.str x=>.nx (ρ.set i (some (true,.dic (putS x d ds)))) S|_=>.bad)|.exc c S=>.ex c ρ S|.bad=>.bad
noncomputable def zty(i:Nat)(fk:Fe)(ρ:Env)(ds:List (D×D)):Out D->Fo|.ok d S=>zuF i ρ ds d (fk ρ S)|.exc c S=>.ex c ρ S|.bad=>.bad
noncomputable def kPX(i:Nat)(fk fe:Fe)(ρ:Env)(S:Sto):Option (List (D×D))->Fo|some ds=>zty i fk ρ ds (fe ρ S)|none=>.bad
section
variable{f f2 fo:Fe}{ρ:Env}{S:Sto}{g:Str->D->Option D}{x y:Str}{d z:D}{ds:List (D×D)}{i j:Nat}{a:Fs}
@[simp] def zyh:eSm g fo f ρ S=kSm g f ρ (fo ρ S):=by
 unfold eSm
 cases fo ρ S with
 |ok d S1=>
  cases d with
  |str x=>show(f ρ S1).bind _=zuB g x (f ρ S1);cases f ρ S1<;>rfl|_=>rfl
 |exc c S1=>rfl|bad=>rfl
@[simp] def zy2:kSm g f ρ (.ok (.str x) S)=zuB g x (f ρ S):=(rfl)
@[simp] def zy1:zuB g x (.ok d S)=Out.of (g x d) S:=(rfl)
@[simp] def zuU:zep fo f f2 ρ S=ztA f f2 ρ (fo ρ S):=by
 unfold zep
 cases fo ρ S with
 |ok d S1=>
  cases d with
  |dic ds=>
   show(if zal ds then _ else _)=(if zal ds then _ else _);split
   ·show(f ρ S1).bind _=znN f2 ρ ds (f ρ S1)
    cases f ρ S1 with
    |ok k S2=>show(f2 ρ S2).bind _=znM ds k (f2 ρ S2);cases f2 ρ S2<;>rfl|exc c S2=>rfl|bad=>rfl
   ·rfl
  |_=>rfl
 |exc c S1=>rfl|bad=>rfl
@[simp] def zxq:ztA f f2 ρ (.ok (.dic ds) S)=if zal ds then znN f2 ρ ds (f ρ S)else .bad:=(rfl)
@[simp] def zxp:znN f2 ρ ds (.ok d S)=znM ds d (f2 ρ S):=(rfl)
@[simp] def zxo:znM ds (.str x) (.ok z S)=.ok ((zaj x ds).getD z) S:=(rfl)
@[simp] def zuW:zj8 x f ρ S=ztB x (f ρ S):=by unfold zj8;cases f ρ S<;>rfl
@[simp] def zxv:ztB x (.ok d S)=.ok (.dic [(.str x,d)]) S:=(rfl)
def zku{fk fe:Fe}:zes i fk fe ρ S=kPX i fk fe ρ S (zfl i ρ):=by
 unfold zes
 cases zfl i ρ with
 |none=>rfl|some ds=>
  show _=zty i fk ρ ds (fe ρ S)
  cases fe ρ S with
  |ok d S1=>
   show _=zuF i ρ ds d (fk ρ S1);dsimp only
   cases fk ρ S1 with
   |ok k S2=>cases k<;>rfl|exc c S2=>rfl|bad=>rfl
  |exc c S1=>rfl|bad=>rfl
@[simp] def zz1:kPX i f f2 ρ S (some ds)=zty i f ρ ds (f2 ρ S):=(rfl)
@[simp] def zy6:zty i f ρ ds (.ok d S)=zuF i ρ ds d (f ρ S):=(rfl)
@[simp] def zy5:zuF i ρ ds d (.ok (.str x) S)=.nx (ρ.set i (some (true,.dic (putS x d ds)))) S:=(rfl)
@[simp] def zwO:zmf x (.str y)=some (.bl (Txt.endswith x y)):=(rfl)
@[simp] def zyo{x y:Str}:za0 (.str x) (.str y)=if zau (x.length+y.length)then some (.str (x++y))else none:=(rfl)
@[simp] def zx1{l u:Option Int}:slD (.str x) l u=if zau x.length then some (.str (Txt.slice x l u))else none:=(rfl)
@[simp] def zuO:zen [.str x]=if zau x.length then some (.int x.length)else none:=(rfl)
@[simp] def zwL{k:Int}:ixD (.str x) (.int k)=if zau x.length then(atI x.cps.toList k).map fun c=>.str ⟨#[c]⟩else none:=(rfl)
@[simp] def zuP{l:List D}:zdw x (.lst l)=(zdF l).bind fun ts=>if JoinOk x ts then some (.str (Txt.join x ts))else none:=(rfl)
@[simp] def zut:zcW x (.str y)=if !(y.length==0)&&zau x.length then some (.lst ((Txt.split x y).map D.str))else none:=(rfl)
@[simp] def zwy{n:Int}:zov [.int n]=if decide (-1000<=n/\n<=1000)then some (.str (dI n))else none:=(rfl)
end
theorem zcE{α:Type}(t:α->Str):∀l:List α,zdF (l.map fun a=>D.str (t a))=some (l.map t)
 |[]=>rfl|a::l=>by
  show(zdF (l.map fun a=>D.str (t a))).map _=_;rw[zcE t l];rfl
def zeZ{sep:Str}{ts:List Str}(h1:ts.length<=1000)(h2:∀t∈ts,t.length<=1000)(I:sep.length<=1):JoinOk sep ts=true:=by
 unfold JoinOk;rw[yaH];refine StrLaws.joinFits (B:=1000) h2 ?_;have:=yc7 h1 (yai 1000);have:=yc7 h1 I;omega
def zd5(sep:Str)(ts:List Str):Txt.join sep ts=Str.join sep ts:=StrLaws.glued_eq_join sep ts
open PySem
def zxL(cn f:Str):Out D->Out D|.ok d S=>(match zo3 cn f d S with|some r=>.ok r S|none=>.bad)|.exc c S=>.exc c S|.bad=>.bad
noncomputable def zjg(G:List D->Sto->Out D)(d:D):Out (List D)->Out D|.ok ds S=>G (d::ds) S|.exc c S=>.exc c S|.bad=>.bad
def ztz(c m:Str)(G:List D->Sto->Out D)(fs:List Fe)(ρ:Env):Out D->Out D|.ok d S=>if zaS c m d S then zjg G d (zap fs ρ S)else .bad|.exc c S=>.exc c S|.bad=>.bad
noncomputable def zuG(n:Nat):Out D->Out D|.ok .non S=>.ok (.ref n) S|.ok _ _=>.bad|.exc c S=>.exc c S|.bad=>.bad
noncomputable def kMk(c:Str)(ah:List D)(G:List D->Sto->Out D):Out (List D)->Out D|.ok ds S=>zuG S.length (G (.ref S.length::(ds++ah)) (S++[⟨c,[]⟩]))|.exc c S=>.exc c S|.bad=>.bad
section
variable{ρ:Env}{S:Sto}{f:Fe}{n i:Nat}
@[simp] def zwR:zkr c x f ρ S=zxL c x (f ρ S):=by unfold zkr;cases f ρ S<;>rfl
@[simp] def zzl:zxL c x (.ok d S)=(match zo3 c x d S with|some r=>.ok r S|none=>.bad):=(rfl)
@[simp] def zuT:zbx c m G f fs ρ S=ztz c m G fs ρ (f ρ S):=by
 unfold zbx
 cases f ρ S with
 |ok d S1=>
  show(if zaS c m d S1 then(zap fs ρ S1).bind fun ds S2=>G (d::ds) S2 else .bad)=(if zaS c m d S1 then zjg G d (zap fs ρ S1)else .bad)
  cases zap fs ρ S1<;>rfl
 |exc c S=>rfl|bad=>rfl
@[simp] def zxl:ztz c m G fs ρ (.ok d S)=if zaS c m d S then zjg G d (zap fs ρ S)else .bad:=(rfl)
@[simp] def zvN:zjg G d (.ok ds S)=G (d::ds) S:=(rfl)
@[simp] def zyk:eMk c ah G fs ρ S=kMk c ah G (zap fs ρ S):=by
 unfold eMk
 cases zap fs ρ S with
 |ok ds S1=>
  show((G (.ref S1.length::(ds++ah)) (S1++[⟨c,[]⟩])).bind fun r S2=>match r with|.non=>.ok (.ref S1.length) S2|_=>.bad)=zuG S1.length (G (.ref S1.length::(ds++ah)) (S1++[⟨c,[]⟩]))
  cases G (.ref S1.length::(ds++ah)) (S1++[⟨c,[]⟩])with
  |ok r S2=>cases r<;>rfl|exc c S=>rfl|bad=>rfl
 |exc c S=>rfl|bad=>rfl
@[simp] def zz2:kMk c ah G (.ok ds S)=zuG S.length (G (.ref S.length::(ds++ah)) (S++[⟨c,[]⟩])):=(rfl)
@[simp] def zza:zuG n (.ok .non S)=.ok (.ref n) S:=(rfl)
noncomputable def alb(ts:D)(ds:List (D×D))(dn un:List D):Ob:=⟨"Album",[("tiles",false,ts),("named",true,.tup [.dic ds]),("done",true,.tup [.lst dn]),("undone",true,.tup [.lst un])]⟩
variable{ts:D}{ds ds':List (D×D)}{dn un dn' un':List D}
def zfk:zem (alb ts ds dn un)=true:=by
 show decide (["tiles","named","done","undone"]:List Str).Nodup=true;decide
def zcP(h:S[n]?=some (alb ts ds dn un)):zo3 "Album" "tiles" (.ref n) S=some ts:=by unfold zo3;dsimp only;rw[h];rfl
def zcQ(hi:ρ[i]?=some (some (false,.ref n)))(h:S[n]?=some (alb ts ds dn un))(ho:zal ds=true):zj9 "Album" "named" ρ S i=some (n,alb ts ds dn un,ds):=by
 unfold zj9 zko;rw[hi];dsimp only[zsQ];rw[h];show(if zal ds then some (n,alb ts ds dn un,ds)else none)=_;rw[if_pos ho]
def zrn(hi:ρ[i]?=some (some (false,.ref n)))(h:S[n]?=some (alb ts ds dn un)):zko "Album" "done" ρ S i=some (n,alb ts ds dn un,.lst dn):=by
 unfold zko;rw[hi];dsimp only[zsQ];rw[h];rfl
def zbf{m:Str}(h:S[n]?=some (alb ts ds dn un))(hm:(m==("tiles":Str))=false/\(m==("named":Str))=false/\(m==("done":Str))=false/\(m==("undone":Str))=false):zaS "Album" m (.ref n) S=true:=by
 unfold zaS;dsimp only;rw[h];show(true&&(List.lookup m _).isNone)=true;simp[alb,List.lookup,hm]
def zkR{ob I:Ob}(h:S[n]?=some ob):(S.set n I)[n]?=some I:=by
 rw[yaG (yas.mp h).1]
def zzy{k:Str}(hi:ρ[i]?=some (some (false,.ref n)))(h:S[n]?=some (alb ts ds dn un))(ho:zal ds=true){j:Nat}(I:ρ[j]?=some (some (false,.str k))):eQ (zm7 "Album" "named" i (zbI j)) ρ S=.ok (.bl (zaj k ds).isSome) S:=by
 unfold eQ zm7;rw[zcQ hi h ho,show zbI j ρ S=some (.str k)by unfold zbI;rw[I]]
def ztc{k:Str}(hi:ρ[i]?=some (some (false,.ref n)))(h:S[n]?=some (alb ts ds dn un))(ho:zal ds=true){j:Nat}(I:ρ[j]?=some (some (false,.str k))):eQ (zfo "Album" "named" i (zbI j)) ρ S=.ok (.bl (!(zaj k ds).isSome)) S:=by
 unfold eQ zfo;rw[zcQ hi h ho,show zbI j ρ S=some (.str k)by unfold zbI;rw[I]]
def zzv{k:Str}{d:D}(hi:ρ[i]?=some (some (false,.ref n)))(h:S[n]?=some (alb ts ds dn un))(ho:zal ds=true){j:Nat}(I:ρ[j]?=some (some (false,.str k)))(hd:zaj k ds=some d):eQ (zqd "Album" "named" i (zbI j)) ρ S=.ok d S:=by
 unfold eQ zqd;rw[zcQ hi h ho,show zbI j ρ S=some (.str k)by unfold zbI;rw[I]];dsimp only;rw[hd]
noncomputable def nmd(k:Str)(d:D)(ds:List (D×D)):List (D×D):=match d with|.non=>dropS k ds|d=>putS k d ds
def ziY(h:S[n]?=some ob):S.set n ob=S:=by
 apply List.ext_getElem?;intro m
 by_cases e:n=m
 ·subst e;rw[zkR h,h]
 ·rw[yaS e]
theorem zhp{k:Str}:∀{ds:List (D×D)},zal ds=true->zaj k ds=none->dropS k ds=ds
 |[],_,_=>rfl|(.str x,d)::r,a,h=>by
  unfold zal at a;rw[yaa]at a;unfold zaj at h;split at h
  ·cases h
  ·rename_i b;unfold dropS;rw[if_neg b,zhp a.2 h]
def zm0{k:Str}{d:D}(h:S[n]?=some (alb ts ds dn un))(ho:zal ds=true)(I:ds.length<=100000):zaL [.ref n,.str k,d] S=.ok .non (S.set n (alb ts (nmd k d ds) dn un)):=by
 by_cases b:ze2 d=true
 ·have e:d=.non:=zhg b;subst e
  have f:∀ρ:Env,ρ[0]?=some (some (false,.ref n))->ρ[1]?=some (some (false,.str k))->zjO "Album" "named" 0 (zbI 1) ρ S=.nx ρ (S.set n (alb ts (dropS k ds) dn un)):=by
   intro ρ h0 h1;unfold zjO;rw[show zbI 1 ρ S=some (.str k)by unfold zbI;rw[h1],zcQ h0 h ho];dsimp only;rw[if_pos zfk]
   cases I:zaj k ds with
   |some d=>rfl|none=>
    dsimp only[Option.isSome];have:dropS k ds=ds:=zhp ho I;rw[this,if_neg (by decide)];congr 1;exact(ziY h).symm
  have c:zjk .non .non=some (.bl true):=rfl;simp[zaL,zai,za3,c,f,nmd]
 ·have f:∀ρ:Env,ρ[0]?=some (some (false,.ref n))->ρ[1]?=some (some (false,.str k))->ρ[2]?=some (some (false,d))->zjN "Album" "named" 0 (zbI 1) (zbI 2) ρ S=.nx ρ (S.set n (alb ts (putS k d ds) dn un)):=by
   intro ρ h0 h1 h2;unfold zjN;rw[show zbI 1 ρ S=some (.str k)by unfold zbI;rw[h1],show zbI 2 ρ S=some d by unfold zbI;rw[h2],zcQ h0 h ho];dsimp only;rw[if_pos (by rw[zfk,show zau ds.length=true from yap I];rfl)];rfl
  have e2:nmd k d ds=putS k d ds:=by
   unfold nmd
   cases d<;>first|rfl|exact absurd rfl b
  have a:ze2 d=false:=by simpa using b
  rw[e2]
  have c:zjk d .non=some (.bl false):=by unfold zjk;rw[a];rfl
  simp[zaL,zai,za3,c,f]
end
section
variable{S:Sto}{tl:List D}
noncomputable def pc:D->Bool|.int _=>true|.str _=>true|.non=>true|_=>false
noncomputable def zmt:D->Bool|.int i=>decide (0<=i/\i<=8)|_=>false
noncomputable def znF(n:Nat):D->Bool|.non=>true|.int i=>decide (0<=i/\i<n)|_=>false
def zdK{x:Int}:zbb [.int x] S=.ok (.bl true) S:=by
 simp[zbb,zai,zcA,zcK,zbz]
def zdJ{x:Str}:zbb [.str x] S=.ok (.bl false) S:=by
 simp[zbb,zai,zcA,zcK]
def zf1:zbb [.non] S=.ok (.bl false) S:=by
 simp[zbb,zai,zcA,zcK]
def zaO{l:List D}{a b:Int}:zaK [.tup l,.int a,.int b] S=.ok (.bl (decide (a<=l.length/\(l.length:Int)<=b))) S:=by
 by_cases h:a<=(l.length:Int)
 ·simp[zaK,zai,zbZ,zcK,h]
 ·simp[zaK,zai,zbZ,zcK,h]
def zjS{d:D}(h:pc d=true):zbp [d] S=.ok (.bl (zmt d)) S:=by
 cases d with
 |int i=>by_cases h0:0<=i<;>simp[zbp,zai,zb8,zdK,zmt,h0]|str x=>simp[zbp,zai,zb8,zdJ,zmt]|non=>simp[zbp,zai,zb8,zf1,zmt]|_=>cases h
def zjR{d:D}(h:pc d=true):zb7 [.tup tl,d] S=.ok (.bl (znF tl.length d)) S:=by
 cases d with
 |int i=>
  have e:zjk (.int i) .non=some (.bl false):=rfl
  by_cases h0:0<=i<;>simp[zb7,zai,zc2,e,zcc,zcm,zdK,znF,h0]
 |str x=>
  have e:zjk (.str x) .non=some (.bl false):=rfl;simp[zb7,zai,zc2,e,zcc,zcm,zdJ,znF]
 |non=>
  have e:zjk .non .non=some (.bl true):=rfl;simp[zb7,zai,zc2,e,znF]
 |_=>cases h
theorem zhB{α:Type}(f:α->Bool):∀l:List α,zgx (l.map fun x=>.bl (f x))=some (l.map f)
 |[]=>rfl|a::l=>by rw[yar];unfold zgx;rw[zhB f l];rfl
theorem all_map{α:Type}{f:α->Bool}{l:List α}:zmH [.lst (l.map fun x=>.bl (f x))]=some (.bl (l.all f)):=by
 show(zgx _).map _=_;rw[zhB];show some (D.bl ((l.map f).all id))=_;rw[List.all_map];rfl
def rowB(n:Nat)(r:List D):Bool:=decide (1<=r.length/\r.length<=6)&&r.all (znF n)
def zer(r:List D):Bool:=decide (r.length=4)&&r.all zmt
def zmY{r:List D}(I:r.length<=9000)(h:∀d∈r,pc d=true):zcy [.tup r] S=.ok (.bl (zer r)) S:=by
 have c:za5 (.one 0) zct (eFn zbp [(zad 0)]) [none] r S=.ok (r.map fun d=>.bl (zmt d)) S:=by
  refine zaB fun d hd=>⟨_,rfl,?_⟩
  simp[zjS (h d hd)]
 have e:=all_map (f:=zmt) (l:=r);unfold zer
 by_cases a:r.length=4
 ·have b:((4:Int)<=r.length/\(r.length:Int)<=4):=⟨by omega,by omega⟩;simp[zcy,zai,zdU,zaO,b,c,e,show r.length<=100000 by omega,a]
 ·have b:¬ ((4:Int)<=r.length/\(r.length:Int)<=4):=fun z=>a (by omega)
  simp[zcy,zai,zdU,zaO,b,a]
def zp5{r:List D}(I:r.length<=9000)(h:∀d∈r,pc d=true):zdf [.tup tl,.tup r] S=.ok (.bl (rowB tl.length r)) S:=by
 have c:za5 (.one 0) zct (eFn zb7 [(zad 1),(zad 0)]) [none,some (false,.tup tl)] r S=.ok (r.map fun d=>.bl (znF tl.length d)) S:=by
  refine zaB fun d hd=>⟨_,rfl,?_⟩
  simp[zjR (h d hd)]
 have e:=all_map (f:=znF tl.length) (l:=r);unfold rowB
 by_cases a:1<=r.length/\r.length<=6
 ·have b:((1:Int)<=r.length/\(r.length:Int)<=6):=⟨by omega,by omega⟩;simp[zdf,zai,zeA,zaO,b,c,e,zmw,show r.length<=100000 by omega,a]
 ·have b:¬ ((1:Int)<=r.length/\(r.length:Int)<=6):=fun z=>a (by omega)
  simp[zdf,zai,zeA,zaO,b,a]
noncomputable def Rws(rs:List (List D)):Prop:=rs.length<=9000/\∀r∈rs,r.length<=9000/\∀d∈r,pc d=true
noncomputable def FlD(rs:List (List D)):D:=.tup (rs.map D.tup)
def zuz(rs:List (List D)):Bool:=match keysOf (rs.map D.tup)with|some ks=>decide (ST.ddN ks=rs.length)|none=>false
noncomputable def zjL(rs:List (List D)):Bool:=decide (1<=rs.length/\rs.length<=16)&&(rs.all zer&&zuz rs)
theorem zl1:∀{r:List D},r.all zmt=true->∃k:List Int,r=k.map D.int/\∀x∈k,0<=x/\x<=8
 |[],_=>⟨[],rfl,fun _ h=>nomatch h⟩|d::r,h=>by
  rw[ya8,yaa]at h;obtain⟨k,rfl,hk⟩:=zl1 h.2
  cases d with
  |int i=>
   refine⟨i::k,rfl,fun x a=>?_⟩
   rcases yaq.mp a with rfl|a
   ·exact yah h.1
   ·exact hk x a
  |_=>cases h.1
theorem zd6:∀t:List Int,zeo (t.map D.int)=some t
 |[]=>rfl|a::t=>by rw[yar];unfold zeo;rw[zd6 t];rfl
theorem ziI:∀{rs:List (List D)},rs.all zer=true->∃ts:List (List Int),rs=ts.map (·.map D.int)/\keysOf (rs.map D.tup)=some ts/\∀t∈ts,t.length=4/\∀x∈t,0<=x/\x<=8
 |[],_=>⟨[],rfl,rfl,fun _ h=>nomatch h⟩|r::rs,h=>by
  rw[ya8,yaa]at h;obtain⟨ts,rfl,hk,b⟩:=ziI h.2;have h1:=h.1;unfold zer at h1;rw[yaa,yaA]at h1;obtain⟨k,rfl,a⟩:=zl1 h1.2;refine⟨k::ts,rfl,?_,fun t hm=>?_⟩
  ·rw[yar];unfold keysOf;rw[show znL (D.tup (k.map D.int))=some k from zd6 k];dsimp only[Option.bind];rw[hk]
  ·rcases yaq.mp hm with rfl|hm
   ·exact⟨by simpa using h1.1,a⟩
   ·exact b t hm
def zey{rs:List (List D)}(h:Rws rs):zbm [FlD rs] S=.ok (.bl (zjL rs)) S:=by
 have k:za5 (.one 0) zct (eFn zcy [(zad 0)]) [none] (rs.map D.tup) S=.ok ((rs.map D.tup).map fun d=>.bl (match d with|.tup r=>zer r|_=>false)) S:=by
  refine zaB fun d hd=>?_
  obtain⟨r,j,rfl⟩:=yaf.mp hd;refine⟨_,rfl,?_⟩;simp[zmY (h.2 r j).1 (h.2 r j).2]
 have c:=all_map (f:=fun d:D=>match d with|.tup r=>zer r|_=>false) (l:=rs.map D.tup);rw[List.all_map]at c;have p:((fun d:D=>match d with|.tup r=>zer r|_=>false)∘D.tup)=zer:=rfl;rw[p]at c;have i:(rs.map D.tup).length=rs.length:=yab _;have h0:=h.1;unfold zjL FlD
 by_cases a:1<=rs.length/\rs.length<=16
 ·have b:((1:Int)<=rs.length/\(rs.length:Int)<=16):=⟨by omega,by omega⟩
  cases g:rs.all zer with
  |false=>
   rw[g]at c;generalize rs.map D.tup=T at*;simp[zbm,zai,zdV,zaO,k,c,zbz,i,b,a,show rs.length<=100000 by omega]
  |true=>
   rw[g]at c;obtain⟨ts,_,hk,_⟩:=ziI g
   have es:zdu (.tup (rs.map D.tup))=some (.int (ST.ddN ts)):=by
    have m:ts.length=rs.length:=by
     rename_i e _;rw[e,yab]
    show(keysOf (rs.map D.tup)).bind _=_;rw[hk];show(if decide (ts.length<=18)then some (D.int (ST.ddN ts))else none)=_;rw[if_pos (yap (by omega))]
   have n:zuz rs=decide (ST.ddN ts=rs.length):=by unfold zuz;rw[hk]
   rw[n];generalize rs.map D.tup=T at*
   have o:((ST.ddN ts:Int)=(rs.length:Int))↔ST.ddN ts=rs.length:=by omega
   simp[zbm,zai,zdV,zaO,k,c,es,zbz,i,b,a,show rs.length<=100000 by omega,o]
 ·have b:¬ ((1:Int)<=rs.length/\(rs.length:Int)<=16):=fun z=>a (by omega)
  generalize rs.map D.tup=T at*;simp[zbm,zai,zdV,zaO,zbz,i,b,a]
noncomputable def znI(rs:List (List D)):Bool:=match rs with|[]=>true|a::_=>rs.all fun r=>decide (r.length=a.length)
def zck(n:Nat)(rs:List (List D)):Bool:=decide (1<=rs.length/\rs.length<=6)&&(rs.all (rowB n)&&znI rs)
def zfy{rs:List (List D)}(h:Rws rs):zaJ [.tup tl,FlD rs] S=.ok (.bl (zck tl.length rs)) S:=by
 have p:za5 (.one 0) zct (eFn zdf [(zad 1),(zad 0)]) [none,some (false,.tup tl)] (rs.map D.tup) S=.ok ((rs.map D.tup).map fun d=>.bl (match d with|.tup r=>rowB tl.length r|_=>false)) S:=by
  refine zaB fun d hd=>?_
  obtain⟨r,k,rfl⟩:=yaf.mp hd;refine⟨_,rfl,?_⟩;simp[zp5 (h.2 r k).1 (h.2 r k).2]
 have g:=all_map (f:=fun d:D=>match d with|.tup r=>rowB tl.length r|_=>false) (l:=rs.map D.tup);rw[List.all_map]at g;have v:((fun d:D=>match d with|.tup r=>rowB tl.length r|_=>false)∘D.tup)=rowB tl.length:=rfl;rw[v]at g;have m:(rs.map D.tup).length=rs.length:=yab _;have h0:=h.1;unfold zck FlD
 by_cases e:1<=rs.length/\rs.length<=6
 ·have j:((1:Int)<=rs.length/\(rs.length:Int)<=6):=⟨by omega,by omega⟩
  cases o:rs.all (rowB tl.length)with
  |false=>
   rw[o]at g;generalize rs.map D.tup=T at*;simp[zaJ,zai,zcB,zaO,p,g,zbz,m,j,e,zmw,show rs.length<=100000 by omega]
  |true=>
   rw[o]at g
   obtain⟨c,zbG,i⟩:∃c zbG,rs=c::zbG:=by
    cases q:rs with
    |nil=>rw[q]at e;exact absurd e.1 (by decide)
    |cons a b=>exact⟨a,b,rfl⟩
   have x:atI (rs.map D.tup) 0=some (.tup c):=by rw[i];exact zax ((c::zbG).map D.tup) 0
   have w:za5 (.one 0) zct (zaf eqD (zaF zen [(zac 0)]) (zaF zen [(zaf ixD (zac 1) (zaa (.int 0)))])) [none,some (false,.tup (rs.map D.tup))] (rs.map D.tup) S=.ok ((rs.map D.tup).map fun d=>.bl (match d with|.tup r=>decide (r.length=c.length)|_=>false)) S:=by
    refine zaB fun d hd=>?_
    obtain⟨r,k,rfl⟩:=yaf.mp hd;refine⟨_,rfl,?_⟩
    have t:((r.length:Int)=(c.length:Int))↔r.length=c.length:=by omega
    simp[x,t]
   have n:=all_map (f:=fun d:D=>match d with|.tup r=>decide (r.length=c.length)|_=>false) (l:=rs.map D.tup);rw[List.all_map]at n;have u:((fun d:D=>match d with|.tup r=>decide (r.length=c.length)|_=>false)∘D.tup)=fun r=>decide (r.length=c.length):=rfl
   rw[u]at n
   have s:znI rs=rs.all fun r=>decide (r.length=c.length):=by unfold znI;rw[i]
   rw[s];generalize rs.map D.tup=T at*;simp[zaJ,zai,zcB,zaO,p,g,w,n,zbz,m,j,e,zmw,show rs.length<=100000 by omega]
 ·have j:¬ ((1:Int)<=rs.length/\(rs.length:Int)<=6):=fun z=>e (by omega)
  generalize rs.map D.tup=T at*;simp[zaJ,zai,zcB,zaO,zbz,m,j,e]
end
section
variable{S:Sto}
noncomputable def zoW(c:Nat):Bool:=decide (97<=c/\c<=122)
def zgb(x:Str):Bool:=decide (1<=x.length/\x.length<=6)&&(L x).all zoW
noncomputable def zcU(k:Str):Prop:=zgb k=true
def zjc{a b:Nat}:([a] < [b])↔a<b:=by
 rw[List.cons_lt_cons_iff];simp
def zpR{c:Nat}:leD (.str "a") (.str ⟨#[c]⟩)=some (.bl (decide (97<=c)))/\leD (.str ⟨#[c]⟩) (.str "z")=some (.bl (decide (c<=122))):=by
 refine⟨?_,?_⟩
 ·show some (D.bl (!decide ([c] < [97])))=_
  by_cases h:c<97
  ·rw[yap (zjc.mpr h),yaz (by omega)];rfl
  ·rw[yaz (fun z=>h (zjc.mp z)),yap (by omega)];rfl
 ·show some (D.bl (!decide ([122] < [c])))=_
  by_cases h:122<c
  ·rw[yap (zjc.mpr h),yaz (by omega)];rfl
  ·rw[yaz (fun z=>h (zjc.mp z)),yap (by omega)];rfl
def zdq{x:Str}(I:x.length<=100000):zby [.str x] S=.ok (.bl (zgb x)) S:=by
 have it:zcK "str" (.str x)=some (.bl true):=rfl
 have j:za5 (.one 0) zct (zcC leD leD (zaa (.str "a")) (zac 0) (zaa (.str "z"))) [none] (zhQ x) S=.ok ((L x).map fun c=>.bl (zoW c)) S:=by
  have:=zaB (tg:=.one 0) (elt:=zcC leD leD (zaa (.str "a")) (zac 0) (zaa (.str "z"))) (aw:=[none]) (S:=S) (ds:=zhQ x) (g:=fun d=>match d with|.str y=>.bl (zoW (y.cps.getD 0 0))|_=>.non) fun d hd=>by
   obtain⟨c,_,rfl⟩:=yaf.mp hd;refine⟨_,rfl,?_⟩;obtain⟨a,b⟩:=zpR (c:=c)
   by_cases h:97<=c
   ·simp[a,b,h,zoW]
   ·simp[a,h,zoW]
  rw[this];unfold zhQ;rw[yat];rfl
 have k:=all_map (f:=zoW) (l:=L x);have m:(L x).length=x.length:=zbM x;unfold zgb
 by_cases h:1<=x.length/\x.length<=6
 ·have e:((1:Int)<=x.length/\(x.length:Int)<=6):=⟨by omega,by omega⟩
  have i:((L x).map fun c=>D.bl (zoW c)).length<=100000:=by rw[yab];omega
  generalize ((L x).map fun c=>D.bl (zoW c))=X at*;simp[zby,zai,zc3,it,zbz,e.1,e.2,j,k,h,i,I]
 ·by_cases h1:(1:Int)<=x.length
  ·simp[zby,zai,zc3,it,zbz,h1,show ¬ ((x.length:Int)<=6)by omega,h,I]
  ·simp[zby,zai,zc3,it,zbz,h1,h,I]
def zeQ{k:Str}(h:zcU k):(1<=k.length/\k.length<=6)/\∀c∈L k,97<=c/\c<=122:=by
 have h:zgb k=true:=h;unfold zgb at h;rw[yaa,yaA]at h;exact⟨h.1,fun c a=>yah (yaK.mp h.2 c a)⟩
def zd2{k:Str}(h:zcU k):zby [.str k] S=.ok (.bl true) S:=by rw[zdq (by have:=(zeQ h).1;omega),show zgb k=true from h]
end
section
variable{ρ:Env}{S:Sto}{n i:Nat}{ts:D}{ds:List (D×D)}{dn un:List D}
def qv{j:Nat}{d:D}(h:ρ[j]?=some (some (false,d))):zbI j ρ S=some d:=by unfold zbI;rw[h]
def zla{w k:Str}{d:D}(h:S[n]?=some (alb ts ds dn un))(ho:zal ds=true)(I:ds.length<=100000)(hd:dn.length<=100000):
  zb4 [.ref n,.str w,.str k,d] S=.ok .non (S.set n (alb ts (nmd k d ds) (dn++[.tup [.str w,.str k,(zaj k ds).getD .non,d]]) [])):=by
 have a:∀ρ:Env,ρ[0]?=some (some (false,.ref n))->ρ[1]?=some (some (false,.str w))->ρ[2]?=some (some (false,.str k))->ρ[3]?=some (some (false,d)) →
   zjP "Album" "done" 0 [(zbI 1),(zbI 2),(zgY "Album" "named" 0 (zbI 2)),(zbI 3)] ρ S=.nx ρ (S.set n (alb ts ds (dn++[.tup [.str w,.str k,(zaj k ds).getD .non,d]]) un)):=by
  intro ρ h0 h1 h2 b
  have q:zif [(zbI 1),(zbI 2),(zgY "Album" "named" 0 (zbI 2)),(zbI 3)] ρ S=some [.str w,.str k,(zaj k ds).getD .non,d]:=by
   have g:zgY "Album" "named" 0 (zbI 2) ρ S=some ((zaj k ds).getD .non):=by unfold zgY;rw[qv h2,zcQ h0 h ho]
   simp only[zif,qv h1,qv h2,qv b,g,Option.bind,Option.map]
  unfold zjP;rw[zrn h0 h,q];dsimp only;rw[if_pos (by rw[zfk,show zau dn.length=true from yap hd];rfl)];rfl
 generalize e:dn++[.tup [.str w,.str k,(zaj k ds).getD .non,d]]=dn' at a ⊢;have h1:(S.set n (alb ts ds dn' un))[n]?=some (alb ts ds dn' un):=zkR h
 have e2:∀ρ:Env,ρ[0]?=some (some (false,.ref n))->zfn "Album" "undone" 0 ρ (S.set n (alb ts ds dn' un))=.nx ρ (S.set n (alb ts ds dn' [])):=by
  intro ρ h0;unfold zfn;rw[h0];dsimp only;rw[h1];show(if _ then Fo.nx ρ ((S.set n (alb ts ds dn' un)).set n (alb ts ds dn' []))else _)=_;rw[if_pos (by rfl),List.set_set]
 have h2:(S.set n (alb ts ds dn' []))[n]?=some (alb ts ds dn' []):=zkR h;have c:=zm0 (k:=k) (d:=d) h2 ho I;have m:zaS "Album" "name_floor" (.ref n) (S.set n (alb ts ds dn' []))=true:=zbf h2 (by decide);simp[zb4,zai,zed,a,e2,c,m]
def za9{k:Str}(h:zcU k):zaX [.str k] S=.ok .non S:=by
 simp[zaX,zai,zbQ,zd2 h,zbz]
def zbo{k:Str}{d:D}(hk:zcU k)(h:S[n]?=some (alb ts ds dn un))(ho:zal ds=true)(hd:zaj k ds=some d):zas [.ref n,.str k] S=.ok d S:=by
 have a:∀ρ:Env,ρ[0]?=some (some (false,.ref n))->ρ[1]?=some (some (false,.str k))->eQ (zfo "Album" "named" 0 (zbI 1)) ρ S=.ok (.bl false) S:=fun ρ h0 h1=>by rw[ztc h0 h ho h1,hd];rfl
 have e2:∀ρ:Env,ρ[0]?=some (some (false,.ref n))->ρ[1]?=some (some (false,.str k))->eQ (zqd "Album" "named" 0 (zbI 1)) ρ S=.ok d S:=fun ρ h0 h1=>zzv h0 h ho h1 hd
 simp[zas,zai,zbn,zd2 hk,zbz,a,e2]
def zcr{k:Str}(hk:zcU k)(h:S[n]?=some (alb ts ds dn un))(ho:zal ds=true)(hd:zaj k ds=none):zas [.ref n,.str k] S=.exc "NoName" S:=by
 have a:∀ρ:Env,ρ[0]?=some (some (false,.ref n))->ρ[1]?=some (some (false,.str k))->eQ (zfo "Album" "named" 0 (zbI 1)) ρ S=.ok (.bl true) S:=fun ρ h0 h1=>by rw[ztc h0 h ho h1,hd];rfl
 simp[zas,zai,zbn,zd2 hk,zbz,a]
def zp6{k:Str}{d:D}(hk:zcU k)(I:ze2 d=false)(h:S[n]?=some (alb ts ds dn un))(ho:zal ds=true)(J:ds.length<=100000)(hd:dn.length<=100000)(hf:zaJ [ts,d] S=.ok (.bl true) S):
  zaP [.ref n,.str k,d] S=.ok (.bl (zaj k ds).isSome) (S.set n (alb ts (putS k d ds) (dn++[.tup [.str "put",.str k,(zaj k ds).getD .non,d]]) [])):=by
 have c:∀ρ:Env,ρ[0]?=some (some (false,.ref n))->ρ[1]?=some (some (false,.str k))->eQ (zm7 "Album" "named" 0 (zbI 1)) ρ S=.ok (.bl (zaj k ds).isSome) S:=fun ρ h0 h1=>zzy h0 h ho h1
 have a:=zla (w:="put") (k:=k) (d:=d) h ho J hd
 have b:nmd k d ds=putS k d ds:=by
  unfold nmd
  cases d<;>first|rfl|cases I
 rw[b]at a;have m:zaS "Album" "do" (.ref n) S=true:=zbf h (by decide);simp[zaP,zai,zdB,za9 hk,zcP h,hf,zbz,c,a,m]
def zmZ{k:Str}{d:D}(hk:zcU k)(h:S[n]?=some (alb ts ds dn un))(ho:zal ds=true)(I:ds.length<=100000)(hd:dn.length<=100000)(he:zaj k ds=some d):
  zay [.ref n,.str k] S=.ok d (S.set n (alb ts (dropS k ds) (dn++[.tup [.str "take",.str k,d,.non]]) [])):=by
 have e:=zbo hk h ho he;have a:=zla (w:="take") (k:=k) (d:=.non) h ho I hd;rw[he]at a;have c:nmd k .non ds=dropS k ds:=rfl;rw[c]at a;have m:zaS "Album" "do" (.ref n) S=true:=zbf h (by decide);have b:zaS "Album" "floor_of" (.ref n) S=true:=zbf h (by decide);simp[zay,zai,zcn,e,a,m,b]
def zhR{k:Str}(hk:zcU k)(h:S[n]?=some (alb ts ds dn un))(ho:zal ds=true)(he:zaj k ds=none):zay [.ref n,.str k] S=.exc "NoName" S:=by
 have b:=zcr hk h ho he;have a:zaS "Album" "floor_of" (.ref n) S=true:=zbf h (by decide);simp[zay,zai,zcn,b,a]
noncomputable def zia(b:Bool)(x y:D)(S:Sto):Out D:=if b then zbW [x,y] S else zcH [x,y] S
def zm1{k k1 k2:Str}{b:Bool}{x y z:D}(hk:zcU k)(J:zcU k1)(I:zcU k2)(hn:ze2 z=false)(h:S[n]?=some (alb ts ds dn un))(ho:zal ds=true)(hl:ds.length<=100000)(hd:dn.length<=100000)
  (h1:zaj k1 ds=some x) (h2:zaj k2 ds=some y) (U:zia b x y S=.ok z S) (hf:zaJ [ts,z] S=.ok (.bl true) S):
  zak [.ref n,.str k,.str k1,.str k2,.bl b] S=.ok z (S.set n (alb ts (putS k z ds) (dn++[.tup [.str "join",.str k,(zaj k ds).getD .non,z]]) [])):=by
 have f:=zbo J h ho h1;have e2:=zbo I h ho h2;have c:=zla (w:="join") (k:=k) (d:=z) h ho hl hd
 have g:nmd k z ds=putS k z ds:=by
  unfold nmd
  cases z<;>first|rfl|cases hn
 rw[g]at c;have m:zaS "Album" "do" (.ref n) S=true:=zbf h (by decide);have e:zaS "Album" "floor_of" (.ref n) S=true:=zbf h (by decide)
 cases b with
 |true=>
  have a:zbW [x,y] S=.ok z S:=U;simp[zak,zai,zaE,za9 hk,f,e2,a,zcP h,hf,zbz,c,m,e]
 |false=>
  have a:zcH [x,y] S=.ok z S:=U;simp[zak,zai,zaE,za9 hk,f,e2,a,zcP h,hf,zbz,c,m,e]
def zgT{k k1 k2:Str}{b:Bool}(hk:zcU k)(I:zcU k1)(h:S[n]?=some (alb ts ds dn un))(ho:zal ds=true)(h1:zaj k1 ds=none):zak [.ref n,.str k,.str k1,.str k2,.bl b] S=.exc "NoName" S:=by
 have c:=zcr I h ho h1;have a:zaS "Album" "floor_of" (.ref n) S=true:=zbf h (by decide);simp[zak,zai,zaE,za9 hk,c,a]
def zgS{k k1 k2:Str}{b:Bool}{x:D}(hk:zcU k)(J:zcU k1)(I:zcU k2)(h:S[n]?=some (alb ts ds dn un))(ho:zal ds=true)(h1:zaj k1 ds=some x)(h2:zaj k2 ds=none):zak [.ref n,.str k,.str k1,.str k2,.bl b] S=.exc "NoName" S:=by
 have c:=zbo J h ho h1;have e2:=zcr I h ho h2;have a:zaS "Album" "floor_of" (.ref n) S=true:=zbf h (by decide);simp[zak,zai,zaE,za9 hk,c,e2,a]
def zeK{k k1 k2:Str}{b:Bool}{x y:D}(hk:zcU k)(U:zcU k1)(J:zcU k2)(h:S[n]?=some (alb ts ds dn un))(ho:zal ds=true)(h1:zaj k1 ds=some x)(h2:zaj k2 ds=some y)
  (I:zia b x y S=.exc "Unlike" S\/∃z,zia b x y S=.ok z S/\zaJ [ts,z] S=.ok (.bl false) S):zak [.ref n,.str k,.str k1,.str k2,.bl b] S=.exc "Unlike" S:=by
 have d:=zbo U h ho h1;have e2:=zbo J h ho h2;have c:zaS "Album" "floor_of" (.ref n) S=true:=zbf h (by decide)
 cases b with
 |true=>
  rcases I with I|⟨z,I,hf⟩
  ·have a:zbW [x,y] S=.exc "Unlike" S:=I;simp[zak,zai,zaE,za9 hk,d,e2,a,c]
  ·have a:zbW [x,y] S=.ok z S:=I;simp[zak,zai,zaE,za9 hk,d,e2,a,zcP h,hf,zbz,c]
 |false=>
  rcases I with I|⟨z,I,hf⟩
  ·have a:zcH [x,y] S=.exc "Unlike" S:=I;simp[zak,zai,zaE,za9 hk,d,e2,a,c]
  ·have a:zcH [x,y] S=.ok z S:=I;simp[zak,zai,zaE,za9 hk,d,e2,a,zcP h,hf,zbz,c]
end
noncomputable def zmF(n:Nat)(d:D):Prop:=d=.non\/∃x:Int,d=.int x/\0<=x/\x<n
structure FlOk(n c:Nat)(rs:List (List D)):Prop where
 ne:1<=rs.length
 c1:1<=c
 row:∀r∈rs,r.length=c/\∀d∈r,zmF n d
section
variable{S:Sto}{n c c':Nat}{rs rs':List (List D)}{tl:List D}
theorem zmF.pc{d:D}(h:zmF n d):S2.pc d=true/\znF n d=true:=by
 rcases h with rfl|⟨x,rfl,h⟩
 ·exact⟨rfl,rfl⟩
 ·exact⟨rfl,yap h⟩
def FlOk.like(h:FlOk n c rs):znI rs=true:=by
 cases rs with
 |nil=>rfl|cons a zbG=>exact yaK.mpr fun r b=>yap (by rw[(h.row r b).1,(h.row a (.head _)).1])
theorem FlOk.rowB(h:FlOk n c rs){r:List D}(I:r∈rs):S2.rowB n r=decide (c<=6):=by
 have h1:=h.c1;unfold S2.rowB;rw[(h.row r I).1,yaK.mpr fun d hd=>((h.row r I).2 d hd).pc.2,Bool.and_true]
 by_cases a:c<=6
 ·rw[yap a,yap ⟨h1,a⟩]
 ·rw[yaz a,yaz (fun z=>a z.2)]
def FlOk.flB(h:FlOk n c rs):zck n rs=decide (rs.length<=6/\c<=6):=by
 have d:=h.ne;unfold zck;rw[h.like,Bool.and_true]
 by_cases b:c<=6
 ·rw[yaK.mpr fun r e=>by rw[h.rowB e];exact yap b,Bool.and_true]
  by_cases a:rs.length<=6
  ·rw[yap ⟨d,a⟩,yap ⟨a,b⟩]
  ·rw[yaz (fun z=>a z.2),yaz (fun z=>a z.1)]
 ·have:rs.all (S2.rowB n)=false:=by
   cases rs with
   |nil=>cases d|cons f zbG=>rw[ya8,h.rowB (.head _),yaz b];rfl
  rw[this,Bool.and_false,yaz (fun z=>b z.2)]
theorem zeL(h:FlOk tl.length c rs)(I:rs.length<=1000)(J:c<=1000):zaJ [.tup tl,FlD rs] S=.ok (.bl (decide (rs.length<=6/\c<=6))) S:=by
 rw[zfy ⟨by omega,fun r I=>⟨by rw[(h.row r I).1];omega,fun d hd=>((h.row r I).2 d hd).pc.1⟩⟩,h.flB]
end
section
variable{S:Sto}{n c c':Nat}{rs rs':List (List D)}{tl:List D}
theorem zfD:∀ts:List (List Int),keysOf (ts.map zaq)=some ts
 |[]=>rfl|t::ts=>by rw[yar];unfold keysOf;rw[show znL (zaq t)=some t from zd6 t,zfD ts];rfl
theorem zk7{most:Int}{ts:Z2}(h:Tiles most ts)(hm:most<=16):zbm [.tup (ts.map zaq)] S=.ok (.bl true) S:=by
 have h1:=h.ne;have h2:=h.le
 have e:D.tup (ts.map zaq)=FlD (ts.map (·.map D.int)):=by unfold FlD;rw[yat];rfl
 have f:(ts.map (·.map D.int)).length=ts.length:=yab _
 have row:∀r∈ts.map (·.map D.int),r.length=4/\∀d∈r,pc d=true/\zmt d=true:=fun r a=>by
  obtain⟨t,b,rfl⟩:=yaf.mp a;refine⟨by rw[yab];exact h.four t b,fun d hd=>?_⟩;obtain⟨x,c,rfl⟩:=yaf.mp hd;have:=h.col t b x c;exact⟨rfl,yap (by omega)⟩
 rw[e,zey ⟨by omega,fun r a=>⟨by rw[(row r a).1];decide,fun d hd=>((row r a).2 d hd).1⟩⟩];unfold zjL zuz;rw[f,yap (by omega),yaK.mpr fun r a=>by unfold zer;rw[(row r a).1,yaK.mpr fun d hd=>((row r a).2 d hd).2];rfl,show(ts.map (·.map D.int)).map D.tup=ts.map zaq by rw[yat];rfl,zfD];show Out.ok (D.bl (decide (ST.ddN ts=ts.length))) S=_;rw[yap (ST.zwf (by omega) h.nd)]
noncomputable def zgi(rs rs':List (List D)):List (List D):=(List.zip rs rs').map fun p=>p.1++p.2
def ze1:(zgi rs rs').length=min rs.length rs'.length:=by unfold zgi;rw[yab,List.length_zip]
def zq8(h:FlOk n c rs):∃I zbG,rs=I::zbG/\I.length=c:=by
 cases d:rs with
 |nil=>have:=h.ne;rw[d]at this;cases this|cons a b=>exact⟨a,b,rfl,(h.row a (by rw[d];exact yao)).1⟩
def at0(h:FlOk n c rs):∃I,atI (rs.map D.tup) 0=some (.tup I)/\I.length=c:=by
 obtain⟨I,zbG,rfl,a⟩:=zq8 h;exact⟨I,zax ((I::zbG).map D.tup) 0,a⟩
theorem zex(h:FlOk n c rs):zb6 [FlD rs] S=.ok (.tup [.int rs.length,.int c]) S:=by
 obtain⟨e,d,a⟩:=at0 h;have h1:=h.ne;have hm:(rs.map D.tup).length=rs.length:=yab _;unfold FlD;generalize rs.map D.tup=R at*
 have f:decide (0<(R.length:Int))=true:=by rw[hm];simp;omega
 have b:(0<R.length):=by omega
 simp[zb6,zai,zfb,d,a,hm,show 0<rs.length by omega]
theorem ziy:∀(rs rs':List (List D)),zgB (rs.map D.tup) (rs'.map D.tup)=(List.zip rs rs').map fun p=>.tup [.tup p.1,.tup p.2]
 |[],_=>rfl|_::_,[]=>rfl|a::rs,b::rs'=>by rw[yar,yar,List.zip_cons_cons,yar,<-ziy rs rs'];rfl
theorem zjT(h:FlOk n c rs)(h':FlOk n c' rs')(J:rs.length<=100)(U:c<=100)(I:c'<=100):zbW [FlD rs,FlD rs'] S=if rs.length=rs'.length then .ok (FlD (zgi rs rs')) S else .exc "Unlike" S:=by
 have s1:=zex (S:=S) h;have s2:=zex (S:=S) h'
 have j:za5 (.tup [0,1]) zct (zaf za0 (zac 0) (zac 1)) [none,none] (zgB (rs.map D.tup) (rs'.map D.tup)) S=.ok ((zgi rs rs').map D.tup) S:=by
  rw[ziy,zaB (g:=fun d=>match d with|.tup [.tup a,.tup b]=>.tup (a++b)|_=>.non) (fun d hd=>by
   obtain⟨⟨a,b⟩,f,rfl⟩:=yaf.mp hd;refine⟨_,rfl,?_⟩;have k:=(h.row a (ybl f).1).1;have hb:=(h'.row b (ybl f).2).1
   have hs:a.length+b.length<=100000:=by omega
   simp[hs]),yat]
  unfold zgi;rw[yat];rfl
 have i:((zgi rs rs').map D.tup).length<=100000:=by rw[yab,ze1];omega
 unfold FlD at*;generalize (zgi rs rs').map D.tup=Z at*;generalize rs.map D.tup=R at*;generalize rs'.map D.tup=l at*
 by_cases he:rs.length=rs'.length
 ·simp[zbW,zai,zeB,s1,s2,j,i,he]
 ·have e:¬ ((rs.length:Int)=rs'.length):=by omega
  simp[zbW,zai,zeB,s1,s2,he,e]
theorem zlc(h:FlOk n c rs)(h':FlOk n c' rs')(J:rs.length<=100)(I:rs'.length<=100):zcH [FlD rs,FlD rs'] S=if c=c' then .ok (FlD (rs++rs')) S else .exc "Unlike" S:=by
 have s1:=zex (S:=S) h;have s2:=zex (S:=S) h'
 have b:(rs.map D.tup).length+(rs'.map D.tup).length<=100000:=by rw[yab,yab];omega
 unfold FlD at*;rw[yaV];generalize rs.map D.tup=R at*;generalize rs'.map D.tup=d at*
 by_cases he:c=c'
 ·simp[zcH,zai,zgq,s1,s2,b,he]
 ·have a:¬ ((c:Int)=c'):=by omega
  simp[zcH,zai,zgq,s1,s2,he,a]
theorem FlOk.beside(h:FlOk n c rs)(h':FlOk n c' rs')(he:rs.length=rs'.length):FlOk n (c+c') (zgi rs rs')where
 ne:=by rw[ze1,<-he,Nat.min_self];exact h.ne
 c1:=by have:=h.c1;omega
 row:=fun r e=>by
  unfold zgi at e;obtain⟨⟨a,b⟩,f,rfl⟩:=yaf.mp e;obtain⟨a1,a2⟩:=h.row a (ybl f).1;obtain⟨b1,b2⟩:=h'.row b (ybl f).2;refine⟨by show(a++b).length=_;rw[yae,a1,b1],fun d hd=>?_⟩
  rcases yay.mp hd with hd|hd
  ·exact a2 d hd
  ·exact b2 d hd
theorem FlOk.below(h:FlOk n c rs)(h':FlOk n c rs'):FlOk n c (rs++rs')where
 ne:=by rw[yae];have:=h.ne;omega
 c1:=h.c1
 row:=fun r a=>by
  rcases yay.mp a with a|a
  ·exact h.row r a
  ·exact h'.row r a
end
noncomputable def zeO:List (D×D)->List (Str×D)
 |(.str x,d)::r=>(x,d)::zeO r|_=>[]
noncomputable def unS(ps:List (Str×D)):List (D×D):=ps.map fun p=>(.str p.1,p.2)
section
variable{ds es:List (D×D)}{k x:Str}{d:D}
def zbj(h:zal ((.str x,d)::ds)=true):zaj x ds=none/\zal ds=true:=by
 unfold zal at h;rw[yaa]at h;exact⟨by simpa using h.1,h.2⟩
theorem zdj:∀{ds:List (D×D)},zaY ds=(zeO ds).map (·.1)
 |[]=>rfl|(.str x,d)::r=>by show x::zaY r=x::(zeO r).map (·.1);rw[zdj]
 |(.non,_)::_=>rfl|(.bl _,_)::_=>rfl|(.int _,_)::_=>rfl|(.tup _,_)::_=>rfl|(.lst _,_)::_=>rfl|(.dic _,_)::_=>rfl|(.ref _,_)::_=>rfl|(.exc _,_)::_=>rfl|(.scr _,_)::_=>rfl
theorem zcY:∀{ds:List (D×D)},zal ds=true->(zaj k ds=none↔k ∉ zaY ds)
 |[],_=>⟨(fun _ z=>by cases z),fun _=>rfl⟩
 |(.str x,d)::r,h=>by
  have a:=zcY (zbj h).2;unfold zaj;show _↔k ∉ x::zaY r
  by_cases e:x=k
  ·rw[if_pos e];simp[e]
  ·rw[if_neg e,a];simp[Ne.symm e]
theorem zfC:∀{ds:List (D×D)},zal ds=true->(zaY ds).Nodup
 |[],_=>yc8|(.str x,d)::r,h=>ya7.mpr ⟨(zcY (zbj h).2).mp (zbj h).1,zfC (zbj h).2⟩
theorem zg3:∀{ds:List (D×D)},zal ds=true->∀p∈zeO ds,zaj p.1 ds=some p.2
 |[],_,p,h=>by cases h
 |(.str x,d)::r,h,p,b=>by
  cases b with
  |head=>show(if x=x then some d else _)=_;rw[if_pos rfl]
  |tail _ b=>
   have a:=zg3 (zbj h).2 p b;unfold zaj;rw[if_neg (fun e=>by subst e;rw[(zbj h).1]at a;cases a)];exact a
theorem zg9:∀{ds:List (D×D)},zaj k ds=some d->(k,d)∈zeO ds
 |(.str x,e)::r,h=>by
  unfold zaj at h
  by_cases q:x=k
  ·rw[if_pos q]at h;cases h;rw[q];exact yao
  ·rw[if_neg q]at h;exact yaj _ (zg9 h)
theorem zlh:∀{ds:List (D×D)},zal ds=true->zaj k ds=none->putS k d ds=ds++[(.str k,d)]
 |[],_,_=>rfl|(.str x,e)::r,h,a=>by
  unfold zaj at a
  by_cases q:x=k
  ·rw[if_pos q]at a;cases a
  ·rw[if_neg q]at a;unfold putS;rw[if_neg q,zlh (zbj h).2 a];rfl
theorem zcb:∀{ps:List (Str×D)},(ps.map (·.1)).Nodup->zal (unS ps)=true/\zeO (unS ps)=ps
 |[],_=>⟨rfl,rfl⟩|(x,e)::r,h=>by
  rw[yar,ya7]at h;obtain⟨h1,h2⟩:=zcb h.2;refine⟨?_,by show(x,e)::zeO (unS r)=_;rw[h2]⟩;show((zaj x (unS r)).isNone&&zal (unS r))=true;rw[h1,(zcY h1).mpr (by rw[zdj,h2];exact h.1)];rfl
theorem zfA:∀(ps qs:List (Str×D)),((qs++ps).map (·.1)).Nodup->ps.foldl (fun acc p=>putS p.1 p.2 acc) (unS qs)=unS (qs++ps)
 |[],qs,_=>by rw[yaQ];rfl
 |p::ps,qs,h=>by
  have b:(qs.map (·.1)).Nodup:=by rw[yaV]at h;exact(ybP.mp h).1
  obtain⟨o,a⟩:=zcb b
  have c:zaj p.1 (unS qs)=none:=by
   rw[zcY o,zdj,a];intro z;rw[yaV,ybP]at h;exact h.2.2 p.1 z p.1 (by simp) rfl
  rw[List.foldl_cons,zlh o c];have:=zfA ps (qs++[p]) (by rw[ybc];exact h);rw[ybc]at this;refine Eq.trans ?_ this;unfold unS;rw[yaV];rfl
theorem zeT:∀{ds:List (D×D)},zal ds=true->zaj x (dropS k ds)=if k=x then none else zaj x ds
 |[],_=>by show none=_;split<;>rfl
 |(.str y,e)::r,h=>by
  have a:=zbj h;unfold dropS
  by_cases q:y=k
  ·rw[if_pos q]
   by_cases z:k=x
   ·rw[if_pos z,<-z,<-q];exact a.1
   ·rw[if_neg z];show _=(if y=x then some e else zaj x r);rw[if_neg (fun w=>z (q.symm.trans w))]
  ·rw[if_neg q];unfold zaj
   by_cases w:y=x
   ·rw[if_pos w,if_neg (fun z=>q (w.trans z.symm)),if_pos w]
   ·rw[if_neg w,zeT a.2,if_neg w]
theorem zg4:∀{ds:List (D×D)},zal ds=true->zal (dropS k ds)=true
 |[],_=>rfl|(.str y,e)::r,h=>by
  have a:=zbj h;unfold dropS
  by_cases q:y=k
  ·rw[if_pos q];exact a.2
  ·rw[if_neg q];show((zaj y (dropS k r)).isNone&&zal (dropS k r))=true;rw[zeT a.2,zg4 a.2,if_neg (fun z=>q z.symm),a.1];rfl
theorem zgf:∀{ds:List (D×D)},zal ds=true->(zaY ds).length=ds.length
 |[],_=>rfl|(.str x,d)::r,h=>by show _+1=_+1;rw[zgf (zbj h).2]
end
inductive DeedOk(n:Nat):D->Prop
 |put {k:Str}{rs:List (List D)}{c:Nat}:zcU k->FlOk n c rs->rs.length<=6->c<=6->DeedOk n (.tup [.str "put",.str k,FlD rs])
 |take {k:Str}:zcU k->DeedOk n (.tup [.str "take",.str k])
 |join {k k1 k2:Str}{b:Bool}:zcU k->zcU k1->zcU k2->DeedOk n (.tup [.str "join",.str k,.str k1,.str k2,.bl b])
noncomputable def nmL:List D:=[.str "a",.str "b",.str "c",.str "sheet"]
theorem zqC{p:Int}(h0:0<=p)(I:p<4):∃k,zcU k/\atI nmL p=some (.str k):=by
 have:p=0\/p=1\/p=2\/p=3:=by omega
 rcases this with rfl|rfl|rfl|rfl
 ·exact⟨"a",by unfold zcU;decide +kernel,zax nmL 0⟩
 ·exact⟨"b",by unfold zcU;decide +kernel,zax nmL 1⟩
 ·exact⟨"c",by unfold zcU;decide +kernel,zax nmL 2⟩
 ·exact⟨"sheet",by unfold zcU;decide +kernel,zax nmL 3⟩
def znY{r c:Nat}{g:Z1}:flr r c g=FlD ((List.range r).map fun i=>zkn c (g i)):=by
 unfold flr znZ FlD;rw[yat];rfl
def ztQ{n r c:Nat}{g:Z1}(h1:1<=r)(h2:1<=c)(I:∀i j x,g i j=some x->0<=x/\x<n):FlOk n c ((List.range r).map fun i=>zkn c (g i))where
 ne:=by rw[yab,yca];exact h1
 c1:=h2
 row:=fun row b=>by
  obtain⟨i,_,rfl⟩:=yaf.mp b;refine⟨zm3,fun d hd=>?_⟩;unfold zkn at hd;obtain⟨j,_,rfl⟩:=yaf.mp hd
  cases a:g i j with
  |none=>exact .inl rfl|some x=>exact .inr ⟨x,rfl,I i j x a⟩
theorem zm2{l:List Int}{at' most:Int}{ts:Z2}{S:Sto}(ha:0<=at')(I:Tiles most ts)(hm:most<=16):∃d,DeedOk ts.length d/\zbE [.scr l,.int at',.tup (ts.map zaq)] S=.ok d S:=by
 obtain⟨E,B⟩:=zbs l at' (many:=4) (by decide);obtain⟨M,L⟩:=zbs l (at'+1) (many:=6) (by decide);obtain⟨k,hk,q⟩:=zqC E B;have u:=zaU (l:=l) (k:=at') (many:=4) (S:=S) ha (by decide);have e2:=zaU (l:=l) (k:=at'+1) (many:=6) (S:=S) (by omega) (by decide);have H:nmL.length=4:=rfl
 by_cases hw:za1 l (at'+1) 6<3
 ·obtain⟨O,N⟩:=zbs l (at'+2) (many:=3) (by decide);obtain⟨Y,X⟩:=zbs l (at'+3) (many:=3) (by decide);have t:=zaU (l:=l) (k:=at'+2) (many:=3) (S:=S) (by omega) (by decide);have s:=zaU (l:=l) (k:=at'+3) (many:=3) (S:=S) (by omega) (by decide);generalize za1 l (at'+2) 3=R at*;generalize za1 l (at'+3) 3=C at*;have J:=I.ne
  have v:0<(((ts.map zaq).length:Nat):Int)*2:=by rw[yab];omega
  have w:=zk8 (l:=l) (at':=at'+10) (m:=2) (ts:=ts.map zaq) (r:=1+R) (c:=1+C) (S:=S) (by omega) v (by decide) (by omega) (by omega) (by omega) (by omega);rw[znY]at w
  have hok:=ztQ (n:=ts.length) (r:=(1+R).toNat) (c:=(1+C).toNat) (g:=zlw l (at'+10) ((ts.map zaq).length:Nat) 2) (by omega) (by omega) (fun i j x G=>by
   have:=zs7 v x G;rw[yab]at this
   exact this)
  refine⟨_,.put hk hok (by rw[yab,yca];omega) (by omega),?_⟩;generalize FlD _=F at*;generalize ts.map zaq=T at*;generalize za1 l at' 4=P at*;generalize za1 l (at'+1) 6=W at*;have e:D.lst [.str "a",.str "b",.str "c",.str "sheet"]=.lst nmL:=rfl;simp[zbE,zai,zb9,e,u,e2,t,s,q,hw,w]
 ·by_cases a:za1 l (at'+1) 6=3
  ·refine⟨_,.take hk,?_⟩;generalize ts.map zaq=T at*;generalize za1 l at' 4=P at*;generalize za1 l (at'+1) 6=W at*;have e:D.lst [.str "a",.str "b",.str "c",.str "sheet"]=.lst nmL:=rfl;simp[zbE,zai,zb9,e,u,e2,q,hw,a]
  ·obtain⟨A,z⟩:=zbs l (at'+4) (many:=4) (by decide);obtain⟨s0,y⟩:=zbs l (at'+5) (many:=4) (by decide);obtain⟨k1,h,p⟩:=zqC A z;obtain⟨k2,f,o⟩:=zqC s0 y;have t:=zaU (l:=l) (k:=at'+4) (many:=4) (S:=S) (by omega) (by decide);have s:=zaU (l:=l) (k:=at'+5) (many:=4) (S:=S) (by omega) (by decide);have K:=zaU (l:=l) (k:=at'+6) (many:=2) (S:=S) (by omega) (by decide);refine⟨_,.join (b:=decide (za1 l (at'+6) 2=0)) hk h f,?_⟩;generalize ts.map zaq=T at*;generalize za1 l at' 4=P at*;generalize za1 l (at'+1) 6=W at*;generalize za1 l (at'+4) 4=Q at*;generalize za1 l (at'+5) 4=V at*;generalize za1 l (at'+6) 2=U at*;have e:D.lst [.str "a",.str "b",.str "c",.str "sheet"]=.lst nmL:=rfl;simp[zbE,zai,zb9,e,u,e2,t,s,K,q,p,o,hw,a]
def zoU{x k:Str}(I:PyData.strOk x=true)(hk:PyData.strOk k=true):neD (.str x) (.str k)=some (.bl (!decide (x=k))):=by
 unfold neD;rw[if_pos (by show(PyData.strOk x&&PyData.strOk k)=true;rw[I,hk];rfl)]
 have e:zf6 (.str x) (.str k)=decide (x=k):=by
  have h:=zjs (.str x) (.str k) rfl rfl
  by_cases q:x=k
  ·rw[yap q];exact h.mpr (by rw[q])
  ·rw[yaz q]
   cases hb:zf6 (.str x) (.str k)with
   |false=>rfl|true=>exact absurd (by cases h.mp hb;rfl) q
 rw[e]
def zv9:eqD (.str "put") (.str "put")=some (.bl true):=by kernel_rfl
def zv7:eqD (.str "take") (.str "put")=some (.bl false):=by kernel_rfl
def zwb:eqD (.str "join") (.str "join")=some (.bl true):=by kernel_rfl
def zwa:eqD (.str "put") (.str "join")=some (.bl false):=by kernel_rfl
def zv8:eqD (.str "take") (.str "join")=some (.bl false):=by kernel_rfl
noncomputable def zwv(es:List (D×D)):Prop:=∀x d,zaj x es=some d->zcU x
section
variable{k:Str}
theorem zjw:∀{ds:List (D×D)},(dropS k ds).length<=ds.length
 |[]=>yai _|(.str x,d)::r=>by
  unfold dropS;split
  ·exact ybH _
  ·exact Nat.succ_le_succ zjw
 |(.non,_)::_=>yaJ _|(.bl _,_)::_=>yaJ _|(.int _,_)::_=>yaJ _|(.tup _,_)::_=>yaJ _|(.lst _,_)::_=>yaJ _|(.dic _,_)::_=>yaJ _|(.ref _,_)::_=>yaJ _|(.exc _,_)::_=>yaJ _|(.scr _,_)::_=>yaJ _
end
section
variable{S:Sto}{m:Nat}{ts:D}{ds:List (D×D)}{dn un:List D}
def zk5(h:S[m]?=some (alb ts ds dn un))(ho:zal ds=true)(I:ds.length<64):zbX [.ref m] S=.ok (.lst ((za6 (zaY ds)).map D.str)) S:=by
 have a:∀ρ:Env,ρ[0]?=some (some (false,.ref m))->zj7 "Album" "named" 0 ρ S=.ok (.lst ((za6 (zaY ds)).map D.str)) S:=fun ρ h0=>by
  unfold zj7;rw[zcQ h0 h ho];dsimp only;rw[if_pos I]
 simp[zbX,zai,zcM,a]
def zrw(ds:List (D×D)):List (Str×D):=(za6 (zaY ds)).map fun x=>(x,(zaj x ds).getD .non)
def zeE:(zrw ds).map (·.1)=za6 (zaY ds):=by
 unfold zrw;rw[yat];exact ycF _
def zjH(ho:zal ds=true):((zrw ds).map (·.1)).Nodup:=by
 rw[zeE];exact(zbu _).nodup_iff.mpr (zfC ho)
end
section
variable{S:Sto}
noncomputable def nT:D->Str|.int i=>dI i|_=>"-"
noncomputable def OkN(d:D):Prop:=d=.non\/∃i:Nat,i<16/\d=.int i
def zlx{d:D}(h:OkN d):10 ∉ L (nT d)/\32 ∉ L (nT d)/\(L (nT d)).length<=2/\L (nT d)≠[]:=by
 rcases h with rfl|⟨i,hi,rfl⟩
 ·exact(by decide +kernel:10 ∉ L ("-":Str)/\32 ∉ L ("-":Str)/\(L ("-":Str)).length<=2/\L ("-":Str)≠[])
 ·exact zml i hi
def ztf{d:D}(h:OkN d):(nT d).length<=2:=by rw[<-zbM];exact(zlx h).2.2.1
def zfx(h:OkN d):zaV [d] S=.ok (.str (nT d)) S:=by
 rcases h with rfl|⟨i,hi,rfl⟩
 ·have e:zjk .non .non=some (.bl true):=rfl;simp[zaV,zai,zbY,e,nT]
 ·have e:zjk (.int i) .non=some (.bl false):=rfl;simp[zaV,zai,zbY,e,nT,show -1000<=(i:Int)/\(i:Int)<=1000 by omega]
def zet(l:List Nat):(T l).length=l.length:=by rw[<-zbM,L_T]
theorem zdT{α:Type}{f:α->List Nat}:∀{l:List α},(∀a∈l,(f a).length<=B)->(l.map f).flatten.length<=l.length*B
 |[],_=>yaJ _|a::l,h=>by
  rw[yar,yaY,yae,yad,Nat.succ_mul];have:=h a yao;have:=zdT (l:=l) fun x b=>h x (yaj _ b)
  omega
theorem zlT{c B:Nat}:∀{l:List (List Nat)},(∀a∈l,a.length<=B)->(jn c l).length<=l.length*(B+1)
 |[],_=>yaJ _|[a],h=>by have:=h a yao;show a.length<=1*(B+1);omega
 |a::b::r,h=>by
  have h1:=h a yao;have h2:=zlT (c:=c) (l:=b::r) fun x d=>h x (yaj _ d)
  show(a++c::jn c (b::r)).length<=_;rw[yae,yad,yad,Nat.succ_mul];omega
theorem zlS{c:Nat}:∀{ps:List (List Nat)},ps≠[]->(ps.map (·++[c])).flatten=jn c ps++[c]
 |[],h=>absurd rfl h|[a],_=>by simp[jn]
 |a::b::r,_=>by
  rw[yar,yaY,zlS (ycQ b r)];show _=(a++c::jn c (b::r))++[c];simp
noncomputable def fD(k:List Nat):List D:=k.map fun i=>D.int (i:Nat)
noncomputable def kL(k:List Nat):List Nat:=k.map (48+·)
noncomputable def zfm(ks:List (List Nat)):List Nat:=(ks.map fun k=>kL k++[10]).flatten
structure Ks(ks:List (List Nat)):Prop where
 ne:1<=ks.length
 le:ks.length<=16
 four:∀k∈ks,k.length=4
 lt:∀k∈ks,∀i∈k,i<9
def dgs{k:List Nat}(h:∀i∈k,i<9):((k.map fun i=>dg i).map L).flatten=kL k:=by
 induction k with
 |nil=>rfl|cons i k a=>
  rw[yar,yar,yaY,a fun x b=>h x (yaj _ b)];have:=zoa i (h i yao);rw[this];rfl
def zgQ{k:List Nat}(I:k.length=4)(h:∀i∈k,i<9):zbC [.tup (fD k)] S=.ok (.str (T (kL k))) S:=by
 have f:za5 (.one 0) zct (zaF zov [(zac 0)]) [none] (fD k) S=.ok (k.map fun i=>.str (dg i)) S:=by
  have:=zaB (tg:=.one 0) (elt:=zaF zov [(zac 0)]) (aw:=[none]) (S:=S) (ds:=fD k) (g:=fun d=>.str (nT d)) fun d hd=>by
   obtain⟨i,hi,rfl⟩:=yaf.mp hd;have:=h i hi;refine⟨_,rfl,?_⟩;simp[nT,show -1000<=(i:Int)/\(i:Int)<=1000 by omega]
  rw[this];unfold fD;rw[yat];rfl
 have es:=zcE (fun i:Nat=>dg i) k
 have e:JoinOk ("":Str) (k.map fun i:Nat=>dg i)=true:=zeZ (by rw[yab];omega) (fun t a=>by
  obtain⟨i,hi,rfl⟩:=yaf.mp a;have:=(zml i (by have:=h i hi;omega)).2.2.1;rw[zbM]at this
  omega) (by decide +kernel)
 have c:Txt.join ("":Str) (k.map fun i:Nat=>dg i)=T (kL k):=zdp (by rw[zd5,zhn,zgh,dgs h,L_T])
 have b:(k.map fun i:Nat=>D.str (dg i)).length<=100000:=by rw[yab];omega
 simp[zbC,zai,zdy,f,es,e,c,b,show k.length<=100000 by omega]
def zjh(k:List Nat):(kL k).length=k.length:=yab _
def zhS{ks:List (List Nat)}(h:Ks ks):zde [FlD (ks.map fD)] S=.ok (.str (T (zfm ks))) S:=by
 have i:za5 (.one 0) zct (zaf za0 (eFn zbC [(zad 0)]) (zaa (.str "\n"))) [none] ((ks.map fD).map D.tup) S=.ok (ks.map fun k=>.str (T (kL k++[10]))) S:=by
  have:=zaB (tg:=.one 0) (elt:=zaf za0 (eFn zbC [(zad 0)]) (zaa (.str "\n"))) (aw:=[none]) (S:=S) (ds:=ks.map fun k=>D.tup (fD k)) (g:=fun d=>match d with|.tup r=>.str (T (r.flatMap (fun d=>L (nT d))++[10]))|_=>.non) fun d hd=>by
   obtain⟨k,hk,rfl⟩:=yaf.mp hd;refine⟨_,rfl,?_⟩;have e:T (kL k)++("\n":Str)=T (kL k++[10]):=zdp (by rw[zef,L_T,L_T,zdP])
   have e2:(fD k).flatMap (fun d=>L (nT d))=kL k:=by
    rw[<-dgs (h.lt k hk),yat,List.flatMap_def];unfold fD;rw[yat];rfl
   have a:((T (kL k)).length+("\n":Str).length)<=100000:=by rw[zet,zjh,h.four k hk];decide +kernel
   simp[zgQ (h.four k hk) (h.lt k hk),e,e2,a]
  rw[yat];show za5 _ _ _ _ (ks.map fun k=>D.tup (fD k)) S=_;rw[this,yat];congr 1;refine yaN fun k hk=>?_
  show D.str (T ((fD k).flatMap (fun d=>L (nT d))++[10]))=_;rw[<-dgs (h.lt k hk),yat,List.flatMap_def];unfold fD;rw[yat];rfl
 have es:=zcE (fun k=>T (kL k++[10])) ks;have hle:=h.le
 have f:JoinOk ("":Str) (ks.map fun k=>T (kL k++[10]))=true:=zeZ (by rw[yab];omega) (fun t b=>by
  obtain⟨k,hk,rfl⟩:=yaf.mp b
  rw[zet,yae,zjh,h.four k hk];decide) (by decide +kernel)
 have c:Txt.join ("":Str) (ks.map fun k=>T (kL k++[10]))=T (zfm ks):=zdp (by
  rw[zd5,zhn,zgh,L_T,yat];unfold zfm
  congr 1)
 unfold FlD;generalize (ks.map fD).map D.tup=X at*;simp[zde,zai,zea,i,es,f,c,show ks.length<=100000 by omega]
end
section
variable{S:Sto}
structure Fls(rs:List (List D)):Prop where
 ne:1<=rs.length
 le:rs.length<=6
 row:∀r∈rs,1<=r.length/\r.length<=6
 ok:∀r∈rs,∀d∈r,OkN d
def rL(r:List D):List Nat:=jn 32 (r.map fun d=>L (nT d))
def flL(rs:List (List D)):List Nat:=jn 10 (rs.map rL)
def zoE{r:List D}(I:r.length<=6)(h:∀d∈r,OkN d):(rL r).length<=18:=by
 have:=zlT (c:=32) (B:=2) (l:=r.map fun d=>L (nT d)) fun a b=>by
  obtain⟨d,hd,rfl⟩:=yaf.mp b;exact(zlx (h d hd)).2.2.1
 rw[yab]at this;unfold rL;omega
def zhT{r:List D}(I:r.length<=6)(h:∀d∈r,OkN d):zb1 [.tup r] S=.ok (.str (T (rL r))) S:=by
 have e:za5 (.one 0) zct (eFn zaV [(zad 0)]) [none] r S=.ok (r.map fun d=>.str (nT d)) S:=by
  refine zaB fun d hd=>⟨_,rfl,?_⟩
  simp[zfx (h d hd)]
 have es:=zcE nT r
 have c:JoinOk (" ":Str) (r.map nT)=true:=zeZ (by rw[yab];omega) (fun t a=>by
  obtain⟨d,hd,rfl⟩:=yaf.mp a
  have:=ztf (h d hd);omega) (by decide +kernel)
 have b:Txt.join (" ":Str) (r.map nT)=T (rL r):=zdp (by rw[zd5,zpP,ze0,L_T,yat];rfl);simp[zb1,zai,zeb,e,es,c,b,show r.length<=100000 by omega]
def zf4{rs:List (List D)}(h:Fls rs):zcd [FlD rs] S=.ok (.str (T (flL rs))) S:=by
 have hle:=h.le
 have f:za5 (.one 0) zct (eFn zb1 [(zad 0)]) [none] (rs.map D.tup) S=.ok (rs.map fun r=>.str (T (rL r))) S:=by
  have:=zaB (tg:=.one 0) (elt:=eFn zb1 [(zad 0)]) (aw:=[none]) (S:=S) (ds:=rs.map D.tup) (g:=fun d=>match d with|.tup r=>.str (T (rL r))|_=>.non) fun d hd=>by
   obtain⟨r,a,rfl⟩:=yaf.mp hd;refine⟨_,rfl,?_⟩;simp[zhT (h.row r a).2 (h.ok r a)]
  rw[this,yat];rfl
 have es:=zcE (fun r=>T (rL r)) rs
 have e:JoinOk ("\n":Str) (rs.map fun r=>T (rL r))=true:=zeZ (by rw[yab];omega) (fun t b=>by
  obtain⟨r,a,rfl⟩:=yaf.mp b;have:=zoE (h.row r a).2 (h.ok r a)
  rw[zet];omega) (by decide +kernel)
 have c:Txt.join ("\n":Str) (rs.map fun r=>T (rL r))=T (flL rs):=zdp (by
  rw[zd5,zdP,ze0,L_T,yat];unfold flL
  congr 1)
 unfold FlD;generalize rs.map D.tup=X at*;simp[zcd,zai,zc4,f,es,e,c,show rs.length<=100000 by omega]
end
section
variable{S:Sto}{tl:List D}{n:Nat}
noncomputable def zfL(c:Nat):D:=if 48<=c/\c<=56 then .int ((c-48:Nat):Int)else .str "?"
def zl6{c:Nat}:inD (.str ⟨#[c]⟩) (.str "012345678")=some (.bl (decide (48<=c/\c<=56))):=by
 show some (D.bl (!(Builtin.Str.occurrences ("012345678":Str) ⟨#[c]⟩ 0 ("012345678":Str).length 1).isEmpty))=_;rw[ztK]
def zgU{c:Nat}:zbq [.str ⟨#[c]⟩] S=.ok (zfL c) S:=by
 unfold zfL
 by_cases h:48<=c/\c<=56
 ·have e:zjn "012345678" (.str ⟨#[c]⟩)=some (.int ((c-48:Nat):Int)):=by
   show((Builtin.Str.occurrences ("012345678":Str) ⟨#[c]⟩ 0 ("012345678":Str).length 1).head?).map _=_;rw[zuk c h.2 h.1];rfl
  simp[zbq,zai,zcL,zl6,h,e]
 ·simp[zbq,zai,zcL,zl6,h]
def zsL(c:Nat):pc (zfL c)=true:=by unfold zfL;split<;>rfl
def zgR{x:Str}(I:x.length<=9000):zbD [.str x] S=.ok (.tup ((L x).map zfL)) S:=by
 have b:za5 (.one 0) zct (eFn zbq [(zad 0)]) [none] (zhQ x) S=.ok ((L x).map zfL) S:=by
  have:=zaB (tg:=.one 0) (elt:=eFn zbq [(zad 0)]) (aw:=[none]) (S:=S) (ds:=zhQ x) (g:=fun d=>match d with|.str y=>zfL (y.cps.getD 0 0)|_=>.non) fun d hd=>by
   obtain⟨c,_,rfl⟩:=yaf.mp hd;refine⟨_,rfl,?_⟩;simp[zgU]
  rw[this];unfold zhQ;rw[yat];congr 1
 have a:((L x).map zfL).length<=100000:=by rw[yab,zbM];omega
 generalize (L x).map zfL=X at*;simp[zbD,zai,zdz,b,a]
noncomputable def zci(s:Str):List Str:=Txt.split (Txt.slice s none (some (-1))) ⟨#[10]⟩
def rdS(s:Str):List (List D):=(zci s).map fun l=>(L l).map zfL
def zha{s:Str}:(zci s).length<=s.length+1/\∀l∈zci s,l.length<=s.length:=by
 have h1:=zcw (Txt.slice s none (some (-1))) 10;have h2:=yc6 s none (some (-1));exact⟨by unfold zci;omega,fun l a=>yav (h1.2 l a) h2⟩
def zsi{s:Str}(hs:s.length<=8000):Rws (rdS s):=by
 have h:=zha (s:=s);refine⟨by unfold rdS;rw[yab];omega,fun r a=>?_⟩;obtain⟨l,b,rfl⟩:=yaf.mp a;refine⟨by rw[yab,zbM];have:=h.2 l b;omega,fun d hd=>?_⟩;obtain⟨c,_,rfl⟩:=yaf.mp hd;exact zsL c
def zhU{s:Str}(hs:s.length<=8000):zb2 [.str s] S=if(Txt.endswith s "\n" && zjL (rdS s))=true then .ok (FlD (rdS s)) S else .exc "NoText" S:=by
 have h:=zha (s:=s);have m:=yc6 s none (some (-1))
 have j:za5 (.one 0) zct (eFn zbD [(zad 0)]) [none] ((Txt.split (Txt.slice s none (some (-1))) "\n").map D.str) S=.ok ((rdS s).map D.tup) S:=by
  rw[zdP];show za5 _ _ _ _ ((zci s).map D.str) S=_
  have:=zaB (tg:=.one 0) (elt:=eFn zbD [(zad 0)]) (aw:=[none]) (S:=S) (ds:=(zci s).map D.str) (g:=fun d=>match d with|.str y=>.tup ((L y).map zfL)|_=>.non) fun d hd=>by
   obtain⟨l,e,rfl⟩:=yaf.mp hd;refine⟨_,rfl,?_⟩;simp[zgR (show l.length<=9000 by have:=h.2 l e;omega)]
  rw[this,yat];unfold rdS;rw[yat];rfl
 have f:("\n":Str).length=1:=by decide +kernel
 have e:((rdS s).map D.tup).length<=100000:=by unfold rdS;rw[yab,yab];omega
 have c:s.length<=100000:=by omega
 have b:(Txt.slice s none (some (-1))).length<=100000:=by omega
 have a:=zey (S:=S) (zsi hs);have k:FlD (rdS s)=.tup ((rdS s).map D.tup):=rfl;rw[k]at a ⊢;have i:znA (.int 1)=some (.int (-1)):=rfl
 cases he:Txt.endswith s "\n"with
 |false=>simp[zb2,zai,zcz,he,zbz]|true=>
  generalize (rdS s).map D.tup=X at*
  cases hb:zjL (rdS s)with
  |false=>rw[hb]at a;simp[zb2,zai,zcz,he,zbz,j,e,c,b,a,i,f]|true=>rw[hb]at a;simp[zb2,zai,zcz,he,zbz,j,e,c,b,a,i,f]
noncomputable def knD(n:Nat):List (D×D):=(.str "-",.non)::(List.range n).map fun i=>(.str (dg i),.int (i:Nat))
def zto{i:Nat}(hi:i<16):putS (dg i) (.int (i:Nat)) (knD i)=knD (i+1):=by
 have:i=0\/i=1\/i=2\/i=3\/i=4\/i=5\/i=6\/i=7\/i=8\/i=9\/i=10\/i=11\/i=12\/i=13\/i=14\/i=15:=by omega
 rcases this with rfl|rfl|rfl|rfl|rfl|rfl|rfl|rfl|rfl|rfl|rfl|rfl|rfl|rfl|rfl|rfl<;>kernel_rfl
def zlL:∀n,n<17->zal (knD n)=true:=by decide +kernel
noncomputable def isI:Option D->Nat->Bool|some (.int j),i=>j==(i:Int)|_,_=>false
def ztp:∀n,n<17->∀i,i<n->isI (zaj (dg i) (knD n)) i=true:=by decide +kernel
noncomputable def isN:Option D->Bool|some .non=>true|_=>false
def ztq:∀n,n<17->isN (zaj "-" (knD n))=true:=by decide +kernel
noncomputable def OkC(n:Nat)(d:D):Prop:=d=.non\/∃i:Nat,i<n/\d=.int i
def OkC.to{d:D}(h:OkC n d)(I:n<=16):OkN d:=h.imp_right fun⟨i,hi,e⟩=>⟨i,by omega,e⟩
def zlE{d:D}(I:n<=16)(h:OkC n d):zaj (nT d) (knD n)=some d:=by
 rcases h with rfl|⟨i,hi,rfl⟩
 ·have:=ztq n (by omega);show zaj "-" (knD n)=_
  cases e:zaj "-" (knD n)with
  |none=>rw[e]at this;cases this|some d=>rw[e]at this;cases d<;>first|rfl|cases this
 ·have:=ztp n (by omega) i hi;show zaj (dg i) (knD n)=_
  cases e:zaj (dg i) (knD n)with
  |none=>rw[e]at this;cases this|some d=>
   rw[e]at this
   cases d with
   |int j=>rw[eq_of_beq (show(j==(i:Int))=true from this)]|_=>cases this
theorem zge{w:Str}{d:D}:∀(ds:List (D×D)),zaj w ds=some d->(.str w,d)∈ds
 |[],h=>by cases h
 |(k,v)::ds,h=>by
  cases k with
  |str x=>
   have h':(if x=w then some v else zaj w ds)=some d:=h;split at h'
   ·rename_i e;cases h';subst e;exact yao
   ·exact yaj _ (zge ds h')
  |_=>first|cases h|exact yaj _ (zge ds h)
def zjd{w:Str}{d:D}(h:zaj w (knD n)=some d):OkC n d/\nT d=w:=by
 rcases yaq.mp (zge _ h)with e|hm
 ·cases e;exact⟨.inl rfl,rfl⟩
 ·obtain⟨i,hi,e⟩:=yaf.mp hm;cases e;exact⟨.inr ⟨i,ybF.mp hi,rfl⟩,rfl⟩
def zhW(I:tl.length<=16):zba [.tup tl] S=.ok (.dic (knD tl.length)) S:=by
 obtain⟨a,e,y,rfl⟩:=zez (tg:=.one 2) (body:=zbt) (ds:=zbv 0 tl.length) (S:=S) (fun k ρ=>∃y,ρ=[some (false,.tup tl),some (true,.dic (knD k)),y]) (by
  rintro k d ρ hd ⟨y,rfl⟩;obtain⟨rfl,hk⟩:=zcx hd;refine⟨_,_,rfl,?_,some (false,.int k),rfl⟩;have o:=zlL k (by omega)
  have hs:zfl 1 [some (false,.tup tl),some (true,.dic (knD k)),some (false,.int k)]=some (knD k):=by
   show(if zal (knD k)&&zau (knD k).length then some (knD k)else none)=_;rw[o,if_pos];exact yap (by unfold knD;rw[yad,yab,yca];omega)
  rw[<-zto (show k<16 by omega)]
  simp[zbt,zku,hs,zfx (S:=S) (.inr ⟨k,by omega,rfl⟩),nT])
  (ρ:=[some (false,.tup tl),some (true,.dic (knD 0)),none]) ⟨none,rfl⟩
 rw[zdO]at e;simp only[ycD]at e;have b:knD 0=[(.str "-",.non)]:=rfl;rw[b]at e;simp[zba,zai,zbF,e,show -1000000<=(tl.length:Int)/\(tl.length:Int)<=1000000 by omega]
def ce(n:Nat)(w:Str):D:=(zaj w (knD n)).getD (.str "?")
def zvy{w:Str}:pc (ce n w)=true:=by
 unfold ce
 cases h:zaj w (knD n)with
 |none=>rfl|some d=>rcases(zjd h).1 with rfl|⟨i,_,rfl⟩<;>rfl
def zhV{x:Str}(J:n<=16)(I:x.length<=8000):zb3 [.dic (knD n),.str x] S=.ok (.tup ((Txt.split x ⟨#[32]⟩).map (ce n))) S:=by
 have h:=zcw x 32
 have c:za5 (.one 0) zct (zep (zad 1) (zad 0) (zaa (.str "?"))) [none,some (false,.dic (knD n))] ((Txt.split x " ").map D.str) S=.ok ((Txt.split x ⟨#[32]⟩).map (ce n)) S:=by
  rw[zpP]
  have:=zaB (tg:=.one 0) (elt:=zep (zad 1) (zad 0) (zaa (.str "?"))) (aw:=[none,some (false,.dic (knD n))]) (S:=S) (ds:=(Txt.split x ⟨#[32]⟩).map D.str) (g:=fun d=>match d with|.str y=>ce n y|_=>.non) fun d hd=>by
   obtain⟨l,a,rfl⟩:=yaf.mp hd;refine⟨_,rfl,?_⟩;simp[zlL n (by omega),ce]
  rw[this,yat];rfl
 have b:(" ":Str).length=1:=by decide +kernel
 have a:((Txt.split x ⟨#[32]⟩).map (ce n)).length<=100000:=by rw[yab];omega
 generalize (Txt.split x ⟨#[32]⟩).map (ce n)=X at*;simp[zb3,zai,zec,c,a,zmw,b,show x.length<=100000 by omega]
def rdF(n:Nat)(s:Str):List (List D):=(Txt.split s ⟨#[10]⟩).map fun l=>(Txt.split l ⟨#[32]⟩).map (ce n)
def zvq{s:Str}(hs:s.length<=8000):Rws (rdF n s):=by
 have h:=zcw s 10;refine⟨by unfold rdF;rw[yab];omega,fun r a=>?_⟩;obtain⟨l,b,rfl⟩:=yaf.mp a;have h2:=zcw l 32;refine⟨by rw[yab];have:=h.2 l b;omega,fun d hd=>?_⟩;obtain⟨w,_,rfl⟩:=yaf.mp hd;exact zvy
def zf2{s:Str}(I:tl.length<=16)(hs:s.length<=8000):za7 [.tup tl,.str s] S=if zck tl.length (rdF tl.length s)=true then .ok (FlD (rdF tl.length s)) S else .exc "NoText" S:=by
 have h:=zcw s 10
 have i:za5 (.one 0) zct (eFn zb3 [(zad 1),(zad 0)]) [none,some (false,.dic (knD tl.length))] ((Txt.split s "\n").map D.str) S=.ok ((rdF tl.length s).map D.tup) S:=by
  rw[zdP]
  have:=zaB (tg:=.one 0) (elt:=eFn zb3 [(zad 1),(zad 0)]) (aw:=[none,some (false,.dic (knD tl.length))]) (S:=S) (ds:=(Txt.split s ⟨#[10]⟩).map D.str) (g:=fun d=>match d with|.str y=>.tup ((Txt.split y ⟨#[32]⟩).map (ce tl.length))|_=>.non) fun d hd=>by
   obtain⟨l,c,rfl⟩:=yaf.mp hd;refine⟨_,rfl,?_⟩;simp[zhV I (show l.length<=8000 by have:=h.2 l c;omega)]
  rw[this,yat];unfold rdF;rw[yat];rfl
 have e:("\n":Str).length=1:=by decide +kernel
 have c:((rdF tl.length s).map D.tup).length<=100000:=by unfold rdF;rw[yab,yab];omega
 have b:s.length<=100000:=by omega
 have a:=zfy (S:=S) (tl:=tl) (zvq (n:=tl.length) hs);have f:=zhW (S:=S) I;have j:FlD (rdF tl.length s)=.tup ((rdF tl.length s).map D.tup):=rfl;rw[j]at a ⊢;generalize (rdF tl.length s).map D.tup=X at*
 cases hb:zck tl.length (rdF tl.length s)with
 |false=>rw[hb]at a;simp[za7,zai,zcl,f,zbz,i,c,b,a,e,zmw]|true=>rw[hb]at a;simp[za7,zai,zcl,f,zbz,i,c,b,a,e,zmw]
end
section
variable{S:Sto}{n:Nat}
def zt6{c:Nat}(h:zmt (zfL c)=true):48<=c/\c<=56:=by
 unfold zfL at h;split at h
 ·assumption
 ·cases h
def zpe{c:Nat}(h:48<=c/\c<=56):zfL c=.int ((c-48:Nat):Int):=if_pos h
noncomputable def unL(l:List Nat):List Nat:=l.map (·-48)
theorem zms:∀{l:List Nat},(l.map zfL).all zmt=true->l.map zfL=fD (unL l)/\kL (unL l)=l/\∀i∈unL l,i<9
 |[],_=>⟨rfl,rfl,fun _ h=>nomatch h⟩|c::l,h=>by
  rw[yar,ya8,yaa]at h;have a:=zt6 h.1;obtain⟨h1,h2,b⟩:=zms h.2;refine⟨?_,?_,fun i hi=>?_⟩
  ·rw[yar,h1,zpe a];rfl
  ·show(48+(c-48))::kL (unL l)=c::l;rw[h2,show 48+(c-48)=c by omega]
  ·rcases yaq.mp hi with rfl|hi
   ·show c-48<9;omega
   ·exact b i hi
def zgO{ks:List (List Nat)}(h:ks≠[]):zfm ks=jn 10 (ks.map kL)++[10]:=by
 have:=zlS (c:=10) (ps:=ks.map kL) (fun z=>h (ybb.mp z));rwa[yat]at this
def zol{s:Str}(he:Txt.endswith s "\n"=true)(hb:zjL (rdS s)=true):∃ks,Ks ks/\rdS s=ks.map fD/\s=T (zfm ks):=by
 rw[zdP]at he;obtain⟨b,hs⟩:=(zff s).mp he;unfold zjL at hb;rw[yaa,yaa,yaA]at hb;obtain⟨hlen,g,_⟩:=hb;have j:(rdS s).length=(zci s).length:=yab _
 have row:∀l∈zci s,(L l).map zfL=fD (unL (L l))/\kL (unL (L l))=L l/\(∀i∈unL (L l),i<9)/\(L l).length=4:=fun l d=>by
  have h:=yaK.mp g _ (yaX (f:=fun l=>(L l).map zfL) d);unfold zer at h;rw[yaa,yaA,yab]at h;obtain⟨a,b,c⟩:=zms h.2;exact⟨a,b,c,h.1⟩
 refine⟨(zci s).map fun l=>unL (L l),⟨?_,?_,fun k hk=>?_,fun k hk=>?_⟩,?_,?_⟩
 ·rw[yab];omega
 ·rw[yab];omega
 ·obtain⟨l,d,rfl⟩:=yaf.mp hk;unfold unL;rw[yab];exact(row l d).2.2.2
 ·obtain⟨l,d,rfl⟩:=yaf.mp hk;exact(row l d).2.2.1
 ·unfold rdS;rw[yat];exact yaN fun l d=>(row l d).1
 ·refine zdp ?_;rw[L_T (zfm _),zgO (fun z=>by have:=hlen.1;rw[j,ybb.mp z]at this;cases this),yat,hs];have e:(zci s).map (kL∘fun l=>unL (L l))=(zci s).map L:=yaN fun l d=>(row l d).2.1
  rw[e];unfold zci;rw[zcF,zdd hs,L_T b]
def zq6{ks:List (List Nat)}(h:Ks ks):Txt.endswith (T (zfm ks)) "\n"=true/\rdS (T (zfm ks))=ks.map fD:=by
 have a:ks≠[]:=fun z=>by have:=h.ne;rw[z]at this;cases this
 have hs:L (T (zfm ks))=jn 10 (ks.map kL)++[10]:=by rw[L_T,zgO a]
 refine⟨by rw[zdP];exact(zff _).mpr ⟨_,hs⟩,?_⟩
 have c:zci (T (zfm ks))=ks.map fun k=>T (kL k):=by
  unfold zci;rw[zdd hs];refine zd1 (fun z=>a (ybb.mp z)) (fun p b=>?_) ?_
  ·obtain⟨k,hk,rfl⟩:=yaf.mp b;rw[L_T];intro z;obtain⟨i,_,e⟩:=yaf.mp z;omega
  ·rw[L_T,yat];congr 1
 unfold rdS;rw[c,yat];refine yaN fun k hk=>?_
 show(L (T (kL k))).map zfL=fD k;rw[L_T];unfold kL fD;rw[yat];refine yaN fun i hi=>?_
 have:=h.lt k hk i hi;show zfL (48+i)=_;rw[zpe ⟨by omega,by omega⟩,show 48+i-48=i by omega]
def ztk{d:D}{w:Str}(e:ce n w=d)(h:znF n d=true):OkC n d/\nT d=w:=by
 unfold ce at e
 cases a:zaj w (knD n)with
 |none=>rw[a]at e;subst e;cases h|some d'=>rw[a]at e;cases e;exact zjd a
def zkd{s:Str}(I:n<=16)(hb:zck n (rdF n s)=true):Fls (rdF n s)/\(∀r∈rdF n s,∀d∈r,OkC n d)/\s=T (flL (rdF n s)):=by
 unfold zck at hb;rw[yaa,yaa,yaA]at hb;obtain⟨hlen,g,_⟩:=hb
 have row:∀l∈Txt.split s ⟨#[10]⟩,(1<=(Txt.split l ⟨#[32]⟩).length/\(Txt.split l ⟨#[32]⟩).length<=6)/\∀w∈Txt.split l ⟨#[32]⟩,OkC n (ce n w)/\nT (ce n w)=w:=fun l a=>by
  have h:=yaK.mp g _ (yaX (f:=fun l=>(Txt.split l ⟨#[32]⟩).map (ce n)) a);unfold rowB at h;rw[yaa,yaA,yab]at h;exact⟨h.1,fun w b=>ztk rfl (yaK.mp h.2 _ (yaX b))⟩
 have cells:∀r∈rdF n s,∀d∈r,OkC n d:=fun r c d hd=>by
  obtain⟨l,a,rfl⟩:=yaf.mp c;obtain⟨w,b,rfl⟩:=yaf.mp hd;exact((row l a).2 w b).1
 refine⟨⟨hlen.1,hlen.2,fun r c=>?_,fun r c d hd=>(cells r c d hd).to I⟩,cells,zdp ?_⟩
 ·obtain⟨l,a,rfl⟩:=yaf.mp c;rw[yab];exact(row l a).1
 ·rw[L_T (flL _)];unfold flL rdF;rw[yat]
  have e:(Txt.split s ⟨#[10]⟩).map (rL∘fun l=>(Txt.split l ⟨#[32]⟩).map (ce n))=(Txt.split s ⟨#[10]⟩).map L:=yaN fun l a=>by
   show rL ((Txt.split l ⟨#[32]⟩).map (ce n))=L l;unfold rL;rw[yat,<-zcF l 32];congr 1;exact yaN fun w b=>congrArg L ((row l a).2 w b).2
  rw[e,zcF]
theorem zic{c x:Nat}(I:x≠c):∀{ps:List (List Nat)},(∀p∈ps,x ∉ p)->x ∉ jn c ps
 |[],_=>fun z=>nomatch z|[a],h=>h a yao|a::b::r,h=>fun z=>by
  rcases yay.mp (show x∈a++c::jn c (b::r)from z)with z|z
  ·exact h a yao z
  ·rcases yaq.mp z with z|z
   ·exact I z
   ·exact zic I (fun p d=>h p (yaj _ d)) z
def zmb{rs:List (List D)}(I:n<=16)(h:Fls rs)(J:∀r∈rs,∀d∈r,OkC n d):rdF n (T (flL rs))=rs:=by
 have e:rs≠[]:=fun z=>by have:=h.ne;rw[z]at this;cases this
 have f:Txt.split (T (flL rs)) ⟨#[10]⟩=rs.map fun r=>T (rL r):=by
  refine zd1 (fun z=>e (ybb.mp z)) (fun p c=>?_) ?_
  ·obtain⟨r,b,rfl⟩:=yaf.mp c;rw[L_T];refine zic (by decide) fun p c=>?_
   obtain⟨d,hd,rfl⟩:=yaf.mp c;exact(zlx (h.ok r b d hd)).1
  ·rw[L_T,yat];unfold flL;congr 1
 unfold rdF;rw[f,yat]
 have:∀r∈rs,((fun l=>(Txt.split l ⟨#[32]⟩).map (ce n))∘fun r=>T (rL r)) r=id r:=fun r b=>by
  have a:=(h.row r b).1
  have e2:Txt.split (T (rL r)) ⟨#[32]⟩=r.map nT:=by
   refine zd1 (fun z=>by rw[ybb.mp z]at a;cases a) (fun p c=>?_) ?_
   ·obtain⟨d,hd,rfl⟩:=yaf.mp c;exact(zlx (h.ok r b d hd)).2.1
   ·rw[L_T,yat];rfl
  show(Txt.split (T (rL r)) ⟨#[32]⟩).map (ce n)=r;rw[e2,yat]
  have:∀d∈r,(ce n∘nT) d=id d:=fun d hd=>by
   show ce n (nT d)=d;unfold ce;rw[zlE I (J r b d hd)];rfl
  rw[yaN this,ycF]
 rw[yaN this,ycF]
end
end S2
namespace TX
open PySem StrLaws Builtin Builtin.Str
noncomputable def Y:Str:=⟨#[10,45,45,10]⟩
noncomputable def nn(q:List Nat):Prop:=∀i,¬ (q[i]?=some 45/\q[i+1]?=some 45)
noncomputable def jy:List (List Nat)->List Nat
 |[]=>[]|[x]=>x|x::y::r=>x++[10,45,45,10]++jy (y::r)
theorem zfN{s sub:Str}{hi:Nat}:∀{c1 c2:List Nat}{a f1 f2:Nat},ChainG s sub hi a c1 f1->(∀k,f1<=k->¬ At s sub hi k)->ChainG s sub hi a c2 f2->(∀k,f2<=k->¬ At s sub hi k)->c1=c2
 |[],[],_,_,_,_,_,_,_=>rfl|[],c::r,a,f1,f2,h1,f,h2,_=>by
  have e:f1=a:=h1;subst e;exact absurd h2.2.1 (f c h2.1)
 |c::r,[],a,f1,f2,h1,_,h2,b=>by
  have e:f2=a:=h2;subst e;exact absurd h1.2.1 (b c h1.1)
 |c::r,d::t,a,f1,f2,h1,f,h2,b=>by
  have e:c=d:=by
   rcases yde c d with h|h|h
   ·exact absurd h1.2.1 (h2.2.2.1 c h1.1 h)
   ·exact h
   ·exact absurd h2.2.1 (h1.2.2.1 d h2.1 h)
  subst e;rw[zfN h1.2.2.2 f h2.2.2.2 b]
def zom{x:Str}{k:Nat}(h:At x Y x.length k):(L x)[k]?=some 10/\(L x)[k+1]?=some 45/\(L x)[k+2]?=some 45:=by
 have e:=h.2;rw[subAt_eq]at e;have e:=eq_of_beq e
 have g:∀i,i<4->(L x)[k+i]?=(L Y)[i]?:=fun i hi=>by
  show _=Y.cps.toList[i]?;rw[<-e,List.getElem?_take_of_lt (show i<Y.length from hi),ybE]
 exact⟨g 0 (by decide),g 1 (by decide),g 2 (by decide)⟩
def zs8{x:Str}{pre q post:List Nat}(I:L x=pre++(q++post))(J:nn q)(U:post=[]\/∃t,post=10::t){k:Nat}(h1:pre.length<=k)(h2:k<pre.length+q.length\/post=[]):¬ At x Y x.length k:=by
 intro h;obtain⟨_,g1,g2⟩:=zom h;obtain⟨i,rfl⟩:∃i,k=pre.length+i:=⟨k-pre.length,by omega⟩;rw[I,yax (by omega)]at g1 g2;rw[show pre.length+i+1-pre.length=i+1 by omega]at g1;rw[show pre.length+i+2-pre.length=i+1+1 by omega]at g2
 by_cases hi:i+1+1<q.length
 ·rw[yaI (by omega)]at g1;rw[yaI hi]at g2;exact J (i+1) ⟨g1,g2⟩
 ·rcases U with rfl|⟨t,rfl⟩
  ·rw[yaQ,List.getElem?_eq_none (by omega)]at g2;cases g2
  ·rcases h2 with h2|h2
   ·by_cases a:i+1<q.length
    ·rw[yax (by omega),show i+1+1-q.length=0 by omega]at g2;cases g2
    ·rw[yax (by omega),show i+1-q.length=0 by omega]at g1;cases g1
   ·cases h2
def zfW{x:Str}{pre q post:List Nat}(I:L x=pre++(q++post)):strSub x pre.length (pre.length+q.length)=T q:=by
 apply zdp;show(strSub x _ _).cps.toList=_;rw[strSub_toList,L_T,show x.cps.toList=pre++(q++post)from I,List.drop_left,Nat.add_sub_cancel_left,List.take_left]
def ztD{x:Str}:x.length=(L x).length:=(zbM x).symm
theorem zpf:∀(Q:List (List Nat)) (pre:List Nat) (x:Str),Q≠[]->L x=pre++jy Q->(∀q∈Q,nn q)->∃I f,ChainG x Y x.length pre.length I f/\(∀k,f<=k->¬ At x Y x.length k)/\partsFrom x 4 pre.length I=Q.map T
 |[],_,_,h,_,_=>absurd rfl h|[q],pre,x,_,e,d=>by
  have a:L x=pre++(q++[]):=by rw[yaQ];exact e
  refine⟨[],pre.length,rfl,fun k hk=>zs8 a (d q (.head _)) (.inl rfl) hk (.inr rfl),?_⟩;show[strSub x pre.length x.length]=[T q];rw[<-zfW a,ztD,a,yae,yaQ]
 |q::b::r,pre,x,_,e,d=>by
  have a:L x=pre++(q++([10,45,45,10]++jy (b::r))):=by
   rw[e];show pre++(q++[10,45,45,10]++jy (b::r))=_;rw[ybc q]
  have c:L x=(pre++q++[10,45,45,10])++jy (b::r):=by
   rw[a];simp
  obtain⟨I,f,c1,c2,i⟩:=zpf (b::r) (pre++q++[10,45,45,10]) x (by simp) c (fun z j=>d z (.tail _ j))
  have g:(pre++q++[10,45,45,10]).length=pre.length+q.length+Y.length:=by rw[yae,yae];rfl
  rw[g]at c1 i;refine⟨(pre.length+q.length)::I,f,⟨Nat.le_add_right _ _,⟨?_,?_⟩,fun k h1 h2=>zs8 a (d q (.head _)) (.inr ⟨_,rfl⟩) h1 (.inl h2),c1⟩,c2,?_⟩
  ·have:=congrArg List.length c;rw[yae,g,zbM]at this;omega
  ·rw[subAt_eq]
   have:(x.cps.toList.drop (pre.length+q.length)).take Y.length=L Y:=by
    rw[show x.cps.toList=(pre++q)++([10,45,45,10]++jy (b::r))by rw[show x.cps.toList=L x from rfl,a];simp,<-yae,List.drop_left];rfl
   rw[this];exact ybq _
  ·show strSub x pre.length (pre.length+q.length)::partsFrom x 4 (pre.length+q.length+4) I=_;rw[zfW a];exact congrArg (T q::·) i
def zpN{x:Str}{Q:List (List Nat)}(U:Q≠[])(I:L x=jy Q)(J:∀q∈Q,nn q)(hk:(Builtin.Str.strKind x<Builtin.Str.strKind Y)=False):Txt.split x Y=Q.map T:=by
 obtain⟨a,f,c1,c2,b⟩:=zpf Q [] x U I J;obtain⟨i,g,d⟩:=occ_tight x Y (by decide);have e:=zfN g d c1 c2
 have whole:a=[]->Q.map T=[x]:=fun h=>by
  subst h;rw[<-b];show[strSub x 0 x.length]=[x];rw[sub_whole]
 unfold Txt.split;split
 ·rename_i h;rw[ycu,yaA,yaA]at h
  rcases h with h|h
  ·refine(whole ?_).symm
   cases a with
   |nil=>rfl|cons c r=>have:=c1.2.1.1;omega
  ·rw[hk]at h;exact h.elim
 ·split
  ·rename_i h;rw[e]at h;exact(whole (List.isEmpty_iff.mp h)).symm
  ·rw[e,partsBetween_eq];exact b
def zh3{a b:List Nat}(I:10 ∉ a):Txt.partition (T (a++10::b)) ⟨#[10]⟩=(T a,⟨#[10]⟩,T b):=by
 have c:L (T (a++10::b))=a++10::b:=L_T _
 have d:At (T (a++10::b)) ⟨#[10]⟩ (T (a++10::b)).length a.length:=by
  refine(subAt_one _ _ _).mpr ?_;show(L (T (a++10::b)))[a.length]?=some 10;rw[c,yax (yai _),ycO];rfl
 have f:∀k,k<a.length->¬ At (T (a++10::b)) ⟨#[10]⟩ (T (a++10::b)).length k:=fun k hk h=>by
  have h:=(subAt_one _ _ _).mp h;have h:(L (T (a++10::b)))[k]?=some 10:=h;rw[c,yaI hk]at h;exact I (ya4 h)
 unfold Txt.partition
 rcases occ_head (T (a++10::b)) ⟨#[10]⟩ 1 (yai _)with⟨e,n⟩|⟨i,r,e,h1,h2⟩
 ·exact absurd d (n _)
 ·have g:i=a.length:=by
   rcases yde i a.length with h|h|h
   ·exact absurd h1 (f i h)
   ·exact h
   ·exact absurd d (h2 _ h)
  rw[e];subst g
  have l1:(T (a++10::b)).length=a.length+1+b.length:=by rw[<-zbM,c,yae,yad];omega
  have s1:strSub (T (a++10::b)) 0 a.length=T a:=by
   have:=zfW (x:=T (a++10::b)) (pre:=[]) (q:=a) (post:=10::b) c;rwa[yb5,yc5]at this
  have s2:strSub (T (a++10::b)) (a.length+1) (a.length+1+b.length)=T b:=by
   have:=zfW (x:=T (a++10::b)) (pre:=a++[10]) (q:=b) (post:=[]) (by rw[c];simp);rwa[yae]at this
  show(strSub _ 0 a.length,_,strSub _ (a.length+1) _)=_;rw[l1,s1,s2]
end TX
namespace S2
open PySem
open L2 hiding D
def zmk(und:Str->Str->Bool)(isx:Str->Str->Option Bool):Fs:=
  (zag (sFz [] (sIf (zaf eqD (zaf ixD (zac 1) (zaa (.int 0))) (zaa (.str "join"))) (zag (sFz [0,1] (zbd (zdo und isx [0,1] (zbx "Album" "join" zak (zad 0) [(zaf ixD (zac 1) (zaa (.int 1))),(zaf ixD (zac 1) (zaa (.int 2))),(zaf ixD (zac 1) (zaa (.int 3))),(zaf ixD (zac 1) (zaa (.int 4)))])))) sNx) sNx))
  (zag (sFz [0,1] (zbd (zdo und isx [0,1] (eIf (zaf eqD (zaf ixD (zac 1) (zaa (.int 0))) (zaa (.str "put"))) (zbx "Album" "put" zaP (zad 0) [(zaf ixD (zac 1) (zaa (.int 1))),(zaf ixD (zac 1) (zaa (.int 2)))]) (zbx "Album" "take" zay (zad 0) [(zaf ixD (zac 1) (zaa (.int 1)))])))))
  sNx))
structure ClsT(und:Str->Str->Bool)(isx:Str->Str->Option Bool):Prop where
 u1:und "NoName" "FloorError"=true
 u2:und "Unlike" "FloorError"=true
 c1:∀S,zmG isx "NoName" S=.ok (.str "no name") S
 c2:∀S,zmG isx "Unlike" S=.ok (.str "unlike") S
def zdv(und:Str->Str->Bool)(isx:Str->Str->Option Bool):Out D->Out D|.ok d S'=>.ok d S'|.exc c S'=>if und c "FloorError"then zmG isx c S' else .bad|.bad=>.bad
section
variable{und:Str->Str->Bool}{isx:Str->Str->Option Bool}{S:Sto}{m:Nat}{deed:D}
def zgF{ρ:Env}{caps:List Nat}{fb:Fe}{ds:List D}(h:zhw ρ caps=some ds):zdo und isx caps fb ρ S=zdv und isx (fb (ds.map fun d=>some (false,d)) S):=by
 unfold zdo;rw[h];dsimp only
 cases fb (ds.map fun d=>some (false,d)) S<;>rfl
def zn9{k k1 k2:Str}{b:Bool}(hm:zaS "Album" "join" (.ref m) S=true):zbh 2 false (zmk und isx) [.ref m,.tup [.str "join",.str k,.str k1,.str k2,.bl b]] S=zdv und isx (zak [.ref m,.str k,.str k1,.str k2,.bl b] S):=by
 have d0:ixD (.tup [.str "join",.str k,.str k1,.str k2,.bl b]) (.int 0)=some (.str "join"):=zax _ 0;have g:ixD (.tup [.str "join",.str k,.str k1,.str k2,.bl b]) (.int 1)=some (.str k):=zax _ 1;have f:ixD (.tup [.str "join",.str k,.str k1,.str k2,.bl b]) (.int 2)=some (.str k1):=zax _ 2;have e:ixD (.tup [.str "join",.str k,.str k1,.str k2,.bl b]) (.int 3)=some (.str k2):=zax _ 3;have d:ixD (.tup [.str "join",.str k,.str k1,.str k2,.bl b]) (.int 4)=some (.bl b):=zax _ 4;generalize D.tup [.str "join",.str k,.str k1,.str k2,.bl b]=deed at*
 have a:zdo und isx [0,1] (zbx "Album" "join" zak (zad 0) [(zaf ixD (zac 1) (zaa (.int 1))),(zaf ixD (zac 1) (zaa (.int 2))),(zaf ixD (zac 1) (zaa (.int 3))),(zaf ixD (zac 1) (zaa (.int 4)))]) [some (false,.ref m),some (false,deed)] S=zdv und isx (zak [.ref m,.str k,.str k1,.str k2,.bl b] S):=by
  rw[zgF (ds:=[.ref m,deed]) rfl];simp[hm,g,f,e,d]
 cases c:zdv und isx (zak [.ref m,.str k,.str k1,.str k2,.bl b] S)<;>rw[c]at a<;>simp[zai,zmk,d0,zwb,a]
 all_goals rfl
def zrf{k:Str}{F:D}(hm:zaS "Album" "put" (.ref m) S=true):zbh 2 false (zmk und isx) [.ref m,.tup [.str "put",.str k,F]] S=zdv und isx (zaP [.ref m,.str k,F] S):=by
 have d0:ixD (.tup [.str "put",.str k,F]) (.int 0)=some (.str "put"):=zax _ 0;have d:ixD (.tup [.str "put",.str k,F]) (.int 1)=some (.str k):=zax _ 1;have c:ixD (.tup [.str "put",.str k,F]) (.int 2)=some F:=zax _ 2;generalize D.tup [.str "put",.str k,F]=deed at*
 have a:zdo und isx [0,1] (eIf (zaf eqD (zaf ixD (zac 1) (zaa (.int 0))) (zaa (.str "put"))) (zbx "Album" "put" zaP (zad 0) [(zaf ixD (zac 1) (zaa (.int 1))),(zaf ixD (zac 1) (zaa (.int 2)))]) (zbx "Album" "take" zay (zad 0) [(zaf ixD (zac 1) (zaa (.int 1)))])) [some (false,.ref m),some (false,deed)] S=zdv und isx (zaP [.ref m,.str k,F] S):=by
  rw[zgF (ds:=[.ref m,deed]) rfl];simp[hm,d0,d,c,zv9]
 cases b:zdv und isx (zaP [.ref m,.str k,F] S)<;>rw[b]at a<;>simp[zai,zmk,d0,zwa,a]
 all_goals rfl
def zn8{k:Str}(hm:zaS "Album" "take" (.ref m) S=true):zbh 2 false (zmk und isx) [.ref m,.tup [.str "take",.str k]] S=zdv und isx (zay [.ref m,.str k] S):=by
 have d0:ixD (.tup [.str "take",.str k]) (.int 0)=some (.str "take"):=zax _ 0;have c:ixD (.tup [.str "take",.str k]) (.int 1)=some (.str k):=zax _ 1;generalize D.tup [.str "take",.str k]=deed at*
 have a:zdo und isx [0,1] (eIf (zaf eqD (zaf ixD (zac 1) (zaa (.int 0))) (zaa (.str "put"))) (zbx "Album" "put" zaP (zad 0) [(zaf ixD (zac 1) (zaa (.int 1))),(zaf ixD (zac 1) (zaa (.int 2)))]) (zbx "Album" "take" zay (zad 0) [(zaf ixD (zac 1) (zaa (.int 1)))])) [some (false,.ref m),some (false,deed)] S=zdv und isx (zay [.ref m,.str k] S):=by
  rw[zgF (ds:=[.ref m,deed]) rfl];simp[hm,d0,c,zv7]
 cases b:zdv und isx (zay [.ref m,.str k] S)<;>rw[b]at a<;>simp[zai,zmk,d0,zv8,a]
 all_goals rfl
end
noncomputable def zpk(n:Nat)(d:D):Prop:=∃rs c,d=FlD rs/\FlOk n c rs/\rs.length<=6/\c<=6
structure AV(n:Nat)(ds:List (D×D)):Prop where
 key:zwv ds
 val:∀x d,zaj x ds=some d->zpk n d
section
variable{n:Nat}{ds es:List (D×D)}{k:Str}{d:D}
def AV.put(h:AV n ds)(ho:zal ds=true)(hk:zcU k)(hd:zpk n d):AV n (putS k d ds):=by
 refine⟨fun x e a=>?_,fun x e a=>?_⟩<;>rw[zgd ho]at a<;>split at a
 ·rename_i q;rw[<-q];exact hk
 ·exact h.key x e a
 ·cases a;exact hd
 ·exact h.val x e a
def AV.drop(h:AV n ds)(ho:zal ds=true):AV n (dropS k ds):=by
 refine⟨fun x e a=>?_,fun x e a=>?_⟩<;>rw[zeT ho]at a<;>split at a
 ·cases a
 ·exact h.key x e a
 ·cases a
 ·exact h.val x e a
theorem zh0:∀{ds:List (D×D)},(putS k d ds).length<=ds.length+1
 |[]=>yai _|(.str x,e)::r=>by
  unfold putS;split
  ·exact ybH _
  ·exact Nat.succ_le_succ zh0
 |(.non,_)::_=>by show 1<=_;rw[yad];omega
 |(.bl _,_)::_=>by show 1<=_;rw[yad];omega
 |(.int _,_)::_=>by show 1<=_;rw[yad];omega
 |(.tup _,_)::_=>by show 1<=_;rw[yad];omega
 |(.lst _,_)::_=>by show 1<=_;rw[yad];omega
 |(.dic _,_)::_=>by show 1<=_;rw[yad];omega
 |(.ref _,_)::_=>by show 1<=_;rw[yad];omega
 |(.exc _,_)::_=>by show 1<=_;rw[yad];omega
 |(.scr _,_)::_=>by show 1<=_;rw[yad];omega
noncomputable def zrA(und:Str->Str->Bool)(isx:Str->Str->Option Bool)(S:Sto)(m:Nat)(tl dn:List D)(ds:List (D×D))(deed:D):Prop:=∃a ds' dn' un',zbh 2 false (zmk und isx) [.ref m,deed] S=.ok a (S.set m (alb (.tup tl) ds' dn' un'))/\zal ds'=true/\AV tl.length ds'/\ds'.length<=ds.length+1/\dn'.length<=dn.length+1
def zrh{und:Str->Str->Bool}{isx:Str->Str->Option Bool}(C:ClsT und isx){S:Sto}{m:Nat}{tl dn un:List D}{deed:D}(h:S[m]?=some (alb (.tup tl) ds dn un))(ho:zal ds=true)(V:AV tl.length ds)(J:ds.length<=60)(hd:dn.length<=1000)(I:DeedOk tl.length deed):zrA und isx S m tl dn ds deed:=by
 have stay:∀{j:D},zbh 2 false (zmk und isx) [.ref m,deed] S=.ok j S->zrA und isx S m tl dn ds deed:=fun {j} e=>⟨j,ds,dn,un,by rw[ziY h];exact e,ho,V,ybH _,ybH _⟩
 have no:zbh 2 false (zmk und isx) [.ref m,deed] S=zdv und isx (.exc "NoName" S)->zrA und isx S m tl dn ds deed:=fun e=>stay (e.trans (by show(if und "NoName" "FloorError"then _ else _)=_;rw[if_pos C.u1,C.c1]))
 have un':zbh 2 false (zmk und isx) [.ref m,deed] S=zdv und isx (.exc "Unlike" S)->zrA und isx S m tl dn ds deed:=fun e=>stay (e.trans (by show(if und "Unlike" "FloorError"then _ else _)=_;rw[if_pos C.u2,C.c2]))
 cases I with
 |put hk hf p q=>
  rename_i k rs c;have i:=zeL (S:=S) hf (by omega) (by omega);rw[yap ⟨p,q⟩]at i;have e2:=zrf (und:=und) (isx:=isx) (k:=k) (F:=FlD rs) (m:=m) (S:=S) (zbf h (by decide));rw[zp6 hk rfl h ho (by omega) (by omega) i]at e2;exact⟨_,_,_,_,e2,zf8 ho,V.put ho hk ⟨rs,c,rfl,hf,p,q⟩,zh0,by rw[yae];exact yai _⟩
 |take hk=>
  rename_i k;have e2:=zn8 (und:=und) (isx:=isx) (k:=k) (m:=m) (S:=S) (zbf h (by decide))
  cases f:zaj k ds with
  |none=>rw[zhR hk h ho f]at e2;exact no e2|some F=>
   rw[zmZ hk h ho (by omega) (by omega) f]at e2;exact⟨_,_,_,_,e2,zg4 ho,V.drop ho,yav zjw (ybH _),by rw[yae];exact yai _⟩
 |join hk d g=>
  rename_i k k1 k2 b;have e2:=zn9 (und:=und) (isx:=isx) (k:=k) (k1:=k1) (k2:=k2) (b:=b) (m:=m) (S:=S) (zbf h (by decide))
  cases f:zaj k1 ds with
  |none=>rw[zgT hk d h ho f]at e2;exact no e2|some x=>
   cases l:zaj k2 ds with
   |none=>rw[zgS hk d g h ho f l]at e2;exact no e2|some y=>
    obtain⟨rs,c,rfl,f1,s,c1⟩:=V.val k1 x f;obtain⟨rs',c',rfl,f2,r2,c2⟩:=V.val k2 y l
    have yes:∀(z:List (List D)) (n:Nat),FlOk tl.length n z->z.length<=100->n<=100->zia b (FlD rs) (FlD rs') S=.ok (FlD z) S->zrA und isx S m tl dn ds (.tup [.str "join",.str k,.str k1,.str k2,.bl b]):=fun z n fz t r a=>by
     have i:=zeL (S:=S) fz (by omega) (by omega)
     by_cases o:z.length<=6/\n<=6
     ·rw[yap o]at i;rw[zm1 hk d g rfl h ho (by omega) (by omega) f l a i]at e2;exact⟨_,_,_,_,e2,zf8 ho,V.put ho hk ⟨z,n,rfl,fz,o.1,o.2⟩,zh0,by rw[yae];exact yai _⟩
     ·rw[yaz o]at i;rw[zeK hk d g h ho f l (.inr ⟨_,a,i⟩)]at e2;exact un' e2
    have bad:zia b (FlD rs) (FlD rs') S=.exc "Unlike" S->zrA und isx S m tl dn ds (.tup [.str "join",.str k,.str k1,.str k2,.bl b]):=fun a=>by
     rw[zeK hk d g h ho f l (.inl a)]at e2;exact un' e2
    cases b with
    |true=>
     have a:zia true (FlD rs) (FlD rs') S=_:=zjT (S:=S) f1 f2 (by omega) (by omega) (by omega)
     by_cases he:rs.length=rs'.length
     ·rw[if_pos he]at a;exact yes _ _ (f1.beside f2 he) (by rw[ze1,<-he,Nat.min_self];omega) (by omega) a
     ·rw[if_neg he]at a;exact bad a
    |false=>
     have a:zia false (FlD rs) (FlD rs') S=_:=zlc (S:=S) f1 f2 (by omega) (by omega)
     by_cases he:c=c'
     ·subst he;rw[if_pos rfl]at a;exact yes _ _ (f1.below f2) (by rw[yae];omega) (by omega) a
     ·rw[if_neg he]at a;exact bad a
end
def ze8(Iv:Nat->Env->Sto->Prop)(step:∀k d ρ S,ds[k]?=some d->Iv k ρ S->∃U J S2,tg.put ρ d=some U/\body U S=.nx J S2/\Iv (k+1) J S2)(h0:Iv 0 ρ S):∃I S',zgn tg body ds ρ S=.nx I S'/\Iv ds.length I S':=by
 have go:∀(n:Nat) (es:List D) (k:Nat) (ρ:Env) (S:Sto),es.length=n->ds.drop k=es->k+n=ds.length->Iv k ρ S->∃I S',zgn tg body es ρ S=.nx I S'/\Iv ds.length I S':=by
  intro n
  induction n with
  |zero=>
   intro es k ρ S a he hk hi;obtain rfl:es=[]:=ya9 a;exact⟨ρ,S,rfl,by rw[show ds.length=k by omega];exact hi⟩
  |succ n c=>
   intro es k ρ S a he hk hi
   cases es with
   |nil=>cases a|cons d es=>
    have hd:ds[k]?=some d:=by
     have:=congrArg (fun l=>l[0]?) he;rw[ybE]at this;simpa using this
    obtain⟨U,J,S2,g,e2,b⟩:=step k d ρ S hd hi;obtain⟨I,S',f,e⟩:=c es (k+1) J S2 (by simpa using a) (by rw[<-List.drop_drop,he];rfl) (by omega) b;refine⟨I,S',?_,e⟩;unfold zgn;rw[g];dsimp only;rw[e2];exact f
 exact go ds.length ds 0 ρ S rfl (by simp) (by omega) h0
def zdr{S:Sto}{x:Ob}:(S++[x])[S.length]?=some x:=by simp
def zdH{S:Sto}{x y:Ob}:(S++[x]).set S.length y=S++[y]:=by simp
def zi0{S:Sto}{T:D}(hs:∀S,zbm [T] S=.ok (.bl true) S):zaC [.ref S.length,T] (S++[⟨"Album",[]⟩])=.ok .non (S++[alb T [] [] []]):=by
 have c:zkZ "Album" "tiles" (zad 0) (zad 1) [some (false,.ref S.length),some (false,T)] (S++[⟨"Album",[]⟩])=.nx [some (false,.ref S.length),some (false,T)] (S++[⟨"Album",[("tiles",false,T)]⟩]):=by
  show(match(S++[(⟨"Album",[]⟩:Ob)])[S.length]? with|some ob=>_|none=>_)=_;rw[zdr];show(if _ then Fo.nx _ ((S++[(⟨"Album",[]⟩:Ob)]).set S.length _)else _)=_;rw[if_pos (by rfl),zdH];rfl
 have e2:zk0 "Album" "named" 0 [some (false,.ref S.length),some (false,T)] (S++[⟨"Album",[("tiles",false,T)]⟩])=.nx [some (false,.ref S.length),some (false,T)] (S++[⟨"Album",[("tiles",false,T),("named",true,.tup [.dic []])]⟩]):=by
  show(match(S++[(⟨"Album",[("tiles",false,T)]⟩:Ob)])[S.length]? with|some ob=>_|none=>_)=_;rw[zdr];show(if _ then Fo.nx _ ((S++[_]).set S.length _)else _)=_;rw[if_pos (by rfl),zdH];rfl
 have b:zfn "Album" "done" 0 [some (false,.ref S.length),some (false,T)] (S++[⟨"Album",[("tiles",false,T),("named",true,.tup [.dic []])]⟩])=.nx [some (false,.ref S.length),some (false,T)] (S++[⟨"Album",[("tiles",false,T),("named",true,.tup [.dic []]),("done",true,.tup [.lst []])]⟩]):=by
  show(match(S++[(⟨"Album",[("tiles",false,T),("named",true,.tup [.dic []])]⟩:Ob)])[S.length]? with|some ob=>_|none=>_)=_;rw[zdr];show(if _ then Fo.nx _ ((S++[_]).set S.length _)else _)=_;rw[if_pos (by rfl),zdH];rfl
 have a:zfn "Album" "undone" 0 [some (false,.ref S.length),some (false,T)] (S++[⟨"Album",[("tiles",false,T),("named",true,.tup [.dic []]),("done",true,.tup [.lst []])]⟩])=.nx [some (false,.ref S.length),some (false,T)] (S++[alb T [] [] []]):=by
  show(match(S++[(⟨"Album",[("tiles",false,T),("named",true,.tup [.dic []]),("done",true,.tup [.lst []])]⟩:Ob)])[S.length]? with|some ob=>_|none=>_)=_;rw[zdr];show(if _ then Fo.nx _ ((S++[_]).set S.length _)else _)=_;rw[if_pos (by rfl),zdH];rfl
 simp[zaC,zai,zbR,hs,zbz,c,e2,b,a]
section
variable{S:Sto}{m:Nat}{T:D}{ds es:List (D×D)}{dn un:List D}{n:Nat}
def zk4(h:S[m]?=some (alb T ds dn un)):zbH [.ref m] S=.ok T S:=by
 simp[zbH,zai,zcs,zcP h]
end
open PySem TX
section
variable{S:Sto}{tl:List D}{n m:Nat}
def zo4{rs:List (List D)}(h:Fls rs):(flL rs).length<=200:=by
 have:=zlT (c:=10) (B:=18) (l:=rs.map rL) fun a d=>by
  obtain⟨r,b,rfl⟩:=yaf.mp d;exact zoE (h.row r b).2 (h.ok r b)
 have hle:=h.le;rw[yab]at this;unfold flL;omega
noncomputable def enL(k:Str)(rs:List (List D)):List Nat:=[45,45,10]++L k++[10]++flL rs++[10]
def zwh:("--\n":Str)=T [45,45,10]:=by decide +kernel
def zrt(a b:List Nat):T a++T b=T (a++b):=zdp (by rw[zef,L_T,L_T,L_T])
def zk9{I:D}{ds:List (D×D)}{dn un:List D}{k:Str}{rs:List (List D)}(h:S[m]?=some (alb I ds dn un))(ho:zal ds=true)(hk:zcU k)(hd:zaj k ds=some (FlD rs))(hf:Fls rs):zbw [.ref m,.str k] S=.ok (.str (T (enL k rs))) S:=by
 have f:=zbo hk h ho hd;have d:zaS "Album" "floor_of" (.ref m) S=true:=zbf h (by decide);have e2:=zf4 (S:=S) hf;have l1:=(zeQ hk).1.2;have n:=zo4 hf;have c:("\n":Str)=T [10]:=zdP;unfold enL;have e:k=T (L k):=(TL k).symm
 have l:(L k).length<=6:=by rw[zbM];exact l1
 generalize L k=a at*;subst e;generalize flL rs=b at*;generalize FlD rs=F at*
 have j:[45,45,10].length+a.length<=100000:=by simp;omega
 have a1:3+a.length<=100000:=by omega
 have a2:a.length+1+1+1+1<=100000:=by omega
 have i:a.length+1+1+1+1+b.length<=100000:=by omega
 have g:a.length+(b.length+1)+1+1+1+1<=100000:=by omega
 simp[zbw,zai,zc5,f,d,e2,zwh,c,zrt,zet,a1,a2,i,g]
end
section
variable{S:Sto}{n m:Nat}{ks:List (List Nat)}{ds es:List (D×D)}{dn un:List D}{k:Str}{d:D}
noncomputable def zsj:D->List D|.tup r=>r|_=>[]
def zdN:D->List (List D)|.tup l=>l.map zsj|_=>[]
def zcG{rs:List (List D)}:zdN (FlD rs)=rs:=by
 show(rs.map D.tup).map zsj=rs;rw[yat];exact ycF _
def enD(ds:List (D×D))(k:Str):List Nat:=enL k (zdN ((zaj k ds).getD .non))
def zkt(ks:List (List Nat))(ds:List (D×D)):List Nat:=zfm ks++((za6 (zaY ds)).map (enD ds)).flatten
def zpk.fls(h:zpk n d)(I:n<=16):∃rs c,d=FlD rs/\Fls rs/\FlOk n c rs/\∀r∈rs,∀d∈r,OkC n d:=by
 obtain⟨rs,c,rfl,ok,b,e⟩:=h
 have oc:∀r∈rs,∀d∈r,OkC n d:=fun r a d hd=>by
  rcases(ok.row r a).2 d hd with rfl|⟨x,rfl,h0,h1⟩
  ·exact .inl rfl
  ·exact .inr ⟨x.toNat,by omega,by rw[Int.toNat_of_nonneg h0]⟩
 refine⟨rs,c,rfl,⟨ok.ne,b,fun r a=>?_,fun r a d hd=>(oc r a d hd).to I⟩,ok,oc⟩;have:=ok.c1;rw[(ok.row r a).1];omega
def zhe(ho:zal ds=true)(hk:k∈za6 (zaY ds)):∃d,zaj k ds=some d:=by
 cases a:zaj k ds with
 |none=>exact absurd ((zbu _).mem_iff.mp hk) ((zcY ho).mp a)|some d=>exact⟨d,rfl⟩
def zmg(V:AV n ds)(I:n<=16)(ho:zal ds=true)(hk:k∈za6 (zaY ds)):(enD ds k).length<=300:=by
 obtain⟨d,hd⟩:=zhe ho hk;obtain⟨rs,c,rfl,hf,_⟩:=(V.val k d hd).fls I;unfold enD;rw[hd];show(enL k (zdN (FlD rs))).length<=300;rw[zcG];have l1:=(zeQ (V.key k _ hd)).1.2;have b:=zo4 hf;have a:=zbM k;unfold enL;simp only[yae,yad,yb5];omega
def zdM(h:S[m]?=some (alb (FlD (ks.map fD)) ds dn un))(ho:zal ds=true)(U:ds.length<64)(I:Ks ks)(V:AV n ds)(J:n<=16):zaA [.ref m] S=.ok (.str (T (zkt ks ds))) S:=by
 have x:=zk4 h;have e2:=zk5 h ho U;have i:zaS "Album" "set_of" (.ref m) S=true:=zbf h (by decide);have b:zaS "Album" "names" (.ref m) S=true:=zbf h (by decide);have w:=zhS (S:=S) I
 have p:(za6 (zaY ds)).length<=64:=by rw[(zbu _).length_eq,zgf ho];omega
 have v:za5 (.one 0) zct (eFn zbw [(zad 1),(zad 0)]) [none,some (false,.ref m)] ((za6 (zaY ds)).map D.str) S=.ok ((za6 (zaY ds)).map fun k=>.str (T (enD ds k))) S:=by
  have:=zaB (tg:=.one 0) (elt:=eFn zbw [(zad 1),(zad 0)]) (aw:=[none,some (false,.ref m)]) (S:=S) (ds:=(za6 (zaY ds)).map D.str) (g:=fun d=>match d with|.str k=>.str (T (enD ds k))|_=>.non) fun d hd=>by
   obtain⟨k,hk,rfl⟩:=yaf.mp hd;refine⟨_,rfl,?_⟩;obtain⟨d,hd⟩:=zhe ho hk;obtain⟨rs,c,rfl,hf,_⟩:=(V.val k d hd).fls J;have e:=zk9 h ho (V.key k _ hd) hd hf
   have y:enD ds k=enL k rs:=by unfold enD;rw[hd];show enL k (zdN (FlD rs))=_;rw[zcG]
   simp[e,y]
  rw[this,yat];rfl
 have es':=zcE (fun k=>T (enD ds k)) (za6 (zaY ds))
 have u:JoinOk ("":Str) ((za6 (zaY ds)).map fun k=>T (enD ds k))=true:=zeZ (by rw[yab];omega) (fun t q=>by
  obtain⟨k,hk,rfl⟩:=yaf.mp q;have:=zmg V J ho hk
  rw[zet];omega) (by decide +kernel)
 have s:Txt.join ("":Str) ((za6 (zaY ds)).map fun k=>T (enD ds k))=T ((za6 (zaY ds)).map (enD ds)).flatten:=zdp (by
  rw[zd5,zhn,zgh,L_T,yat]
  congr 1)
 have E:((za6 (zaY ds)).map (enD ds)).flatten.length<=64*300:=yav (zdT (B:=300) fun k hk=>zmg V J ho hk) (Nat.mul_le_mul_right _ p)
 have z:(zfm ks).length<=1000:=by
  have:=zdT (f:=fun k=>kL k++[10]) (B:=5) (l:=ks) fun k hk=>by rw[yae,zjh,I.four k hk];decide
  have hle:=I.le;unfold zfm;omega
 have o:(zfm ks).length+((za6 (zaY ds)).map (enD ds)).flatten.length<=100000:=by omega
 unfold zkt
 have a:(za6 (zaY ds)).length<=100000:=by omega
 generalize ((za6 (zaY ds)).map (enD ds)).flatten=A at*;generalize zfm ks=B at*;generalize FlD (ks.map fD)=C at*;generalize r:((za6 (zaY ds)).map fun k=>D.str (T (enD ds k)))=X at*
 have j:X.length<=100000:=by rw[<-r,yab];exact a
 simp[zaA,zai,zc6,x,e2,w,i,b,v,es',u,s,o,a,j,zet,zrt]
end
open PySem TX StrLaws Builtin Builtin.Str
section
variable{S:Sto}{tl:List D}{n:Nat}
def zlq{x:Str}(h:10 ∉ L x):Txt.partition x ⟨#[10]⟩=(x,(("":Str),("":Str))):=by
 unfold Txt.partition
 rcases occ_head x ⟨#[10]⟩ 1 (yai _)with⟨e,_⟩|⟨i,r,e,h1,_⟩
 ·rw[e,zhn];rfl
 ·exact absurd (ya4 (show(L x)[i]?=some 10 from(subAt_one _ _ _).mp h1)) h
theorem zrj:∀l:List Nat,10∈l->∃a b,10 ∉ a/\l=a++10::b
 |[],h=>nomatch h|c::l,h=>by
  by_cases e:c=10
  ·exact⟨[],l,(fun z=>nomatch z),by rw[e];rfl⟩
  ·obtain⟨a,b,h1,h2⟩:=zrj l ((yaq.mp h).resolve_left fun z=>e z.symm);exact⟨c::a,b,fun z=>(yaq.mp z).elim (fun q=>e q.symm) h1,by rw[h2];rfl⟩
noncomputable abbrev prt(x:Str):Str×Str×Str:=Txt.partition x ⟨#[10]⟩
def zqj{x:Str}:(prt x).1.length<=x.length/\(prt x).2.2.length<=x.length:=by
 by_cases h:10∈L x
 ·obtain⟨a,b,h1,h2⟩:=zrj _ h;have e:x=T (a++10::b):=zdp (by rw[h2,L_T]);unfold prt;rw[e,zh3 h1,zet,zet,zet,yae,yad];exact⟨by omega,by omega⟩
 ·unfold prt;rw[zlq h];exact⟨yai _,yaJ _⟩
def zo6(n:Nat)(x:Str):Bool:=zgb (prt x).1&&zck n (rdF n (prt x).2.2)
def zdD(n:Nat):Str->List Str->Option (List (Str×D))
 |_,[]=>some []|last,x::xs=>if zo6 n x&&decide (L last<L (prt x).1)then(zdD n (prt x).1 xs).map (((prt x).1,FlD (rdF n (prt x).2.2))::·)else none
def eE(tl:List D)(l:D)(ps:List (Str×D))(last:Str)(I y5 y6:Option (Bool×D)):Env:=[some (false,.tup tl),some (false,l),some (true,.dic (unS ps)),some (false,.str last),I,y5,y6]
def le_str{a b:Str}:leD (.str a) (.str b)=some (.bl (!decide (L b<L a))):=rfl
def zsw{ρ:Env}{i:Nat}{fk fe:Fe}{ds:List (D×D)}{c:Str}{S1:Sto}(h:ρ[i]?=some (some (true,.dic ds)))(ho:zal ds=true)(I:ds.length<=100000)(he:fe ρ S=.exc c S1):zes i fk fe ρ S=.ex c ρ S1:=by
 have hs:zfl i ρ=some ds:=by
  unfold zfl;rw[h];show(if zal ds&&zau ds.length then some ds else none)=_;rw[ho,show zau ds.length=true from yap I];rfl
 rw[zku,hs];show zty i fk ρ ds (fe ρ S)=_;rw[he];rfl
def zn3{l:D}{x last:Str}{ps:List (Str×D)}{y5 y6:Option (Bool×D)}(J:tl.length<=16)(hx:x.length<=8000)(hp:ps.length<=1000)(nd:(ps.map (·.1)).Nodup)(hk:L last<L (prt x).1->(prt x).1 ∉ ps.map (·.1)):
  ∃I,zam (eE tl l ps last (some (false,.str x)) y5 y6) S=if(zo6 tl.length x&&decide (L last<L (prt x).1))=true then .nx (eE tl l (ps++[((prt x).1,FlD (rdF tl.length (prt x).2.2))]) (prt x).1 (some (false,.str x)) (some (false,.tup [.str (prt x).1,.str (prt x).2.1,.str (prt x).2.2])) (some (false,.str (prt x).1))) S else .ex "NoText" I S:=by
 have g:zlr x (.str "\n")=some (.tup [.str (prt x).1,.str (prt x).2.1,.str (prt x).2.2]):=by
  rw[zdP];show(if !((⟨#[10]⟩:Str).length==0)&&zau x.length then some (D.tup [.str (prt x).1,.str (prt x).2.1,.str (prt x).2.2])else none)=_;rw[if_pos];rw[yaa];exact⟨rfl,yap (by omega)⟩
 obtain⟨r,p2⟩:=zqj (x:=x);have d0:ixD (.tup [.str (prt x).1,.str (prt x).2.1,.str (prt x).2.2]) (.int 0)=some (.str (prt x).1):=zax _ 0;have n:ixD (.tup [.str (prt x).1,.str (prt x).2.1,.str (prt x).2.2]) (.int 2)=some (.str (prt x).2.2):=zax _ 2;have d:=zdq (S:=S) (x:=(prt x).1) (by omega);have m:=zf2 (S:=S) (s:=(prt x).2.2) J (by omega);have le:=le_str (a:=(prt x).1) (b:=last);obtain⟨k,_⟩:=zcb nd
 have ul:(unS ps).length<=100000:=by unfold unS;rw[yab];omega
 unfold zo6;unfold eE
 have q:L last<L (prt x).1->putS (prt x).1 (FlD (rdF tl.length (prt x).2.2)) (unS ps)=unS (ps++[((prt x).1,FlD (rdF tl.length (prt x).2.2))]):=fun h=>zfA [((prt x).1,FlD (rdF tl.length (prt x).2.2))] ps (by
  rw[yaV,ybP]
  exact⟨nd,ya7.mpr ⟨ybS,yc8⟩,fun a o b hb e=>hk h ((show a=(prt x).1 from e.trans (yaE.mp hb)) ▸ o)⟩)
 generalize u:D.tup [.str (prt x).1,.str (prt x).2.1,.str (prt x).2.2]=P at*;generalize hN:(prt x).1=N at*;generalize v:FlD (rdF tl.length (prt x).2.2)=F at*;generalize hb:zck tl.length (rdF tl.length (prt x).2.2)=fb at*;generalize (prt x).2.2=zbG at*;generalize t:unS ps=U at*
 by_cases f:zgb N=true
 ·by_cases i:L last<L N
  ·rw[yap i]at le ⊢;rw[f]at d ⊢
   cases fb with
   |true=>
    have c:∀ρ:Env,ρ[2]?=some (some (true,.dic U))->ρ[0]?=some (some (false,.tup tl))->ρ[5]?=some (some (false,P))->ρ[6]?=some (some (false,.str N))->zes 2 (zad 6) (eFn za7 [(zad 0),(zaf ixD (zac 5) (zaa (.int 2)))]) ρ S=.nx (ρ.set 2 (some (true,.dic (putS N F U)))) S:=
     fun ρ h2 h0 j p=>zsv (S1:=S) h2 k ul (by simp[h0,j,n,m]) (by rw[zrC,p];rfl)
    refine⟨[],?_⟩;rw[<-q i];simp[zam,g,d0,d,zbz,le,c]
   |false=>
    have c:∀ρ:Env,ρ[2]?=some (some (true,.dic U))->ρ[0]?=some (some (false,.tup tl))->ρ[5]?=some (some (false,P))->zes 2 (zad 6) (eFn za7 [(zad 0),(zaf ixD (zac 5) (zaa (.int 2)))]) ρ S=.ex "NoText" ρ S:=
     fun ρ h2 h0 j=>zsw h2 k ul (by simp[h0,j,n,m])
    refine⟨[some (false,.tup tl),some (false,l),some (true,.dic U),some (false,.str last),some (false,.str x),some (false,P),some (false,.str N)],?_⟩;simp[zam,g,d0,d,zbz,le,c]
  ·rw[yaz i]at le ⊢;rw[f]at d;refine⟨[some (false,.tup tl),some (false,l),some (true,.dic U),some (false,.str last),some (false,.str x),some (false,P),some (false,.str N)],?_⟩;simp[zam,g,d0,d,zbz,le]
 ·rw[Bool.not_eq_true]at f;rw[f]at d ⊢;refine⟨[some (false,.tup tl),some (false,l),some (true,.dic U),some (false,.str last),some (false,.str x),some (false,P),some (false,.str N)],?_⟩;simp[zam,g,d0,d,zbz]
theorem zhl{l:D}(hn:tl.length<=16):∀(xs:List Str) (ps:List (Str×D)) (last:Str) (y4 y5 y6:Option (Bool×D)),(∀x∈xs,x.length<=8000)->ps.length+xs.length<=1000->(ps.map (·.1)).Nodup->(∀k∈ps.map (·.1),¬ L last<L k) →
  ∃J a4 a3 U I,zgn (.one 4) zam (xs.map D.str) (eE tl l ps last y4 y5 y6) S=match zdD tl.length last xs with|some qs=>.nx (eE tl l (ps++qs) J a4 a3 U) S|none=>.ex "NoText" I S
 |[],ps,last,y4,y5,y6,_,_,_,_=>⟨last,y4,y5,y6,[],by show Fo.nx _ S=Fo.nx (eE tl l (ps++[]) last y4 y5 y6) S;rw[yaQ]⟩
 |x::xs,ps,last,y4,y5,y6,i,n,nd,hk=>by
  rw[yad]at n;have c:L last<L (prt x).1->(prt x).1 ∉ ps.map (·.1):=fun h z=>hk _ z h
  obtain⟨I,e⟩:=zn3 (S:=S) (tl:=tl) (l:=l) (y5:=y5) (y6:=y6) (last:=last) hn (i x (.head _)) (by omega) nd c;have st:zgn (.one 4) zam ((x::xs).map D.str) (eE tl l ps last y4 y5 y6) S=(match zam (eE tl l ps last (some (false,.str x)) y5 y6) S with|.nx I S'=>zgn (.one 4) zam (xs.map D.str) I S'|.ct I S'=>zgn (.one 4) zam (xs.map D.str) I S'|.bk I S'=>.nx I S'|o=>o):=rfl;rw[st,e];unfold zdD
  by_cases f:(zo6 tl.length x&&decide (L last<L (prt x).1))=true
  ·rw[if_pos f,if_pos f];have j:L last<L (prt x).1:=yah ((yaa _ _).mp f).2
   obtain⟨J,a4,a3,U,g,e2⟩:=zhl hn xs (ps++[((prt x).1,FlD (rdF tl.length (prt x).2.2))]) (prt x).1 (some (false,.str x)) (some (false,.tup [.str (prt x).1,.str (prt x).2.1,.str (prt x).2.2])) (some (false,.str (prt x).1)) (fun y m=>i y (.tail _ m)) (by rw[yae,yad,yb5];omega) (by
    rw[yaV,ybP]
    exact⟨nd,ya7.mpr ⟨ybS,yc8⟩,fun a p b hb e=>c j ((show a=(prt x).1 from e.trans (yaE.mp hb)) ▸ p)⟩) (by
    intro k d;rw[yaV]at d
    rcases yay.mp d with z|z
    ·exact fun q=>hk k z (List.lt_trans j q)
    ·rw[show k=(prt x).1 from yaE.mp z];exact List.lt_irrefl _)
   refine⟨J,a4,a3,U,g,?_⟩;dsimp only;rw[e2]
   cases zdD tl.length (prt x).1 xs with
   |none=>rfl|some qs=>show Fo.nx _ S=Fo.nx _ S;rw[ybc];rfl
  ·rw[if_neg f,if_neg f];exact⟨last,y4,y5,y6,I,rfl⟩
def zeJ{xs:List Str}(J:tl.length<=16)(I:∀x∈xs,x.length<=8000)(U:xs.length<=1000):zaz [.tup tl,.lst (xs.map D.str)] S=match zdD tl.length "" xs with|some ps=>.ok (.dic (unS ps)) S|none=>.exc "NoText" S:=by
 obtain⟨a,g,f,d,c,e⟩:=zhl (S:=S) (l:=.lst (xs.map D.str)) J xs [] "" none none none I (by rw[yb5];omega) yc8 (fun _ h=>nomatch h);unfold eE at e;have i:unS []=[]:=rfl;rw[i]at e
 have b:(xs.map D.str).length<=100000:=by rw[yab];omega
 generalize xs.map D.str=X at*
 cases he:zdD tl.length "" xs with
 |none=>rw[he]at e;simp[zaz,zai,zbJ,e,b]|some ps=>
  rw[he]at e;simp only[List.nil_append]at e;simp[zaz,zai,zbJ,e,b]
end
end S2
namespace TX
open PySem
def zh5{q:List Nat}(h:45 ∉ q):nn q:=fun i z=>h (ya4 z.1)
def zoS{a b:List Nat}{c:Nat}(J:nn a)(hb:nn b)(I:c≠45):nn (a++c::b):=by
 intro i ⟨h1,h2⟩
 rcases yde (i+1) a.length with h|h|h
 ·rw[yaI (by omega)]at h1;rw[yaI h]at h2;exact J i ⟨h1,h2⟩
 ·rw[yax (by omega),h,ycO]at h2;exact I (Option.some.inj h2)
 ·by_cases e:i=a.length
  ·rw[yax (by omega),e,ycO]at h1;exact I (Option.some.inj h1)
  ·rw[yax (by omega),show i-a.length=(i-a.length-1)+1 by omega,ycw]at h1;rw[yax (by omega),show i+1-a.length=(i-a.length-1+1)+1 by omega,ycw]at h2;exact hb _ ⟨h1,h2⟩
def ztb:nn []:=fun i z=>by cases z.1
theorem zny{c:Nat}(I:c≠45):∀{ps:List (List Nat)},(∀p∈ps,nn p)->nn (jn c ps)
 |[],_=>ztb|[x],h=>h x (.head _)|x::y::r,h=>zoS (h x (.head _)) (zny I (ps:=y::r) fun p a=>h p (.tail _ a)) I
end TX
namespace S2
open PySem TX
open L2 hiding D
def zvG{d:D}(h:OkN d):nn (L (nT d)):=by
 rcases h with rfl|⟨i,hi,rfl⟩
 ·intro j z
  have e:L (nT .non)=[45]:=by decide +kernel
  rw[e]at z
  cases j with
  |zero=>cases z.2|succ j=>cases z.1
 ·refine zh5 ?_
  have:∀i,i<16->45 ∉ L (dI (i:Nat)):=by decide +kernel
  exact this i hi
def zvH{rs:List (List D)}(h:Fls rs):nn (flL rs):=by
 unfold flL;refine zny (by decide) fun p a=>?_
 obtain⟨r,b,rfl⟩:=yaf.mp a;unfold rL;refine zny (by decide) fun p a=>?_
 obtain⟨d,hd,rfl⟩:=yaf.mp a;exact zvG (h.ok r b d hd)
def zh6{k:Str}(h:zcU k):10 ∉ L k/\45 ∉ L k:=⟨fun z=>by have:=(zeQ h).2 _ z;omega,fun z=>by have:=(zeQ h).2 _ z;omega⟩
def znz{k:Str}{rs:List (List D)}(hk:zcU k)(h:Fls rs):nn (L k++10::flL rs):=zoS (zh5 (zh6 hk).2) (zvH h) (by decide)
def zjX{k:Str}{rs:List (List D)}(hk:zcU k):Txt.partition (T (L k++10::flL rs)) ⟨#[10]⟩=(k,⟨#[10]⟩,T (flL rs)):=by rw[zh3 (zh6 hk).1,TL]
def zta{ks:List (List Nat)}(h:Ks ks):nn (jn 10 (ks.map kL)):=by
 refine zny (by decide) fun p a=>?_
 obtain⟨k,hk,rfl⟩:=yaf.mp a;refine zh5 fun z=>?_
 obtain⟨i,_,e⟩:=yaf.mp z;omega
def zpg{ks:List (List Nat)}(I:ks≠[]):∀(es:List (List Nat)),zfm ks++(es.map fun q=>[45,45,10]++q++[10]).flatten=jy (jn 10 (ks.map kL)::es)++[10]:=by
 intro es;rw[zgO I];generalize jn 10 (ks.map kL)=A
 induction es generalizing A with
 |nil=>simp[jy]|cons q r a=>
  rw[yar,yaY];have:=a q;show _=(A++[10,45,45,10]++jy (q::r))++[10];rw[ybc (A++[10,45,45,10]),<-this];simp
def ztr(x:Str):(Builtin.Str.strKind x<Builtin.Str.strKind Y)=False:=by
 have h:Builtin.Str.strKind Y=1:=by decide +kernel
 rw[h];unfold Builtin.Str.strKind;refine eq_false ?_;split
 ·omega
 ·split<;>omega
def zxZ:("\n--\n":Str)=Y:=by decide +kernel
section
variable{n:Nat}
def pqP(p:Str×D):List Nat:=L p.1++10::flL (zdN p.2)
noncomputable def EnV(n:Nat)(p:Str×D):Prop:=zcU p.1/\zpk n p.2
def zqB:∀n,n<17->zck n (rdF n "")=false:=by decide +kernel
def ztR{rs:List (List D)}(h:zck n rs=true)(I:∀r∈rs,∀d∈r,OkC n d):zpk n (FlD rs):=by
 unfold zck at h;rw[yaa,yaa,yaA]at h;obtain⟨h1,h2,e⟩:=h
 cases rs with
 |nil=>exact absurd h1.1 (by decide)
 |cons a zbG=>
  have c:∀r∈a::zbG,r.length=a.length:=fun r b=>yah (yaK.mp e r b)
  have h0:=yaK.mp h2 a (.head _);unfold rowB at h0;rw[yaa,yaA]at h0;refine⟨_,a.length,rfl,⟨h1.1,h0.1.1,fun r b=>⟨c r b,fun d hd=>?_⟩⟩,h1.2,h0.1.2⟩
  rcases I r b d hd with rfl|⟨i,hi,rfl⟩
  ·exact .inl rfl
  ·exact .inr ⟨i,rfl,by omega,by omega⟩
def zn4{x:Str}(I:n<=16)(h:zo6 n x=true):EnV n ((prt x).1,FlD (rdF n (prt x).2.2))/\L x=pqP ((prt x).1,FlD (rdF n (prt x).2.2)):=by
 unfold zo6 at h;rw[yaa]at h;obtain⟨b1,b2,c⟩:=zkd I h.2;refine⟨⟨h.1,ztR h.2 b2⟩,?_⟩;show L x=L (prt x).1++10::flL (zdN (FlD (rdF n (prt x).2.2)));rw[zcG]
 by_cases hm:10∈L x
 ·obtain⟨a,b,h1,h2⟩:=zrj _ hm
  have e:prt x=(T a,⟨#[10]⟩,T b):=by rw[show x=T (a++10::b)from zdp (by rw[h2,L_T])];exact zh3 h1
  rw[e]at c ⊢;have:=congrArg L c;rw[L_T,L_T]at this;rw[h2,L_T,<-this]
 ·have e:prt x=(x,(("":Str),("":Str))):=zlq hm;rw[e]at h;rw[zqB n (by omega)]at h;cases h.2
def zpk.rows{d:D}(h:zpk n d)(I:n<=16):Fls (zdN d)/\rdF n (T (flL (zdN d)))=zdN d/\zck n (zdN d)=true/\FlD (zdN d)=d:=by
 obtain⟨rs,c,rfl,f1,f2,f⟩:=h.fls I;obtain⟨rs',c',e,b,a,g⟩:=h;rw[zcG]
 have:rs=rs':=by have:=congrArg zdN e;rwa[zcG,zcG]at this
 subst this;exact⟨f1,zmb I f1 f,by rw[b.flB];exact yap ⟨a,g⟩,rfl⟩
def zrc{p:Str×D}(I:n<=16)(h:EnV n p):zo6 n (T (pqP p))=true/\(prt (T (pqP p))).1=p.1/\FlD (rdF n (prt (T (pqP p))).2.2)=p.2:=by
 obtain⟨f1,f2,b,a⟩:=h.2.rows I;have e:prt (T (pqP p))=(p.1,⟨#[10]⟩,T (flL (zdN p.2))):=zjX h.1;unfold zo6;rw[e];exact⟨by rw[f2,b,show zgb p.1=true from h.1];rfl,rfl,by rw[f2,a]⟩
noncomputable abbrev ltS(a b:Str):Prop:=L a<L b
theorem zhm(I:n<=16):∀{xs:List Str}{last:Str}{ps:List (Str×D)},zdD n last xs=some ps->(∀p∈ps,EnV n p/\ltS last p.1)/\(ps.map (·.1)).Pairwise ltS/\xs.map L=ps.map pqP
 |[],last,ps,h=>by cases h;exact⟨(fun _ h=>nomatch h),List.Pairwise.nil,rfl⟩
 |x::xs,last,ps,h=>by
  unfold zdD at h;split at h
  ·rename_i b;rw[yaa,yaA]at b
   cases he:zdD n (prt x).1 xs with
   |none=>rw[he]at h;cases h|some qs=>
    rw[he]at h;cases h;obtain⟨i1,i2,c⟩:=zhm I he;obtain⟨d,e2⟩:=zn4 I b.1;refine⟨fun p a=>?_,?_,?_⟩
    ·rcases yaq.mp a with rfl|a
     ·exact⟨d,b.2⟩
     ·exact⟨(i1 p a).1,List.lt_trans b.2 (i1 p a).2⟩
    ·rw[yar];refine ybo.mpr ⟨fun k hk=>?_,i2⟩;obtain⟨p,a,rfl⟩:=yaf.mp hk;exact(i1 p a).2
    ·rw[yar,yar,c,e2]
  ·cases h
theorem zjt(I:n<=16):∀{ps:List (Str×D)}{last:Str},(∀p∈ps,EnV n p/\ltS last p.1)->(ps.map (·.1)).Pairwise ltS->zdD n last (ps.map fun p=>T (pqP p))=some ps
 |[],last,_,_=>rfl|p::ps,last,h,b=>by
  obtain⟨f,e2,e⟩:=zrc I (h p (.head _)).1;rw[yar]at b;obtain⟨d,c⟩:=ybo.mp b;rw[yar];unfold zdD;rw[if_pos (by rw[yaa,f,e2];exact⟨rfl,yap (h p (.head _)).2⟩),e2,e,zjt I (fun q a=>⟨(h q (.tail _ a)).1,d _ (yaX a)⟩) c];rfl
end
end S2
namespace TX
open PySem
theorem zlR:∀ps:List Str,L (Str.join Y ps)=jy (ps.map L)
 |[]=>rfl|[x]=>rfl|x::y::r=>by
  show L (x++Y++Str.join Y (y::r))=L x++[10,45,45,10]++jy ((y::r).map L);rw[zef,zef,zlR (y::r)];rfl
def zmQ(x:Str):jy ((Txt.split x Y).map L)=L x:=by rw[<-zlR,StrLaws.join_split]
theorem zlQ:∀Q:List (List Nat),2*Q.length<=(jy Q).count 10+2/\∀q∈Q,q.length<=(jy Q).length
 |[]=>⟨by simp,fun _ h=>nomatch h⟩
 |[x]=>⟨by simp,fun q h=>by rw[yaE.mp h];exact yai _⟩
 |x::y::r=>by
  obtain⟨h1,h2⟩:=zlQ (y::r);have e:jy (x::y::r)=x++[10,45,45,10]++jy (y::r):=rfl
  have c:([10,45,45,10]:List Nat).count 10=2:=by decide
  refine⟨by rw[e,ybd,ybd,c,yad];omega,fun q a=>?_⟩;rw[e,yae,yae]
  rcases yaq.mp a with rfl|a
  ·omega
  ·have:=h2 q a;omega
end TX
namespace S2
open PySem TX
open L2 hiding D
section
variable{S:Sto}{n m:Nat}{ks:List (List Nat)}{ps:List (Str×D)}{ds:List (D×D)}{dn un:List D}
structure RP(n:Nat)(ps:List (Str×D)):Prop where
 ok:∀p∈ps,EnV n p
 ris:(ps.map (·.1)).Pairwise ltS
def zrq(ks:List (List Nat))(ps:List (Str×D)):List Nat:=zfm ks++((ps.map pqP).map fun q=>[45,45,10]++q++[10]).flatten
def RP.nd(h:RP n ps):(ps.map (·.1)).Nodup:=List.Pairwise.imp (R:=ltS) (S:=fun a b=>a≠b) (fun {a b} z (e:a=b)=>by rw[e]at z;exact List.lt_irrefl _ z) h.ris
def RP.look(h:RP n ps){p:Str×D}(I:p∈ps):zaj p.1 (unS ps)=some p.2:=zg3 (zcb h.nd).1 p (by rw[(zcb h.nd).2];exact I)
def RP.av(h:RP n ps):AV n (unS ps):=by
 have m:∀x d,zaj x (unS ps)=some d->(x,d)∈ps:=fun x d a=>by have:=zg9 a;rwa[(zcb h.nd).2]at this
 exact⟨fun x d a=>(h.ok _ (m x d a)).1,fun x d a=>(h.ok _ (m x d a)).2⟩
def RP.keys(h:RP n ps):za6 (zaY (unS ps))=ps.map (·.1):=by
 rw[zdj,(zcb h.nd).2];exact List.Perm.eq_of_pairwise (le:=leS) (fun x y _ _ h1 h2=>zdp (List.le_antisymm h1 h2)) (zdG _) (h.ris.imp fun z=>List.le_of_lt z) (zbu _)
def ztW{k:Str}{d:D}(h:zaj k ds=some d):enD ds k=[45,45,10]++pqP (k,d)++[10]:=by
 unfold enD enL pqP;rw[h];simp
def RP.text(h:RP n ps):zkt ks (unS ps)=zrq ks ps:=by
 unfold zkt zrq;rw[h.keys,yat,yat];congr 2;exact yaN fun p a=>ztW (h.look a)
def AV.rp(V:AV n ds)(ho:zal ds=true):RP n (zrw ds)/\zkt ks ds=zrq ks (zrw ds):=by
 have at':∀k∈za6 (zaY ds),∃d,zaj k ds=some d:=fun k hk=>zhe ho hk
 have nd:=zjH ho;rw[zeE]at nd;refine⟨⟨fun p c=>?_,?_⟩,?_⟩
 ·obtain⟨k,hk,rfl⟩:=yaf.mp c;obtain⟨d,hd⟩:=at' k hk;rw[hd];exact⟨V.key k d hd,V.val k d hd⟩
 ·rw[zeE];refine(List.Pairwise.and (zdG (zaY ds)) nd).imp fun {a b} z=>?_
  exact Classical.byContradiction fun q=>z.2 (zdp (List.le_antisymm z.1 (List.not_lt.mp q)))
 ·unfold zkt zrq zrw;rw[yat,yat];congr 2;refine yaN fun k hk=>?_
  obtain⟨d,hd⟩:=at' k hk;rw[ztW hd];show _=[45,45,10]++pqP (k,(zaj k ds).getD .non)++[10];rw[hd];rfl
theorem RP.nn(h:RP n ps)(I:n<=16):∀q∈ps.map pqP,TX.nn q:=fun q b=>by
 obtain⟨p,a,rfl⟩:=yaf.mp b;exact znz (h.ok p a).1 ((h.ok p a).2.rows I).1
def okA(s:Str):Bool:=Txt.endswith s "\n" && (match Txt.split (Txt.slice s none (some (-1))) Y with|[]=>false|a::xs=>zjL (rdS (a ++ "\n"))&&(zdD (rdS (a ++ "\n")).length "" xs).isSome)
def zwc{n:Nat}{p:Str×D}(h:EnV n p):ltS "" p.1:=by
 have h1:=(zeQ h.1).1.1;rw[<-zbM]at h1;show L "" < L p.1;rw[zhn]
 cases c:L p.1 with
 |nil=>rw[c]at h1;cases h1|cons a b=>exact List.nil_lt_cons ..
def zsO(I:Ks ks)(hb:zjL (ks.map fD)=true)(h:RP ks.length ps):okA (T (zrq ks ps))=true:=by
 have b:ks≠[]:=fun z=>by have:=I.ne;rw[z]at this;cases this
 have d:L (T (zrq ks ps))=jy (jn 10 (ks.map kL)::ps.map pqP)++[10]:=by rw[L_T,<-zpg b];rfl
 have a:∀q∈jn 10 (ks.map kL)::ps.map pqP,TX.nn q:=fun q a=>by
  rcases yaq.mp a with rfl|a
  ·exact zta I
  ·exact h.nn I.le q a
 unfold okA;rw[zdd d,zpN (by simp) (L_T _) a (ztr _),zdP,(zff _).mpr ⟨_,d⟩,yar,yat]
 have e:T (jn 10 (ks.map kL))++(⟨#[10]⟩:Str)=T (zfm ks):=by rw[zgO b];exact zrt _ [10]
 dsimp only;rw[e,(zq6 I).2,hb,yab];show(true&&(true&&(zdD ks.length "" (ps.map fun p=>T (pqP p))).isSome))=true;rw[zjt I.le (fun p c=>⟨h.ok p c,zwc (h.ok p c)⟩) h.ris];rfl
end
section
variable{S:Sto}
def zdL{s:Str}(hs:s.length<=7000)(I:(L s).count 10<=122):(okA s=false/\∃S',zae [.str s] S=.exc "NoText" S') ∨
  (okA s=true/\∃ks ps,Ks ks/\RP ks.length ps/\ps.length<64/\s=T (zrq ks ps)/\zae [.str s] S=.ok (.ref S.length) (S++[alb (FlD (ks.map fD)) (unS ps) [] []])):=by
 have N:∀(c:Str) (S:Sto),kMk "Album" [] zaC (.exc c S)=.exc c S:=fun _ _=>rfl
 have it:zcK "str" (.str s)=some (.bl true):=rfl;have y:znA (.int 1)=some (.int (-1)):=rfl
 have h:s.length<=100000:=by omega
 cases d:Txt.endswith s "\n"with
 |false=>
  refine .inl ⟨by unfold okA;rw[d];rfl,S,?_⟩;simp[zae,zai,zaM,it,d,zbz,h]
 |true=>
  obtain⟨b,u⟩:=(zff s).mp (by rw[<-zdP];exact d);have g:=zdd u
  have R:(T b).length<=7000:=by rw[zet];rw[<-zbM,u,yae]at hs;omega
  cases j:Txt.split (T b) Y with
  |nil=>exact absurd j (zfX _ _)|cons e xs=>
  have A:=zmQ (T b);rw[j,L_T,yar]at A;obtain⟨r,m⟩:=zlQ (L e::xs.map L);rw[A]at r m
  have E:b.count 10<=121:=by rw[u,ybd]at I;have:([10]:List Nat).count 10=1:=rfl;omega
  have U:xs.length<=60:=by rw[yad,yab]at r;omega
  rw[zet]at R
  have V:e.length<=7000:=by rw[<-zbM];have:=m _ (.head _);omega
  have v:∀x∈xs,x.length<=8000:=fun x v=>by rw[<-zbM];have:=m (L x) (.tail _ (yaX v));omega
  have o:zcW (T b) (.str "\n--\n")=some (.lst (.str e::xs.map D.str)):=by
   rw[zxZ];show(if !(Y.length==0)&&zau (T b).length then some (D.lst ((Txt.split (T b) Y).map D.str))else none)=_;rw[j,if_pos,yar];rw[yaa];exact⟨rfl,yap (by rw[zet];omega)⟩
  have M:("\n":Str).length=1:=by decide +kernel
  have d0:ixD (.lst (.str e::xs.map D.str)) (.int 0)=some (.str e):=zax _ 0
  have B:za0 (.str e) (.str "\n")=some (.str (e ++ "\n")):=by
   show(if zau (e.length+("\n":Str).length)then some (D.str (e ++ "\n"))else none)=_;rw[if_pos (show zau _=true from yap (by omega))]
  have pl:(e ++ "\n").length<=8000:=by rw[Str.length_append,M];omega
  have a:=zhU (S:=S) pl
  have C:Txt.endswith (e ++ "\n") "\n"=true:=by rw[zdP];exact(zff _).mpr ⟨L e,zef _ _⟩
  rw[C]at a
  have k:okA s=(zjL (rdS (e ++ "\n"))&&(zdD (rdS (e ++ "\n")).length "" xs).isSome):=by
   unfold okA;rw[d,g,j];rfl
  cases hb:zjL (rdS (e ++ "\n"))with
  |false=>
   rw[hb]at k a;refine .inl ⟨k,S,?_⟩;generalize e ++ "\n"=q at*;generalize D.lst (.str e::xs.map D.str)=P at*;generalize T b=z at*
   have O:z.length<=100000:=by rw[<-g];exact yav (yc6 s none (some (-1))) h
   simp[zae,zai,zaM,it,d,zbz,h,g,y,o,d0,B,a,N]
  |true=>
  obtain⟨ks,l,G,es⟩:=zol C hb
  have ei:∀S,zbm [FlD (ks.map fD)] S=.ok (.bl true) S:=fun S=>by rw[<-G,zey (zsi pl),hb]
  rw[hb]at k;rw[hb]at a;simp only[Bool.and_self,yci]at a;rw[G]at k a;have X:FlD (ks.map fD)=.tup ((ks.map fD).map D.tup):=rfl
  have w:((ks.map fD).map D.tup).length=ks.length:=by rw[yab,yab]
  have t:=l.le;have i:=zi0 (S:=S) (T:=FlD (ks.map fD)) ei;have f:=zeJ (S:=S++[alb (FlD (ks.map fD)) [] [] []]) (tl:=(ks.map fD).map D.tup) (xs:=xs) (by omega) v (by omega);rw[<-X,w]at f;rw[yab]at k;have ef:=zcP (S:=S++[alb (FlD (ks.map fD)) [] [] []]) (n:=S.length) zdr
  have c1:zhL (D.str e::xs.map D.str) (some 1) none=xs.map D.str:=by
   unfold zhL;rw[show(some (1:Int))=some ((1:Nat):Int)from rfl,HT.zeI,HT.zf0,yad,ycZ (by omega)];show(xs.map D.str).take _=_;rw[Nat.add_sub_cancel,ych]
  have eT:L e=jn 10 (ks.map kL):=by
   have:=congrArg L es;rw[zef,L_T,zgO (fun z=>by have:=l.ne;rw[z]at this;cases this),zdP]at this;exact List.append_cancel_right this
  generalize Z:D.lst (.str e::xs.map D.str)=P at*
  have H:∀ρ:Env,ρ[2]?=some (some (false,.ref S.length))->ρ[1]?=some (some (false,P))->eFn zaz [(zkr "Album" "tiles" (zad 2)),(eSl (zac 1) (some (zaa (.int 1))) none)] ρ (S++[alb (FlD (ks.map fD)) [] [] []])=zaz [FlD (ks.map fD),.lst (xs.map D.str)] (S++[alb (FlD (ks.map fD)) [] [] []]):=fun ρ h2 h1=>by
   rw[<-Z]at h1;simp[h2,h1,ef,c1]
  generalize hq:e ++ "\n"=q at*;generalize Q:T b=z at*
  cases he:zdD ks.length "" xs with
  |none=>
   rw[he]at k f;refine .inl ⟨k,S++[alb (FlD (ks.map fD)) [] [] []],?_⟩
   have eN:∀ρ:Env,ρ[2]?=some (some (false,.ref S.length))->ρ[1]?=some (some (false,P))->zgP "Album" "named" 2 (eFn zaz [(zkr "Album" "tiles" (zad 2)),(eSl (zac 1) (some (zaa (.int 1))) none)]) ρ (S++[alb (FlD (ks.map fD)) [] [] []])=.ex "NoText" ρ (S++[alb (FlD (ks.map fD)) [] [] []]):=fun ρ h2 h1=>by
    unfold zgP;rw[H ρ h2 h1,f]
   generalize S++[alb (FlD (ks.map fD)) [] [] []]=S1 at*;generalize FlD (ks.map fD)=F at*;simp[zae,zai,zaM,it,d,zbz,h,g,y,o,d0,B,a,i,eN]
  |some ps=>
   rw[he]at k f;obtain⟨b1,b2,J⟩:=zhm t he;have rp:RP ks.length ps:=⟨fun p W=>(b1 p W).1,b2⟩
   have K:ps.length=xs.length:=by have:=congrArg List.length J;rw[yab,yab]at this;exact this.symm
   refine .inr ⟨k,ks,ps,l,rp,by omega,?_,?_⟩
   ·refine zdp (u.trans ?_);rw[L_T,<-A,eT,J];exact(zpg (fun z=>by have:=l.ne;rw[z]at this;cases this) _).symm
   ·have eN:∀ρ:Env,ρ[2]?=some (some (false,.ref S.length))->ρ[1]?=some (some (false,P))->zgP "Album" "named" 2 (eFn zaz [(zkr "Album" "tiles" (zad 2)),(eSl (zac 1) (some (zaa (.int 1))) none)]) ρ (S++[alb (FlD (ks.map fD)) [] [] []])=.nx ρ (S++[alb (FlD (ks.map fD)) (unS ps) [] []]):=fun ρ h2 h1=>by
     unfold zgP;rw[H ρ h2 h1,f];show zkY _ _ _ _ _ _=_;unfold zkY;rw[h2];dsimp only;rw[zdr];dsimp only;rw[if_pos (by rfl),zdH];rfl
    generalize S++[alb (FlD (ks.map fD)) (unS ps) [] []]=S2 at*;generalize S++[alb (FlD (ks.map fD)) [] [] []]=S1 at*;generalize FlD (ks.map fD)=F at*;simp[zae,zai,zaM,it,d,zbz,h,g,y,o,d0,B,a,i,eN]
def zgV{s:Str}(hs:s.length<=7000)(I:(L s).count 10<=122):∃S',eFn zaA [(eFn zae [(zad 0)])] [some (false,.str s)] S=if okA s=true then .ok (.str s) S' else .exc "NoText" S':=by
 rcases zdL (S:=S) hs I with⟨h,S',e⟩|⟨h,ks,ps,a,rp,c,es,e⟩
 ·refine⟨S',?_⟩;simp[e,h]
 ·refine⟨S++[alb (FlD (ks.map fD)) (unS ps) [] []],?_⟩
  have ul:(unS ps).length<64:=by unfold unS;rw[yab];exact c
  have b:=zdM (S:=S++[alb (FlD (ks.map fD)) (unS ps) [] []]) (m:=S.length) zdr (zcb rp.nd).1 ul a rp.av a.le;rw[rp.text,<-es]at b;simp[e,h,b]
end
end S2
namespace S2.L94
open PySem
open L2 hiding D
noncomputable def zkk:List (Str×Str):=[("NoText","FloorError"),("Unlike","FloorError"),("NoName","FloorError")]
def isL:Str->Str->Option Bool:=zuH ["NoText","Unlike","NoName"] ["FloorError","NoPlace","NoTile","NoFill","Unlike","Nothing","NoText","NoName"]
noncomputable def zfH:Fs:=
  (zag (sFz [] (sIf (zaf eqD (zaf ixD (zac 1) (zaa (.int 0))) (zaa (.str "join"))) (zag (sFz [0,1] (zbd (zdo (ziF zkk) isL [0,1] (zbx "Album" "join" zak (zad 0) [(zaf ixD (zac 1) (zaa (.int 1))),(zaf ixD (zac 1) (zaa (.int 2))),(zaf ixD (zac 1) (zaa (.int 3))),(zaf ixD (zac 1) (zaa (.int 4)))])))) sNx) sNx))
  (zag (sFz [0,1] (zbd (zdo (ziF zkk) isL [0,1] (eIf (zaf eqD (zaf ixD (zac 1) (zaa (.int 0))) (zaa (.str "put"))) (zbx "Album" "put" zaP (zad 0) [(zaf ixD (zac 1) (zaa (.int 1))),(zaf ixD (zac 1) (zaa (.int 2)))]) (zbx "Album" "take" zay (zad 0) [(zaf ixD (zac 1) (zaa (.int 1)))])))))
  sNx))
noncomputable def zdg:List S2.D->Sto->Out S2.D:=zbh 2 false zfH
noncomputable def zgz:Fs:=
  (zag (sFz [2,0,1] (zk2 (eFn zdg [(zad 2),(eFn zbE [(zad 0),(zaf za0 (zaa (.int 1000)) (zaf zja (zaa (.int 60)) (zac 3))),(zad 1)])]))) sNx)
noncomputable def zgy:Fs:=
  (zag (sFz [0,0] (zbO 7 false (zaf za0 (zaf zja (eFn zbr [(zad 0),(zaf za0 (zaa (.int 1700)) (zac 3))]) (zaa (.int 7919))) (eFn zan [(zad 0),(zaf za0 (zaa (.int 1720)) (zac 3)),(zaa (.int 999983))])))) (zag (sFz [4,7] (zkm 6 (eFn zaD [(zad 4),(zad 7),(zaa (.str "0123 -ab\n"))]))) (zag (sFz [0] (zbO 8 false (eFn zan [(zad 0),(zaf za0 (zaa (.int 1740)) (zac 3)),(zaF zen [(zac 5)])]))) (zag (sFz [] (zbO 9 false (eSl (zac 5) (some (zac 8)) (some (zaf za0 (zac 8) (zaa (.int 2))))))) (zag (sFz [] (zkm 6 (eSm zdw (zaa (.str "\n")) (zaf za0 (eSl (zac 5) none (some (zac 8))) (eSl (zac 5) (some (zaf za0 (zac 8) (zaa (.int 1)))) none))))) (zag (sFz [] (zkm 6 (eSm zdw (zaa (.str "\n")) (zaf za0 (eSl (zac 5) none (some (zaf za0 (zac 8) (zaa (.int 1))))) (eSl (zac 5) (some (zac 8)) none))))) (zag (sFz [] (zkm 6 (eSm zdw (zaa (.str "\n")) (zaf za0 (zaf za0 (eSl (zac 5) none (some (zac 8))) (zaf zle (zac 9) (eUn znA (zaa (.int 1))))) (eSl (zac 5) (some (zaf za0 (zac 8) (zaa (.int 2)))) none))))) sNx)))))))
noncomputable def zee:Fs:=
  (zag (sFz [12] (zbO 10 false (zdo (ziF zkk) isL [12] (eFn zaA [(eFn zae [(zad 0)])])))) (zag (sFz [] (sIf (zhK (zaf neD (zac 10) (zac 12)) (eOr (zaf neD (zac 10) (zaa (.str "no text"))) (zaf eqD (zac 12) (zac 4)))) (zag (sFz [] (zbd (zaa (.bl false)))) sNx) sNx)) sNx))
noncomputable def zfU:Fs:=zag (sFz [13] (zbd (zaf eqD (zbS 1 (.one 0) (zaG (zad 13)) zct (zdo (ziF zkk) isL [0] (eFn zae [(zad 0)])) []) (zaf zjZ (zev [(zaa (.str "no text"))]) (zaa (.int 28)))))) sNx
noncomputable def ziJ:Fs:=zag (sFz [] (zk1 13 (zev [(zaa (.str "0000\n--\na\n0\n\n"))]))) zfU
noncomputable def ziK:Fs:=zag (sFz [] (zk1 13 (zev [(zmh [(zaa (.str "0000\n"))]),(zaa (.str "0000\n--\na\n\n0\n")),(zaa (.str "0000\n-- \na\n0\n")),(zaa (.str " 0000\n")),(zaa (.str "0000\n--\nabcdefg\n0\n"))]))) ziJ
noncomputable def ziL:Fs:=zag (sFz [] (zk1 13 (zev [(zaa (.str "0000\n--\na\n0\n--\n")),(zaa .non),(zaa (.int 5))]))) ziK
noncomputable def ziM:Fs:=zag (sFz [] (zk1 13 (zev [(zaa (.str "0000\n--\na\n0 \n")),(zaa (.str "0000\n--\na\n00\n")),(zaa (.str "0000\n--\na\n0\n0 0\n")),(zaa (.str "0000\na\n0\n"))]))) ziL
noncomputable def ziN:Fs:=zag (sFz [] (zk1 13 (zev [(zaa (.str "0000\n--\na\n0")),(zaa (.str "0000\n\n"))]))) ziM
noncomputable def ziO:Fs:=zag (sFz [] (zk1 13 (zev [(zaa (.str "0000\n--\nb\n0\n--\na\n0\n")),(zaa (.str "0000\n--\na\n0\n--\na\n0\n")),(zaa (.str "0000\n--\nA\n0\n"))]))) ziN
noncomputable def ziP:Fs:=zag (sFz [] (zk1 13 (zev [(zaa (.str "0000\n--\na\n")),(zaa (.str "0000\n--\na\n1\n"))]))) ziO
noncomputable def ziQ:Fs:=zag (sFz [] (zbO 13 true (zev [(zaa (.str "")),(zaa (.str "\n")),(zaa (.str "0000")),(zaa (.str "000\n")),(zaa (.str "0009\n")),(zaa (.str "0000\n0000\n")),(zaa (.str "--\na\n0\n")),(zaa (.str "0000\n--\n"))]))) ziP
noncomputable def zky:Fs:=zag (sFz [11] (sIf (zaf neD (zbS 1 (.one 0) (zaG (zad 11)) zct (eFn zaA [(eFn zae [(zad 0)])]) []) (zac 11)) (zag (sFz [] (zbd (zaa (.bl false)))) sNx) sNx)) ziQ
noncomputable def zfT:Fs:=zag (sFz [] (zbO 11 true (zev [(zaa (.str "0000\n")),(zaa (.str "0121\n8888\n--\na\n0 -\n1 1\n")),(zaa (.str "0000\n--\na\n-\n--\nb\n0\n"))]))) zky
noncomputable def zhO:Fs:=zag (sFz [6] (zkl (.one 12) (zaG (zad 6)) zee)) zfT
noncomputable def zkz:Fs:=zag (sFz [] (zkl (.one 3) (zeu (zaa (.int 4))) zgy)) zhO
noncomputable def zkA:Fs:=zag (sFz [4] (zoD 5 6 false (eSm zcW (zad 4) (zaa (.str "\n"))) true (zev [(zad 4)]))) zkz
noncomputable def zkB:Fs:=zag (sFz [2] (zbO 4 false (eFn zaA [(zad 2)]))) zkA
noncomputable def zkC:Fs:=zag (sFz [] (zkl (.one 3) (zeu (zaa (.int 7))) zgz)) zkB
noncomputable def zkD:Fs:=zag (sFz [1] (zbO 2 false (eMk "Album" [] zaC [(zad 1)]))) zkC
noncomputable def zkE:Fs:=zag (sFz [0] (zbO 1 false (eFn zce [(zad 0),(zaa (.int 200)),(zaa (.int 4))]))) zkD
noncomputable def zrb:Fs:=
  zkE
noncomputable def zso:List S2.D->Sto->Out S2.D:=zbh 14 false zrb
end S2.L94
namespace TX
open PySem StrLaws Builtin Builtin.Str
def zm4{s e:Int}(h0:0<=s):∃k:Nat,(k=0\/s+k=e)/\sliceRange s e 1=(List.range k).map fun i=>s.toNat+i:=by
 unfold sliceRange;simp only[show(1:Int) > 0 by decide,yci,Int.one_mul];refine⟨_,?_,yaN fun i _=>by omega⟩;split
 ·right;simp;omega
 ·left;rfl
def znT(l u:Option Int)(n:Nat):∃a k:Nat,(k=0\/a+k<=n)/\strSliceIndices l u 1 n=(List.range k).map fun i=>a+i:=by
 have key:∀s e:Int,0<=s->e<=n->∃a k:Nat,(k=0\/a+k<=n)/\sliceRange s e 1=(List.range k).map fun i=>a+i:=fun s e h0 h1=>by
  obtain⟨k,h,b⟩:=zm4 (s:=s) (e:=e) h0;exact⟨s.toNat,k,by omega,b⟩
 unfold strSliceIndices
 cases l<;>cases u<;>simp only[show(1:Int) > 0 by decide,yci]<;>refine key _ _ ?_ ?_<;>(repeat' split)<;>omega
def zeF(x:Str)(l u:Option Int):(L (Txt.slice x l u)).Sublist (L x):=by
 unfold Txt.slice;split
 ·exact List.Sublist.refl _
 ·obtain⟨a,k,h,e⟩:=znT l u x.length;rw[e];show(List.toArray _).toList.Sublist _;rw[List.toList_toArray]
  rcases h with rfl|h
  ·exact List.nil_sublist _
  ·have:=picks x.cps.toList k a (by rw[show x.cps.toList.length=x.length from zbM x];exact h)
   have e2:((List.range k).map fun i=>a+i).filterMap (x.cps[·]?)=(x.cps.toList.drop a).take k:=by simpa using this
   rw[e2];exact(yc9 _ _).trans (List.drop_sublist _ _)
structure Ms(y:Str)(a b:Nat):Prop where
 len:(L y).length<=a
 ch:∀c∈L y,c<128
 ct:(L y).count 10<=b
section
variable{x y:Str}{a b a' b':Nat}
def Ms.app(h:Ms x a b)(h':Ms y a' b'):Ms (x++y) (a+a') (b+b')where
 len:=by rw[zef,yae];exact Nat.add_le_add h.len h'.len
 ch:=fun c d=>by rw[zef]at d;exact(yay.mp d).elim (h.ch c) (h'.ch c)
 ct:=by rw[zef,ybd];exact Nat.add_le_add h.ct h'.ct
def Ms.sl(h:Ms x a b)(l u:Option Int):Ms (Txt.slice x l u) a b:=
 ⟨yav (zeF x l u).length_le h.len,fun c d=>h.ch c ((zeF x l u).mem d),yav ((zeF x l u).count_le _) h.ct⟩
def Ms.mono(h:Ms x a b)(I:a<=a')(hb:b<=b'):Ms x a' b':=⟨yav h.len I,h.ch,yav h.ct hb⟩
def Ms.one{c:Nat}(h:c<128):Ms ⟨#[c]⟩ 1 1:=⟨yai _,fun d hd=>by rw[yaE.mp hd];exact h,List.count_le_length⟩
end
end TX
namespace S2
open PySem TX
open L2 hiding D
section
variable{S:Sto}
def zdt(c:Nat):(⟨#[c]⟩:Str).length=1:=rfl
def zwq{g:Str}{i:Int}(h0:0<=i)(h1:i<g.length):∃c,atI g.cps.toList i=some c/\c∈L g:=by
 obtain⟨j,rfl⟩:=ybs h0
 have h:j<(L g).length:=by rw[zbM];omega
 exact⟨(L g)[j],by rw[zax];exact yal h,List.getElem_mem h⟩
def zjQ{x g:Str}{c:Int}{p q:Nat}(I:Ms x p q)(U:p<=3000)(hg:1<=g.length)(a3:g.length<=100)(J:∀c∈L g,c<128):∃y,zaD [.str x,.int c,.str g] S=.ok (.str y) S/\Ms y (2*p+1) (2*q+1):=by
 have N:x.length<=3000:=by rw[<-zbM];exact yav I.len U
 have k:(0:Int)<x.length+1:=by omega
 obtain⟨ch,e,v⟩:=zwq (g:=g) (i:=c / 1000 % g.length) (ybO _ (by omega)) (ybn _ (by omega));have A:Ms ⟨#[ch]⟩ 1 1:=.one (J ch v);generalize n:c % ((x.length:Int)+1)=a;generalize h:c / 100000 % 8=w;have T:0<=w:=h ▸ ybO _ (by decide);have R:w<8:=h ▸ ybn _ (by decide);have sl:∀l u,(Txt.slice x l u).length<=3000:=fun l u=>yav (yc6 x l u) N
 have K:∀y z:Str,(y++z).length=y.length+z.length:=Str.length_append
 have b:x.length<=100000:=by omega
 have d:g.length<=100000:=by omega
 have s:0<g.length:=by omega
 generalize m:a+1+c / 7 % 9=o
 have pre:∀(l u f u2:Option Int),(Txt.slice x l u).length+1<=100000/\(Txt.slice x l u++(⟨#[ch]⟩:Str)).length+(Txt.slice x f u2).length<=100000/\(Txt.slice x l u).length+(Txt.slice x f u2).length<=100000:=fun l u f u2=>by
  have:=sl l u;have:=sl f u2;rw[K,zdt];omega
 have two:∀l u f u2,Ms (Txt.slice x l u++Txt.slice x f u2) (2*p+1) (2*q+1):=fun l u f u2=>((I.sl l u).app (I.sl f u2)).mono (by omega) (by omega)
 have three:∀l u f u2,Ms (Txt.slice x l u++⟨#[ch]⟩++Txt.slice x f u2) (2*p+1) (2*q+1):=fun l u f u2=>(((I.sl l u).app A).app (I.sl f u2)).mono (by omega) (by omega)
 by_cases c1:w<2
 ·refine⟨_,?_,three none (some a) (some a) none⟩;obtain⟨j,p2,p3⟩:=pre none (some a) (some a) none;simp[zaD,zai,zaN,b,d,k,s,e,n,h,m,c1,j,p2,p3,zdt]
 by_cases c2:w=2
 ·refine⟨_,?_,two none (some a) (some (a+1)) none⟩;obtain⟨j,p2,p3⟩:=pre none (some a) (some (a+1)) none;subst c2;simp[zaD,zai,zaN,b,d,k,s,e,n,h,m,p3,zdt]
 by_cases F:w<5
 ·refine⟨_,?_,three none (some a) (some (a+1)) none⟩;obtain⟨j,p2,p3⟩:=pre none (some a) (some (a+1)) none;simp[zaD,zai,zaN,b,d,k,s,e,n,h,m,c1,c2,F,j,p2,p3,zdt]
 by_cases E:w=5
 ·refine⟨_,?_,two none (some a) (some o) none⟩;obtain⟨j,p2,p3⟩:=pre none (some a) (some o) none;subst E;simp[zaD,zai,zaN,b,d,k,s,e,n,h,m,p3,zdt]
 by_cases C:w=6
 ·refine⟨_,?_,two none (some o) (some a) none⟩;obtain⟨j,p2,p3⟩:=pre none (some o) (some a) none;subst C;simp[zaD,zai,zaN,b,d,k,s,e,n,h,m,p3,zdt]
 ·obtain⟨j,p2,p3⟩:=pre (some a) none none (some a);have H:0<=c % 5:=ybO _ (by decide);have G:c % 5<5:=ybn _ (by decide);generalize O:c % 5=r at H G
  have sp:Ms " " 1 1:=by rw[zpP];exact .one (by decide)
  have s1:(" ":Str).length=1:=by decide +kernel
  have h1:x.length+(" ":Str).length<=100000:=by omega
  have h2:(" ":Str).length+x.length<=100000:=by omega
  have Q:x.length+x.length<=100000:=by omega
  have t:∃y:Str,atI [D.str (x ++ " "),.str (" " ++ x),.str (Txt.slice x (some a) none++Txt.slice x none (some a)),.str "",.str (x++x)] r=some (.str y)/\Ms y (2*p+1) (2*q+1):=by
   have:r=0\/r=1\/r=2\/r=3\/r=4:=by omega
   rcases this with rfl|rfl|rfl|rfl|rfl
   ·exact⟨_,rfl,(I.app sp).mono (by omega) (by omega)⟩
   ·exact⟨_,rfl,(sp.app I).mono (by omega) (by omega)⟩
   ·exact⟨_,rfl,two _ _ _ _⟩
   ·refine⟨_,rfl,⟨?_,fun c B=>?_,?_⟩⟩
    ·rw[zhn];exact yaJ _
    ·rw[zhn]at B;exact absurd B ybS
    ·rw[zhn];exact yaJ _
   ·exact⟨_,rfl,(I.app I).mono (by omega) (by omega)⟩
  obtain⟨y,M,P⟩:=t;refine⟨y,?_,P⟩;simp[zaD,zai,zaN,b,d,k,s,e,n,h,m,c1,c2,F,E,C,p3,h1,h2,Q,O,M,zdt]
end
end S2
namespace TX
open PySem
noncomputable def wL:List (List Nat)->Nat
 |[]=>0|q::r=>q.length+1+wL r
theorem zeC:∀a b:List (List Nat),wL (a++b)=wL a+wL b
 |[],b=>(yc5 _).symm|q::a,b=>by show q.length+1+wL (a++b)=q.length+1+wL a+wL b;rw[zeC a b];omega
def ziC(l:List (List Nat))(k:Nat):wL (l.take k)<=wL l/\wL (l.drop k)<=wL l:=by
 have:=zeC (l.take k) (l.drop k);rw[List.take_append_drop]at this;omega
theorem zor:∀l:List (List Nat),wL l.reverse=wL l
 |[]=>rfl|q::r=>by
  rw[yb9,zeC,zor r];show wL r+(q.length+1+0)=q.length+1+wL r;omega
theorem zvY{c:Nat}:∀{Q:List (List Nat)},Q≠[]->(jn c Q).length+1=wL Q
 |[],h=>absurd rfl h|[x],_=>rfl|x::y::r,_=>by
  have:=zvY (c:=c) (Q:=y::r) (ycQ _ _);show(x++c::jn c (y::r)).length+1=x.length+1+wL (y::r);rw[yae,yad];omega
theorem znP{c:Nat}:∀{Q:List (List Nat)},(∀q∈Q,c ∉ q)->(jn c Q).count c=Q.length-1
 |[],_=>rfl|[x],h=>ycz.mpr (h x (.head _))|x::y::r,h=>by
  have:=znP (c:=c) (Q:=y::r) fun q a=>h q (.tail _ a)
  show(x++c::jn c (y::r)).count c=_;rw[ybd,ycz.mpr (h x (.head _)),List.count_cons_self,this];simp
theorem zoY{c:Nat}:∀{Q:List (List Nat)}{d:Nat},d∈jn c Q->d=c\/∃q∈Q,d∈q
 |[],_,h=>nomatch h|[x],_,h=>.inr ⟨x,.head _,h⟩|x::y::r,d,h=>by
  rcases yay.mp (show d∈x++c::jn c (y::r)from h)with z|z
  ·exact .inr ⟨x,.head _,z⟩
  ·rcases yaq.mp z with z|z
   ·exact .inl z
   ·exact(zoY z).imp id fun⟨q,h1,h2⟩=>⟨q,.tail _ h1,h2⟩
structure Ln(x:Str)(p q:Nat)(l:List Str):Prop where
 w:wL (l.map L)<=p+1
 n:l.length<=q+1
 no:∀r∈l,10 ∉ L r
 ch:∀r∈l,∀c∈L r,c<128
 ne:0<l.length
def Ms.lines{x:Str}{p q:Nat}(h:Ms x p q):Ln x p q (Txt.split x ⟨#[10]⟩):=by
 have f:=zfX x ⟨#[10]⟩;have i:=zcF x 10;have no:=StrLaws.split_free x 10;have w:=zvY (c:=10) (Q:=(Txt.split x ⟨#[10]⟩).map L) (fun z=>f (ybb.mp z))
 have ct:=znP (c:=10) (Q:=(Txt.split x ⟨#[10]⟩).map L) fun q e=>by obtain⟨r,g,rfl⟩:=yaf.mp e;exact no r g
 rw[i]at w ct;have h1:=h.len;have h2:=h.ct;rw[yab]at ct;refine⟨by omega,by omega,no,fun r g c k=>h.ch c ?_,List.length_pos_iff.mpr f⟩;rw[<-i]
 have:∀{Q:List (List Nat)}{q:List Nat},q∈Q->∀d∈q,d∈jn 10 Q:=by
  intro Q
  induction Q with
  |nil=>intro q e;cases e|cons a Q j=>
   intro q e d hd
   cases Q with
   |nil=>rwa[yaE.mp e]at hd|cons b Q=>
    show d∈a++10::jn 10 (b::Q)
    rcases yaq.mp e with rfl|e
    ·exact yay.mpr (.inl hd)
    ·exact yay.mpr (.inr (yaj _ (j e d hd)))
 exact this (yaX g) c k
theorem Ln.join{x:Str}{p q a b:Nat}{l ls:List Str}(h:Ln x p q l)(hs:∀r∈ls,r∈l)(hw:wL (ls.map L)<=a)(I:ls.length<=b):Ms (Str.join ⟨#[10]⟩ ls) a b:=by
 have e:=ze0 10 ls;refine⟨?_,fun c d=>?_,?_⟩
 ·rw[e]
  cases ls with
  |nil=>exact yaJ _|cons r ls=>have:=zvY (c:=10) (Q:=(r::ls).map L) (by simp);omega
 ·rw[e]at d
  rcases zoY d with rfl|⟨q,g,d⟩
  ·decide
  ·obtain⟨r,f,rfl⟩:=yaf.mp g;exact h.ch r (hs r f) c d
 ·rw[e,znP fun q g=>by obtain⟨r,f,rfl⟩:=yaf.mp g;exact h.no r (hs r f),yab];omega
end TX
namespace S2
open PySem TX
open L2 hiding D
def zpW{ks:List (List Nat)}(h:Ks ks):∀c∈zfm ks,c<128:=fun c a=>by
 obtain⟨l,b,a⟩:=List.mem_flatten.mp a;obtain⟨k,hk,rfl⟩:=yaf.mp b
 rcases yay.mp a with a|a
 ·obtain⟨i,hi,rfl⟩:=yaf.mp a;have:=h.lt k hk i hi;omega
 ·have:=yaE.mp a;omega
def ztZ:∀i,i<16->∀c∈L (dg i),c<128:=by decide +kernel
theorem zlU{c:Nat}(h:c<128):∀{ps:List (List Nat)},(∀p∈ps,∀x∈p,x<128)->∀x∈jn c ps,x<128
 |[],_,x,d=>nomatch d|[a],e,x,d=>e a yao x d|a::b::r,e,x,d=>by
  rcases yay.mp (show x∈a++c::jn c (b::r)from d)with z|z
  ·exact e a yao x z
  ·rcases yaq.mp z with rfl|z
   ·exact h
   ·exact zlU h (fun p f=>e p (yaj _ f)) x z
def ztS{rs:List (List D)}(h:∀r∈rs,∀d∈r,OkN d):∀c∈flL rs,c<128:=by
 refine zlU (by decide) fun p a=>?_
 obtain⟨r,b,rfl⟩:=yaf.mp a;refine zlU (by decide) fun p a=>?_
 obtain⟨d,hd,rfl⟩:=yaf.mp a
 rcases h r b d hd with rfl|⟨i,hi,rfl⟩
 ·exact(by decide +kernel:∀c∈L ("-":Str),c<128)
 ·exact ztZ i hi
section
variable{n m:Nat}{ks:List (List Nat)}{ds es:List (D×D)}
def ztX(V:AV n es)(I:n<=16)(ho:zal es=true){k:Str}(hk:k∈za6 (zaY es)):∀c∈enD es k,c<128:=by
 obtain⟨d,hd⟩:=zhe ho hk;obtain⟨rs,c,rfl,hf,_⟩:=(V.val k d hd).fls I;unfold enD;rw[hd];show ∀c∈enL k (zdN (FlD rs)),c<128;rw[zcG];intro c a;unfold enL at a
 rcases yay.mp a with a|a
 ·rcases yay.mp a with a|a
  ·rcases yay.mp a with a|a
   ·rcases yay.mp a with a|a
    ·exact(by decide:∀c∈[45,45,10],c<128) c a
    ·exact yc4 ((zeQ (V.key k _ hd)).2 c a).2 (by decide)
   ·have:=yaE.mp a;omega
  ·exact ztS hf.ok c a
 ·have:=yaE.mp a;omega
def zrp(I:Ks ks)(V:AV n es)(J:n<=16)(ho:zal es=true):∀c∈zkt ks es,c<128:=fun c a=>by
 unfold zkt at a
 rcases yay.mp a with a|a
 ·exact zpW I c a
 ·obtain⟨l,b,a⟩:=List.mem_flatten.mp a;obtain⟨k,hk,rfl⟩:=yaf.mp b;exact ztX V J ho hk c a
def zvM{most:Int}{ts:Z2}(I:Tiles most ts)(hm:most<=16):∃ks,Ks ks/\ks.length=ts.length/\FlD (ks.map fD)=.tup (ts.map zaq):=by
 refine⟨ts.map (·.map Int.toNat),?_,yab _,?_⟩
 ·have a:=I.ne;have b:=I.le;refine⟨by rw[yab];exact a,by rw[yab];omega,fun k h=>?_,fun k h i hi=>?_⟩
  ·obtain⟨t,d,rfl⟩:=yaf.mp h;rw[yab];exact I.four t d
  ·obtain⟨t,d,rfl⟩:=yaf.mp h;obtain⟨c,e,rfl⟩:=yaf.mp hi;have:=I.col t d c e;omega
 ·unfold FlD;rw[yat,yat];congr 1;refine yaN fun t h=>?_
  show D.tup ((t.map Int.toNat).map fun i:Nat=>D.int i)=D.tup (t.map D.int);rw[yat];congr 1;refine yaN fun c e=>?_
  have:=I.col t h c e;show D.int ((c.toNat:Nat):Int)=D.int c;rw[Int.toNat_of_nonneg this.1]
theorem zid{α:Type}{f:α->List Nat}{B:Nat}:∀{l:List α},(∀a∈l,(f a).count 10<=B)->(l.map f).flatten.count 10<=l.length*B
 |[],_=>yaJ _|a::l,h=>by
  rw[yar,yaY,ybd,yad,Nat.succ_mul];have:=h a yao;have:=zid (l:=l) fun x b=>h x (yaj _ b)
  omega
def zv5{rs:List (List D)}(h:Fls rs):(flL rs).count 10<=5:=by
 unfold flL
 rw[znP fun q b=>by
  obtain⟨r,a,rfl⟩:=yaf.mp b;refine zic (by decide) fun p c=>?_
  obtain⟨d,hd,rfl⟩:=yaf.mp c
  exact(zlx (h.ok r a d hd)).1,yab]
 have:=h.le;omega
def zsP(I:Ks ks)(h4:ks.length<=4)(V:AV n ds)(J:n<=16)(ho:zal ds=true)(U:ds.length<=7):Ms (T (zkt ks ds)) 2200 60:=by
 have h:(za6 (zaY ds)).length<=7:=by rw[(zbu _).length_eq,zgf ho];exact U
 have g:=zdT (f:=enD ds) (B:=300) (l:=za6 (zaY ds)) fun k hk=>zmg V J ho hk
 have b:=zdT (f:=fun k=>kL k++[10]) (B:=5) (l:=ks) fun k hk=>by rw[yae,zjh,I.four k hk];decide
 have o:=zid (f:=enD ds) (B:=8) (l:=za6 (zaY ds)) fun k hk=>by
  obtain⟨d,hd⟩:=zhe ho hk;obtain⟨f1,_⟩:=(V.val k d hd).rows J;have:=zv5 f1;unfold enD enL;rw[hd,Option.getD_some];simp only[ybd];rw[ycz.mpr (zh6 (V.key k d hd)).1]
  have j:([45,45,10]:List Nat).count 10=1:=by decide
  have e2:([10]:List Nat).count 10=1:=by decide
  omega
 have m:=zid (f:=fun k=>kL k++[10]) (B:=1) (l:=ks) fun k hk=>by
  rw[ybd,ycz.mpr fun z=>by obtain⟨i,_,e⟩:=yaf.mp z;omega];exact(by decide:0+([10]:List Nat).count 10<=1)
 refine⟨?_,fun c a=>zrp I V J ho c (by rwa[L_T]at a),?_⟩
 ·rw[L_T];unfold zkt zfm;rw[yae];omega
 ·rw[L_T];unfold zkt zfm;rw[ybd];omega
def zth{x:Str}{a b:Nat}(h:Ms x a b):PyData.strOk x=true:=by
 unfold PyData.strOk;rw[Array.all_eq_true_iff_forall_mem];intro c d;have:=h.ch c (by simpa using d);exact yap (by omega)
def ztV{x k:Str}(I:PyData.strOk x=true)(hk:PyData.strOk k=true):eqD (.str x) (.str k)=some (.bl (decide (x=k))):=by
 unfold eqD;rw[if_pos (by show(PyData.strOk x&&PyData.strOk k)=true;rw[I,hk];rfl)]
 have e:zf6 (.str x) (.str k)=decide (x=k):=by
  have h:=zjs (.str x) (.str k) rfl rfl
  by_cases q:x=k
  ·rw[yap q];exact h.mpr (by rw[q])
  ·rw[yaz q]
   cases hb:zf6 (.str x) (.str k)with
   |false=>rfl|true=>exact absurd (by cases h.mp hb;rfl) q
 rw[e]
theorem zil{elt:Fe}{g:D->D}:∀{ds:List D},(∀d∈ds,∀S,∃S',elt [some (false,d)] S=.ok (g d) S')->∀S,∃S',za5 (.one 0) zct elt [none] ds S=.ok (ds.map g) S'
 |[],_,S=>⟨S,rfl⟩|d::ds,h,S=>by
  obtain⟨S1,b⟩:=h d (.head _) S;obtain⟨S2,e2⟩:=zil (ds:=ds) (fun x a=>h x (.tail _ a)) S1;refine⟨S2,?_⟩;show(elt [some (false,d)] S).bind _=_;rw[b];show(za5 (.one 0) zct elt [none] ds S1).bind _=_;rw[e2];rfl
end
end S2
namespace S2.L94
open PySem TX
open L2 hiding D
def cls:ClsT (ziF zkk) isL:=⟨by decide,by decide,fun S=>by kernel_rfl,fun S=>by kernel_rfl⟩
def ztY:zdg=zbh 2 false (zmk (ziF zkk) isL):=rfl
noncomputable abbrev Sl:=Option (Bool×S2.D)
noncomputable def eA(l:List Int)(tl:List S2.D)(x3 x4 x5 x6 x7 x8 x9 x10 J x12 I:Sl):Env:=[some (false,.scr l),some (false,.tup tl),some (false,.ref 0),x3,x4,x5,x6,x7,x8,x9,x10,J,x12,I]
section
variable{l:List Int}{ts:Z2}{ks:List (List Nat)}{ds:List (S2.D×S2.D)}{k:Nat}{x:Str}
noncomputable def Iv1(l:List Int)(tl:List S2.D)(k:Nat)(ρ:Env)(S:Sto):Prop:=
 ∃(ds:List (S2.D×S2.D)) (dn un:List S2.D) (x3:Sl),ρ=eA l tl x3 none none none none none none none none none none/\S=[alb (.tup tl) ds dn un]/\zal ds=true/\AV tl.length ds/\ds.length<=k/\dn.length<=k
def zu0(U:Tiles 4 ts)(hk:k<7){ρ:Env}{S:Sto}(h:Iv1 l (ts.map zaq) k ρ S):
  ∃J I S2,(Tg.one 3).put ρ (.int k)=some J/\zgz J S=.nx I S2/\Iv1 l (ts.map zaq) (k+1) I S2:=by
 obtain⟨ds,dn,un,x3,rfl,rfl,i,V,h1,h2⟩:=h;have b:(ts.map zaq).length=ts.length:=yab _;obtain⟨deed,g,j⟩:=zm2 (l:=l) (at':=1000+60*(k:Int)) (S:=[alb (.tup (ts.map zaq)) ds dn un]) (by omega) U (by decide);rw[<-b]at g;obtain⟨e,ds',dn',un',f,a,n,l1,o⟩:=zrh cls (S:=[alb (.tup (ts.map zaq)) ds dn un]) (m:=0) rfl i V (by omega) (by omega) g;rw[<-ztY]at f
 have c:zbV 60=true:=by decide
 refine⟨_,eA l (ts.map zaq) (some (false,.int k)) none none none none none none none none none none,_,rfl,?_,ds',dn',un',_,rfl,rfl,a,n,by omega,by omega⟩;have d:zdg [.ref 0,deed] [alb (.tup (ts.map zaq)) ds dn un]=.ok e [alb (.tup (ts.map zaq)) ds' dn' un']:=f;generalize [alb (.tup (ts.map zaq)) ds dn un]=S at*;generalize [alb (.tup (ts.map zaq)) ds' dn' un']=S' at*;generalize ts.map zaq=T at*;simp[zgz,eA,c,j,d]
def zqU{ls:List Str}(h1:ls.length<=100)(h2:∀r∈ls,r.length<=9000):zdw "\n" (.lst (ls.map S2.D.str))=some (.str (Str.join ⟨#[10]⟩ ls)):=by
 have e:JoinOk ("\n":Str) ls=true:=by
  unfold JoinOk;rw[yaH];refine StrLaws.joinFits (B:=9000) h2 ?_
  have a:("\n":Str).length=1:=by decide +kernel
  have:=yc7 h1 (yai 9000);rw[a];omega
 have es:=zcE (fun x:Str=>x) ls;show(zdF (ls.map S2.D.str)).bind _=_;rw[show zdF (ls.map S2.D.str)=some ls by simpa using es];show(if JoinOk ("\n":Str) ls then some (S2.D.str (Txt.join "\n" ls))else none)=_;rw[e,if_pos rfl,zd5,zdP]
def zpc{R:List Str}{k:Nat}(h:k<=R.length):zhL (R.map S2.D.str) none (some (k:Int))=(R.take k).map S2.D.str:=by
 unfold zhL;rw[HT.zf0,HT.zeI,yab,ycZ h,ycG,Nat.sub_zero,ydi]
def zmn{R:List Str}{k:Nat}:zhL (R.map S2.D.str) (some (k:Int)) none=(R.drop k).map S2.D.str:=by
 unfold zhL;rw[HT.zf0,HT.zeI,yab]
 by_cases h:k<=R.length
 ·rw[ycZ h,<-ydj,ybX (by rw[yab,ybp];omega)]
 ·rw[Nat.min_eq_right (by omega),List.drop_of_length_le (by rw[yab];omega),List.drop_of_length_le (by omega)];simp
def zt4{R:List Str}{k:Nat}(h:k<=R.length):∃I:List Str,zhL (R.map S2.D.str) (some (k:Int)) (some ((k+2:Nat):Int))=I.map S2.D.str/\I.length<=2/\(∀r∈I,r∈R)/\wL (I.map L)<=wL (R.map L):=by
 refine⟨(R.drop k).take (min (k+2) R.length-k),?_,by rw[yby];omega,fun r a=>ybL (ybK a),?_⟩
 ·unfold zhL;rw[HT.zeI,HT.zeI,yab,ycZ h,ydi,ydj]
 ·rw[ydi,ydj];exact yav (ziC _ _).1 (ziC _ _).2
noncomputable def Iv2(l:List Int)(tl:List S2.D)(x:Str)(k:Nat)(ρ:Env):Prop:=
 ∃(ys:List Str) (x3 x7 x8 x9:Sl),ρ=eA l tl x3 (some (false,.str x)) (some (false,.lst ((Txt.split x ⟨#[10]⟩).map S2.D.str))) (some (true,.lst (ys.map S2.D.str))) x7 x8 x9 none none none none/\(∀y∈ys,Ms y 7000 122)/\ys.length<=1+4*k
def zuZ{tl:List S2.D}{S:Sto}(U:Ms x 2200 60)(hk:k<4){ρ:Env}(h:Iv2 l tl x k ρ):
  ∃J I,(Tg.one 3).put ρ (.int k)=some J/\zgy J S=.nx I S/\Iv2 l tl x (k+1) I:=by
 obtain⟨ys,x3,x7,x8,x9,rfl,hy,hl⟩:=h;have i:=U.lines;have ec:=zi1 (l:=l) (k:=1700+k) (S:=S) (by omega);have ep:=zaU (l:=l) (k:=1720+k) (many:=999983) (S:=S) (by omega) (by decide);obtain⟨A,e1,m1⟩:=zjQ (S:=S) (c:=zgv l (1700+k)*7919+za1 l (1720+k) 999983) (g:="0123 -ab\n") U (by decide) (by decide +kernel) (by decide +kernel) (by decide +kernel);have Rn:=i.n;have Rp:=i.ne
 have q:∀r∈Txt.split x ⟨#[10]⟩,r.length<=9000:=fun r d=>by
  have:=(zcw x 10).2 r d;have:=U.len;rw[zbM]at this;omega
 generalize hR:Txt.split x ⟨#[10]⟩=R at*;have H:=zaU (l:=l) (k:=1740+k) (many:=R.length) (S:=S) (by omega) (by omega);obtain⟨a0,a1⟩:=zbs l (1740+k) (many:=R.length) (by omega);obtain⟨a,ha⟩:=ybs a0;rw[ha]at H a1
 have aR:a<R.length:=by omega
 have c1:=zpc (R:=R) (k:=a) (by omega);have c2:=zmn (R:=R) (k:=a+1);have N:=zpc (R:=R) (k:=a+1) (by omega);have c4:=zmn (R:=R) (k:=a);have K:=zmn (R:=R) (k:=a+2);obtain⟨e,M,t2,Q,P⟩:=zt4 (R:=R) (k:=a) (by omega);simp only[Int.natCast_add,Int.cast_ofNat_Int]at c2 N M K;have O:=i.w;have b:∀ls:List Str,(∀r∈ls,r∈R)->wL (ls.map L)<=7000->ls.length<=100->∃y,zdw "\n" (.lst (ls.map S2.D.str))=some (.str y)/\Ms y 7000 122:=fun ls s1 s2 B=>⟨_,zqU B fun r d=>q r (s1 r d),(i.join s1 s2 B).mono (yai _) (by decide)⟩
 have lt:∀j,(R.take j).length<=R.length:=fun j=>List.length_take_le' j R
 have ld:∀j,(R.drop j).length<=R.length:=fun j=>by rw[ybp];omega
 have m:∀j,wL ((R.take j).map L)<=2201:=fun j=>by rw[ydi];exact yav (ziC _ _).1 O
 have wd:∀j,wL ((R.drop j).map L)<=2201:=fun j=>by rw[ydj];exact yav (ziC _ _).2 O
 obtain⟨v,F,m2⟩:=b (R.take a++R.drop (a+1)) (fun r d=>(yay.mp d).elim ybK ybL) (by rw[yaV,zeC];have:=m a;have:=wd (a+1);omega) (by rw[yae,yby,ybp];omega);obtain⟨u,E,m3⟩:=b (R.take (a+1)++R.drop a) (fun r d=>(yay.mp d).elim ybK ybL) (by rw[yaV,zeC];have:=m (a+1);have:=wd a;omega) (by rw[yae,yby,ybp];omega);obtain⟨t,o,m4⟩:=b (R.take a++e.reverse++R.drop (a+2)) (fun r d=>(yay.mp d).elim (fun z=>(yay.mp z).elim ybK fun z=>Q r (List.mem_reverse.mp z)) ybL) (by rw[yaV,yaV,zeC,zeC,List.map_reverse,zor];have:=m a;have:=wd (a+2);omega) (by rw[yae,yae,ycj,yby,ybp];omega);rw[yaV]at F E;rw[yaV,yaV,List.map_reverse]at o
 have f7:zbV 7919=true:=by decide
 have n1:znA (.int 1)=some (.int (-1)):=rfl;have W:∀lo hi,slD (.lst (R.map S2.D.str)) lo hi=some (.lst (zhL (R.map S2.D.str) lo hi)):=fun _ _=>rfl
 have s:(R.map S2.D.str).length=R.length:=yab _;refine⟨_,eA l tl (some (false,.int k)) (some (false,.str x)) (some (false,.lst (R.map S2.D.str))) (some (true,.lst ((ys++[A,v,u,t]).map S2.D.str))) (some (false,.int (zgv l (1700+k)*7919+za1 l (1720+k) 999983))) (some (false,.int a)) (some (false,.lst (e.map S2.D.str))) none none none none,rfl,?_,ys++[A,v,u,t],_,_,_,_,by rw[hR],fun y p=>?_,by rw[yae];simp;omega⟩
 ·have V:=lt a;have T:=lt (a+1);have a6:=ld (a+1);have a5:=ld a;have a4:=ld (a+2)
  have g1:((R.take a).map S2.D.str).length+((R.drop (a+1)).map S2.D.str).length<=100000:=by rw[yab,yab];omega
  have g2:((R.take (a+1)).map S2.D.str).length+((R.drop a).map S2.D.str).length<=100000:=by rw[yab,yab];omega
  have g3:((R.take a).map S2.D.str).length+(e.map S2.D.str).reverse.length<=100000:=by rw[ycj,yab,yab];omega
  have G:((R.take a).map S2.D.str++(e.map S2.D.str).reverse).length+((R.drop (a+2)).map S2.D.str).length<=100000:=by rw[yae,ycj,yab,yab,yab];omega
  have q0:(ys.map S2.D.str).length<=1000:=by rw[yab];omega
  have Z:(ys.map S2.D.str).length<=100000:=by omega
  generalize hM:zgv l (1700+k)*7919+za1 l (1720+k) 999983=C at*;generalize (R.take a).map S2.D.str=A1 at*;generalize (R.drop (a+1)).map S2.D.str=A2 at*;generalize (R.take (a+1)).map S2.D.str=A3 at*;generalize (R.drop a).map S2.D.str=A4 at*;generalize (R.drop (a+2)).map S2.D.str=A5 at*;have X:zle (.lst (e.map S2.D.str)) (.int (-1))=some (.lst (e.map S2.D.str).reverse):=rfl;generalize (e.map S2.D.str).reverse=A6 at*;generalize e.map S2.D.str=A7 at*;rw[yaV];generalize hY:ys.map S2.D.str=Y at*
  have f:(R.map S2.D.str).length<=100000:=by omega
  generalize a3:R.map S2.D.str=RR at*;rw[yae]at G;rw[ybc]at o;simp[zgy,eA,f7,ec,ep,hM,e1,H,s,f,W,c1,c2,N,c4,M,K,n1,X,g1,g2,g3,G,F,E,o,Z,show Y.length<=99999 by omega,show Y.length<=99998 by omega,show Y.length<=99997 by omega]
 ·rcases yay.mp p with z|z
  ·exact hy y z
  ·simp only[yaq,ybS,or_false]at z
   rcases z with rfl|rfl|rfl|rfl
   ·exact m1.mono (by decide) (by decide)
   ·exact m2
   ·exact m3
   ·exact m4
def zyT:ziF zkk "NoText" "FloorError"=true:=by decide
def zyU(S:Sto):zmG isL "NoText" S=.ok (.str "no text") S:=by kernel_rfl
def zkx{S':Sto}:zdv (ziF zkk) isL (.exc "NoText" S')=.ok (.str "no text") S':=by
 show(if ziF zkk "NoText" "FloorError"then zmG isL "NoText" S' else .bad)=_;rw[if_pos zyT,zyU]
def zuY{tl:List S2.D}{x5 x6 x7 x8 x9 x10 x3 x12:Sl}{S:Sto}{y:Str}(hx:PyData.strOk x=true)(ox:okA x=true)(U:Ms y 7000 122):
  ∃I J S',(Tg.one 12).put (eA l tl x3 (some (false,.str x)) x5 x6 x7 x8 x9 x10 none x12 none) (.str y)=some I/\zee I S=.nx (eA l tl x3 (some (false,.str x)) x5 x6 x7 x8 x9 J none (some (false,.str y)) none) S':=by
 obtain⟨S',e⟩:=zgV (S:=S) (s:=y) (by rw[<-zbM];exact U.len) U.ct;have a:=zth U
 have d:∀ρ:Env,ρ[12]?=some (some (false,.str y))->zdo (ziF zkk) isL [12] (eFn zaA [(eFn zae [(zad 0)])]) ρ S=.ok (.str (if okA y=true then y else "no text")) S':=fun ρ h=>by
  rw[zgF (ds:=[.str y]) (by unfold zhw;rw[h];rfl)];show zdv _ _ (eFn zaA [(eFn zae [(zad 0)])] [some (false,.str y)] S)=_;rw[e]
  by_cases b:okA y=true
  ·rw[if_pos b,if_pos b];rfl
  ·rw[if_neg b,if_neg b,zkx]
 refine⟨_,some (false,.str (if okA y=true then y else "no text")),S',rfl,?_⟩
 by_cases b:okA y=true
 ·simp only[if_pos b]at d ⊢;have c:=zoU a a;simp[zee,eA,d,c]
 ·simp only[if_neg b]at d ⊢;have c:=zoU (x:="no text") (by decide +kernel) a
  have g:neD (.str "no text") (.str "no text")=some (.bl false):=by kernel_rfl
  have f:=ztV a hx;rw[yaz (fun z=>b (by rw[z];exact ox))]at f
  by_cases q:"no text"=y
  ·rw[yap q]at c;simp[zee,eA,d,c]
  ·rw[yaz q]at c;simp[zee,eA,d,c,g,f]
noncomputable def zfq:List S2.D:=[.str "0000\n",.str "0121\n8888\n--\na\n0 -\n1 1\n",.str "0000\n--\na\n-\n--\nb\n0\n"]
noncomputable def zok:List S2.D:=[.str "",.str "\n",.str "0000",.str "000\n",.str "0009\n",.str "0000\n0000\n",.str "--\na\n0\n",.str "0000\n--\n",.str "0000\n--\na\n",.str "0000\n--\na\n1\n",.str "0000\n--\nb\n0\n--\na\n0\n",.str "0000\n--\na\n0\n--\na\n0\n",.str "0000\n--\nA\n0\n",.str "0000\n--\na\n0",.str "0000\n\n",.str "0000\n--\na\n0 \n",.str "0000\n--\na\n00\n",.str "0000\n--\na\n0\n0 0\n",.str "0000\na\n0\n",.str "0000\n--\na\n0\n--\n",.non,.int 5,.tup [.str "0000\n"],.str "0000\n--\na\n\n0\n",.str "0000\n-- \na\n0\n",.str " 0000\n",.str "0000\n--\nabcdefg\n0\n",.str "0000\n--\na\n0\n\n"]
noncomputable def smB(s:Str):Bool:=decide (s.length<=7000)&&decide ((L s).count 10<=122)
noncomputable def gdB:S2.D->Bool|.str s=>okA s&&smB s|_=>false
noncomputable def bdB:S2.D->Bool|.str s=>!okA s&&smB s|.non=>true|.int _=>true|.tup _=>true|_=>false
def zq2:zfq.all gdB=true:=by decide +kernel
def zuh:zok.all bdB=true:=by decide +kernel
def zmS{s:Str}(h:smB s=true):s.length<=7000/\(L s).count 10<=122:=by
 unfold smB at h;rwa[yaa,yaA,yaA]at h
def zmq(S:Sto):∃S',za5 (.one 0) zct (eFn zaA [(eFn zae [(zad 0)])]) [none] zfq S=.ok zfq S':=by
 obtain⟨S',e⟩:=zil (elt:=eFn zaA [(eFn zae [(zad 0)])]) (g:=id) (ds:=zfq) (fun d hd S=>by
  have h:=yaK.mp zq2 d hd
  cases d with
  |str s=>
   have h:(okA s&&smB s)=true:=h;rw[yaa]at h;obtain⟨S',e⟩:=zgV (S:=S) (zmS h.2).1 (zmS h.2).2;rw[if_pos h.1]at e;exact⟨S',e⟩
  |_=>cases h) S
 exact⟨S',by rwa[ycF]at e⟩
def zoc(S:Sto):∃S',za5 (.one 0) zct (zdo (ziF zkk) isL [0] (eFn zae [(zad 0)])) [none] zok S=.ok (zok.map fun _=>.str "no text") S':=by
 refine zil (g:=fun _=>.str "no text") (fun d hd S=>?_) S;rw[zgF (ds:=[d]) rfl];have h:=yaK.mp zuh d hd
 have key:(∃S',zae [d] S=.exc "NoText" S')->∃S',zdv (ziF zkk) isL (eFn zae [(zad 0)] [some (false,d)] S)=.ok (.str "no text") S':=fun⟨S',e⟩=>⟨S',by
  have:eFn zae [(zad 0)] [some (false,d)] S=.exc "NoText" S':=by simp[e]
  rw[this,zkx]⟩
 refine key ?_
 cases d with
 |str s=>
  have h:(!okA s&&smB s)=true:=h;rw[yaa]at h
  rcases zdL (S:=S) (zmS h.2).1 (zmS h.2).2 with⟨_,z⟩|⟨z,_⟩
  ·exact z
  ·rw[z]at h;cases h.1
 |non=>exact⟨S,by simp[zae,zai,zaM,zcK,zbz]⟩
 |int i=>exact⟨S,by simp[zae,zai,zaM,zcK,zbz]⟩
 |tup l=>exact⟨S,by simp[zae,zai,zaM,zcK,zbz]⟩
 |_=>cases h
def zpt{tl:List S2.D}{x3 x4 x5 x6 x7 x8 x9 x10 x12:Sl}(S:Sto):∃S',zfT (eA l tl x3 x4 x5 x6 x7 x8 x9 x10 none x12 none) S=.rt (.bl true) S':=by
 obtain⟨S1,f⟩:=zmq S;obtain⟨g,e2⟩:=zoc S1;refine⟨g,?_⟩
 have b:neD (.lst zfq) (.lst zfq)=some (.bl false):=by kernel_rfl
 have a:eqD (.lst (zok.map fun _=>.str "no text")) (.lst (List.replicate 28 (.str "no text")))=some (.bl true):=by kernel_rfl
 have c:zjZ (.lst [.str "no text"]) (.int 28)=some (.lst (List.replicate 28 (.str "no text"))):=by kernel_rfl
 have l1:zfq.length<=100000:=by decide
 have d:(zok.map fun _=>S2.D.str "no text").length<=100000:=by decide
 have e:S2.D.lst [.str "0000\n",.str "0121\n8888\n--\na\n0 -\n1 1\n",.str "0000\n--\na\n-\n--\nb\n0\n"]=.lst zfq:=rfl
 have st:zfT (eA l tl x3 x4 x5 x6 x7 x8 x9 x10 none x12 none) S=zfU (eA l tl x3 x4 x5 x6 x7 x8 x9 x10 (some (false,.lst zfq)) x12 (some (true,.lst zok))) S1:=by
  unfold zok;generalize h:zfq=G at*;simp[zfT,zky,ziQ,ziP,ziO,ziN,ziM,ziL,ziK,ziJ,eA,e,f,b,l1]
 rw[st];generalize (zok.map fun _=>S2.D.str "no text")=B at*;generalize List.replicate 28 (S2.D.str "no text")=C at*;generalize zok=X at*;simp[zfU,eA,e2,d,c,a]
def zvg(I:Ks ks)(J:FlD (ks.map fD)=.tup (ts.map zaq))(hi:zbm [.tup (ts.map zaq)] []=.ok (.bl true) []):zjL (ks.map fD)=true:=by
 rw[<-J,zey ⟨by rw[yab];have:=I.le;omega,fun r a=>?_⟩]at hi
 ·cases hb:zjL (ks.map fD)with
  |true=>rfl|false=>rw[hb]at hi;cases hi
 ·obtain⟨k,hk,rfl⟩:=yaf.mp a;refine⟨by unfold fD;rw[yab,I.four k hk];decide,fun d hd=>?_⟩;obtain⟨i,_,rfl⟩:=yaf.mp hd;rfl
end
theorem znJ(l:List Int)(hl:l.length<=63):∃S,zso [.scr l] []=.ok (.bl true) S:=by
 obtain⟨ts,v,et⟩:=zk3 (l:=l) (at':=200) (most:=4) (S:=[]) (by decide) (by decide) (by decide);have j:∀S,zbm [.tup (ts.map zaq)] S=.ok (.bl true) S:=fun S=>zk7 v (by decide)
 have K:zaC [.ref 0,.tup (ts.map zaq)] [⟨"Album",[]⟩]=.ok .non [alb (.tup (ts.map zaq)) [] [] []]:=zi0 (S:=[]) (T:=.tup (ts.map zaq)) j;obtain⟨ks,f,G,H⟩:=zvM v (by decide)
 have F:(ts.map zaq).length=ks.length:=by rw[yab,G]
 have h4:=v.le
 obtain⟨Q,S',e,L⟩:=ze8 (tg:=.one 3) (body:=zgz) (ds:=zbv 0 7) (Iv1 l (ts.map zaq)) (by
  intro k d ρ S hd h;obtain⟨rfl,hk⟩:=zcx hd
  exact zu0 v (by omega) h) (ρ:=eA l (ts.map zaq) none none none none none none none none none none none) (S:=[alb (.tup (ts.map zaq)) [] [] []])
  ⟨[],[],[],none,rfl,rfl,rfl,⟨fun x d h=>(by cases h),fun x d h=>(by cases h)⟩,yai _,yai _⟩
 rw[zdO]at L;obtain⟨ds,dn,un,x3,rfl,rfl,E,V,h1,h2⟩:=L;have Z:ds.length<=7:=h1;rw[F]at V;have ea:=zdM (S:=[alb (.tup (ts.map zaq)) ds dn un]) (m:=0) (ks:=ks) (ds:=ds) (dn:=dn) (un:=un) (by rw[H];rfl) E (by omega) f V f.le;have w:=zsP f (by omega) V f.le E Z;obtain⟨rp,ep⟩:=V.rp (ks:=ks) E;have ok:=zsO f (zvg f H (j [])) rp;rw[<-ep]at ok;generalize TX.T (zkt ks ds)=x at*;generalize X:[alb (.tup (ts.map zaq)) ds dn un]=z at*
 have C:x.length<=100000:=by have:=w.len;rw[zbM]at this;omega
 obtain⟨o,a3,e2,J,I⟩:=ze8 (tg:=.one 3) (body:=zgy) (ds:=zbv 0 4) (fun k ρ S=>Iv2 l (ts.map zaq) x k ρ/\S=z) (by
  rintro k d ρ S hd ⟨h,rfl⟩;obtain⟨rfl,hk⟩:=zcx hd;obtain⟨n,o,a,b,c⟩:=zuZ (S:=S) w (by omega) h
  exact⟨n,o,S,a,b,c,rfl⟩) (ρ:=eA l (ts.map zaq) x3 (some (false,.str x)) (some (false,.lst ((Txt.split x ⟨#[10]⟩).map S2.D.str))) (some (true,.lst [.str x])) none none none none none none none) (S:=z)
  ⟨⟨[x],x3,none,none,none,rfl,fun y B=>by rw[yaE.mp B];exact w.mono (by decide) (by decide),yai _⟩,rfl⟩
 rw[I]at e2;obtain⟨ys,s,r,q,p,rfl,A,u⟩:=J
 have u:ys.length<=17:=by rwa[zdO]at u
 obtain⟨P,S3,N,i,g,rfl⟩:=ze8 (tg:=.one 12) (body:=zee) (ds:=ys.map S2.D.str) (fun k ρ S=>∃i g,ρ=eA l (ts.map zaq) s (some (false,.str x)) (some (false,.lst ((Txt.split x ⟨#[10]⟩).map S2.D.str))) (some (false,.lst (ys.map S2.D.str))) r q p i none g none) (by
  rintro k d ρ S hd ⟨i,g,rfl⟩;obtain⟨y,B,rfl⟩:=yaf.mp (ya4 hd);obtain⟨n,t,S',a,b⟩:=zuY (l:=l) (tl:=ts.map zaq) (x3:=s) (x5:=some (false,.lst ((Txt.split x ⟨#[10]⟩).map S2.D.str))) (x6:=some (false,.lst (ys.map S2.D.str))) (x7:=r) (x8:=q) (x9:=p) (x10:=i) (x12:=g) (S:=S) (zth w) ok (A y B)
  exact⟨n,_,S',a,b,t,_,rfl⟩) (ρ:=eA l (ts.map zaq) s (some (false,.str x)) (some (false,.lst ((Txt.split x ⟨#[10]⟩).map S2.D.str))) (some (false,.lst (ys.map S2.D.str))) r q p none none none none) (S:=z) ⟨none,none,rfl⟩
 obtain⟨O,M⟩:=zpt (l:=l) (tl:=ts.map zaq) (x3:=s) (x4:=some (false,.str x)) (x5:=some (false,.lst ((Txt.split x ⟨#[10]⟩).map S2.D.str))) (x6:=some (false,.lst (ys.map S2.D.str))) (x7:=r) (x8:=q) (x9:=p) (x10:=i) (x12:=g) S3;refine⟨O,?_⟩;have U:("\n":Str)=⟨#[10]⟩:=zdP
 have es:zcW x (.str "\n")=some (.lst ((Txt.split x ⟨#[10]⟩).map S2.D.str)):=by
  rw[U];show(if !((⟨#[10]⟩:Str).length==0)&&zau x.length then some (S2.D.lst ((Txt.split x ⟨#[10]⟩).map S2.D.str))else none)=_;rw[if_pos];rw[yaa];exact⟨rfl,yap C⟩
 generalize (Txt.split x ⟨#[10]⟩).map S2.D.str=R at*
 have W:(ys.map S2.D.str).length<=100000:=by rw[yab];omega
 generalize ys.map S2.D.str=Y at*;clear H;generalize [alb (.tup (ts.map zaq)) [] [] []]=Sa at*;generalize ts.map zaq=T at*
 have st:zhO (eA l T s (some (false,.str x)) (some (false,.lst R)) (some (true,.lst Y)) r q p none none none none) z=.rt (.bl true) O:=by
  unfold eA at N M ⊢;simp[zhO,N,M,W]
 unfold eA at e e2 st;simp[zso,zai,zrb,zkE,zkD,zkC,zkB,zkA,zkz,et,K,e,ea,es,e2,st]
end S2.L94
namespace L2
open PySem PySem.Spec PyProof.Rows
def ztO{CX:CXT}{P:Program}{w:World}{K:PySem.W.Frag}{mg:Z6}{base:Heap}{k:Nat}{f a:Addr}{name qual:Str}{params:Arguments}{body:List Stmt}{scope:Scope}{dV kV doc pm U ct oc:Value}{an od:Option Addr}
  {a3:Array (Option Value)}{N ps:List Str}{A:Around}{outer:List Env}{s:Shared}{H:Hp}{args:Args}{us:List Value}{vs:List V}{Q:VK}{E:XK}{t:TS} (lk:K.lookup f=some ⟨oc,od,.func (PySem.W.fnOf name qual params body scope dV kV doc pm an U ct),a3⟩) (hcd:PySem.W.codeIn K U qual=true) (S:FnScope N ps scope)
  (hr:Room (k+1) A) (e0:Env0 P w K mg base A outer s H) (hb:BindsTo s (PySem.W.fnOf name qual params body scope dV kV doc pm an U ct) args (ps.zip us)) (r:Vals vs us) (hl:vs.length=ps.length)
  (ht:PSs ((zik CX P w K mg base N qual scope f U A outer s H E).inH a) body t) (hq:t {nx:=fun _ H'=>Q .non H',rt:=Q} (zdn N vs) H):
  codeAny (model P w) (A.mark (some (.ref a))) (.call (.ref f) args) (fun r s'=>∃u,r=.ok (.ret u)/\CE outer P w H s Q u s') s:=by
 have h:K.In s.heap:=e0.mod.kin.keeps fun b o e=>(e0.bs b o e).1
 have lim:s.heap.NoLimit:=e0.mod.nolimit.keeps fun b o e=>(e0.bs b o e).1
 have d:∀y∈ps.zip us,scope.names.lookup y.1=some .local\/(scope.names.lookup y.1=some .cell/\((cellsFrom (s.heap.objs.size+1) scope.names []).lookup y.1).isSome=true):=fun⟨n,v⟩ i=>by
  rcases S.par n (ybl i).1 with q|q
  ·exact .inl q
  ·exact .inr ⟨q,ybV _ _ _ (.inl q)⟩
 refine ycI (A:=A.mark (some (.ref a))) hr.depth (h _ _ lk) rfl S.co S.gen rfl (yc1 h hcd) (hb _ _ _ _ ?_);refine ycc S.kind d fun env he s1 x=>?_
 subst he;refine⟨lim.keeps x.toInCall.keep,codeAny_func ?_⟩;have I:Inv (zik CX P w K mg base N qual scope f U A outer s H E) [] (zdn N vs) H s1:=ze3 S hr.hd e0 hl r x;refine ya0 (ht [] s1 (zdn N vs) H _ (I.inH a) hq) (fun j s' hs=>?_) fun e s' hs=>hs.elim
 have fin:∀{c:St}{H':Hp}{v:V}{u:Value},Inv ((zik CX P w K mg base N qual scope f U A outer s H E).inH a) [] c H' s'->zaZ v u->Q v H'->CE outer P w H s Q u s':=
  fun {c H' v u} J g q=>⟨v,H',J.os,J.bare,J.base,J.hok,g,q⟩
 cases j with
 |ret u=>
  obtain⟨v,c,H',J,g,q⟩:=hs;exact⟨u,rfl,fin J g q⟩
 |next=>
  obtain⟨c,H',J,q⟩:=hs;exact⟨.none,rfl,fin (v:=V.non) (u:=Value.none) J rfl q⟩
 |brk=>
  obtain⟨_,_,_,q⟩:=hs;exact False.elim q
 |cont=>
  obtain⟨_,_,_,q⟩:=hs;exact False.elim q
end L2
namespace S2
open PySem PySem.Spec PyProof.Rows L2
def zmo:∀(l:List D) (d r:D),zfK l d=some r->∃n,r=.int n:=by
 intro l d r h;unfold zfK at h;split at h
 ·cases h;exact⟨_,rfl⟩
 ·cases h
def zl5:∀(l:List D) (d r:D),zfF l d=some r->∃n,r=.int n:=by
 intro l d r h;unfold zfF at h;split at h
 ·cases h;exact⟨_,rfl⟩
 ·cases h
noncomputable def zdC:List Str:=["NoFill","NoName","NoPlace","NoText","NoTile","Nothing","Unlike"]
section
variable{Y:Cx}{cl:Cf}{G:Genv}{k:Nat}{E:St->XK}
noncomputable def zks(C:Str)(p q r t:Pos):Expr:=.Call (.Name "isinstance" p) [.Name "_law_kept" q,.Name C r] [] t
structure ClsCx(cl:Cf)(G:Genv)(k:Nat)(Y:Cx):Prop where
 gok:GOk cl G Y.prog Y.w Y.K Y.mg Y.base k
 kk:Y.K=cl.K
 un:Y.A.units+64<cLine
 nn:Y.N=(["_law_kept","_law_kinds"]:List Str)
 l0:Y.env.scope.names.lookup ("_law_kept":Str)=some .local
 l1:Y.env.scope.names.lookup ("_law_kinds":Str)=some .local
 gl:∀x∈(("isinstance":Str)::("ValueError":Str)::zdC),Gl Y x
 b1:G.blt "isinstance"=true
 b2:G.blt "ValueError"=true
 ex:∀x∈zdC,G.exc x=true
def ClsCx.bor0(c:ClsCx cl G k Y){p:Pos}:PE Y (.Name "_law_kept" p) (tH cl E (zac 0)):=zkW (by rw[c.nn];rfl) (.inl c.l0) (by decide) (by decide)
def ClsCx.bor1(c:ClsCx cl G k Y){p:Pos}:PE Y (.Name "_law_kinds" p) (tH cl E (zac 1)):=zkW (by rw[c.nn];rfl) (.inl c.l1) (by decide) (by decide)
def ClsCx.cls(c:ClsCx cl G k Y){C:Str}(h:C∈zdC){p q r t:Pos}:PE Y (zks C p q r t) (tE cl E (eUn (zkp G.isx C) (zac 0))):=by
 have hv:C ≠ "ValueError":=by rintro rfl;revert h;decide
 have hd:(C==("__debug__":Str))=false:=by
  cases e:(C==("__debug__":Str))with
  |false=>rfl|true=>rw[eq_of_beq e]at h;revert h;decide
 exact zoB (vC:=.ref (cl C)) (c.gl _ (.head _)) (c.gok.blt _ c.b1) (zh2 (c.gl _ (.tail _ (.tail _ h))) (c.gok.exc C (c.ex C h)).1 rfl hd) (fun u r=>by rw[show u=Value.ref (cl C)from r];unfold clsV;rw[if_neg hv]) (fun d b a=>c.gok.isx d _ b a) rfl c.bor0
def ClsCx.clsV(c:ClsCx cl G k Y){p q r t:Pos}:PE Y (zks "ValueError" p q r t) (tE cl E (eUn (zkp G.isx "ValueError") (zac 0))):=
 zoB (vC:=.ty "ValueError") (c.gl _ (.head _)) (c.gok.blt _ c.b1) (zlp (c.gl _ (.tail _ (.head _))) (c.gok.blt _ c.b2) zkc rfl (by decide) (by decide)) (fun u r=>by rw[show u=Value.type "ValueError"from r];rfl) (fun d b a=>c.gok.isx d _ b a) rfl c.bor0
def ClsCx.cnt(c:ClsCx cl G k Y){p ap cp q:Pos}{kk:Nat}(I:(ap.endLine==cp.line)=true):PE Y (.Call (.Attribute (.Name "_law_kinds" p) "count" ap) [.Constant (.bool true) kk q] [] cp) (tE cl E (eMt zfK 1 (zaa (.bl true)))):=
 zsc PySem.F.slot_list_count PySem.F.type_list_count (znE c.kk c.un) zmo (by rw[c.nn];rfl) (.inl c.l1) (by decide) (by decide) (zcX (zfZ zqv fun _=>.bl _)) rfl I
def ClsCx.idx(c:ClsCx cl G k Y){p ap cp q:Pos}{kk:Nat}(I:(ap.endLine==cp.line)=true):PE Y (.Call (.Attribute (.Name "_law_kinds" p) "index" ap) [.Constant (.bool true) kk q] [] cp) (tE cl E (eMt zfF 1 (zaa (.bl true)))):=
 zsc PySem.F.slot_list_index PySem.F.type_list_index (znD c.kk c.un) zl5 (by rw[c.nn];rfl) (.inl c.l1) (by decide) (by decide) (zcX (zfZ zqv fun _=>.bl _)) rfl I
def ClsCx.nd(c:ClsCx cl G k Y):Y.N.Nodup:=by rw[c.nn];decide
def zej{x:Str}{kk:Nat}{p:Pos}:PE Y (.Constant (.str x) kk p) (tE cl E (zaa (.str x))):=zfZ zoL fun _=>.str _
def ClsCx.ok(c:ClsCx cl G k Y){a1 a2 a3 b1 b2 b3 b4 b5 c1 c2 c3 c4 c5 c6 c7 c8 d1 d2 d3 e1 e2 e3 e4 e5 e6 e7 f1 f2 f3 f4 U f6 f7 g1 g2 g3 g4 h1 h2 h3 h4 i1 i2 i3 i4 j1 j2 j3 j4 k1 k2 k3 k4 l1 l2 l3 l4 m1 m2 m3 m4 n1 n2 n3 n4:Pos}{x1 x2 x3 x4 y1 y2 y3 y4 y5 y6 y7:Nat}
  (J:(c2.endLine==c4.line)=true) (I:(f3.endLine==U.line)=true):
  PSs Y [.Assign [.Name "_law_kinds" a1] (.List [zks "NoFill" g1 g2 g3 g4,zks "NoName" h1 h2 h3 h4,zks "NoPlace" i1 i2 i3 i4,zks "NoText" j1 j2 j3 j4] a2) a3,
   .Assign [.Name "_law_kinds" b1] (.BinOp (.Name "_law_kinds" b2) .Add (.List [zks "NoTile" k1 k2 k3 k4,zks "Nothing" l1 l2 l3 l4,zks "Unlike" m1 m2 m3 m4] b3) b4) b5,
   .If (.BoolOp .Or [.Compare (.Call (.Attribute (.Name "_law_kinds" c1) "count" c2) [.Constant (.bool true) x1 c3] [] c4) [.NotEq] [.Constant (.int 1) x2 c5] c6,.UnaryOp .Not (zks "ValueError" n1 n2 n3 n4) c7] c8) [.Return (some (.Constant (.str "wrong") x3 d1)) d2] [] d3,
   .Return (some (.Subscript (.List [.Constant (.str "no fill") y1 e1,.Constant (.str "no name") y2 e2,.Constant (.str "no place") y3 e3,.Constant (.str "no text") y4 e4,.Constant (.str "no tile") y5 e5,.Constant (.str "nothing") y6 e6,.Constant (.str "unlike") y7 e7] f1) (.Call (.Attribute (.Name "_law_kinds" f2) "index" f3) [.Constant (.bool true) x4 f4] [] U) f6)) f7]
   (tS cl E false (zfc G.isx)):=by
 have cs:∀{C:Str}{p q r t:Pos}{es:List Expr},starEach (zks C p q r t::es) Y.env=(false,eval (zks C p q r t) Y.env)::starEach es Y.env:=fun {C p q r t es}=>rfl
 have ks:∀{x:Str}{n:Nat}{p:Pos}{es:List Expr},starEach (.Constant (.str x) n p::es) Y.env=(false,eval (.Constant (.str x) n p) Y.env)::starEach es Y.env:=fun {x n p es}=>rfl
 refine zd0 (zhP c.nd (by rw[c.nn];rfl) (.inl c.l1) (ziZ (zaR (c.cls (by decide)) (zaR (c.cls (by decide)) (zaR (c.cls (by decide)) (zaR (c.cls (by decide)) zek cs) cs) cs) cs)) (zdE rfl) (.inr c.l1)) ?_;refine zd0 (zoy c.nd (by rw[c.nn];rfl) (.inl c.l1) (zoC zoR c.bor1 (zcX (zei (ziZ (zaR (c.cls (by decide)) (zaR (c.cls (by decide)) (zaR (c.cls (by decide)) zek cs) cs) cs))))) (zdE rfl) (.inr c.l1)) ?_;refine zd0 (zrX ?_ (zd0 (zkL zej) ziT) ziT) ?_
 ·exact PW.pt (zrT (zox (zs1 c.kk c.un) (zcX (c.cnt J)) (zcX (zfZ zoO fun _=>.int _)) rfl) (zoG (zow (zgL c.clsV (fun _=>rfl)))))
 ·exact zd0 (zkL (zsd (ztL c.kk c.un) (zcX (zei (ziZ (zaR zej (zaR zej (zaR zej (zaR zej (zaR zej (zaR zej (zaR zej zek ks) ks) ks) ks) ks) ks) ks)))) (zcX (c.idx I)) (fun _ _=>rfl))) ziT
end
structure ClsFn(cl:Cf)(G:Genv)(K:PySem.W.Frag)(st:Stmt)(f:Addr)(fd:FuncData):Prop where
 fn:Fun K "_law_class" "_law_class" st f fd
 sc:FnScope ["_law_kept","_law_kinds"] ["_law_kept"] (zah st)
 l0:(zah st).names.lookup ("_law_kept":Str)=some .local
 l1:(zah st).names.lookup ("_law_kinds":Str)=some .local
 gl:∀x∈(("isinstance":Str)::("ValueError":Str)::zdC),(zah st).names.lookup x=some .globalImplicit
 b1:G.blt "isinstance"=true
 b2:G.blt "ValueError"=true
 ex:∀x∈zdC,G.exc x=true
 ok:∀(k:Nat) (Y:Cx) (E:St->XK),ClsCx cl G k Y->PSs Y (zaQ st) (tS cl E false (zfc G.isx))
 bind:∀us:List Value,us.length=1->bindArgs fd ⟨us,[]⟩=pure ([("_law_kept":Str)].zip us)
def zoF(G:Genv):List D->Sto->Out D:=zbh 2 false (zfc G.isx)
noncomputable def zpA(cl:Cf)(G:Genv)(i:Nat):TE:=fun σ H Q=>∃v,σ[i]?=some (some v)/\zgA cl 1 false (zoF G) [v] H Q fun _ _ _=>False
theorem zkV{X:Cx}{cl:Cf}{G:Genv}{k i:Nat}{n:Str}{a f:Addr}{fd:FuncData}{st:Stmt}{p q pos:Pos}(U:Room (k+1) X.A)(gok:GOk cl G X.prog X.w X.K X.mg X.base k)(C:ClsFn cl G X.K st f fd)(a3:X.K=cl.K)(hm:X.mg "_law_class"=some (.ref f))(hk:PySem.W.keepIn X.K (.ref f)=true)(hg:Gl X "_law_class")
  (hN:X.N[i]?=some n) (hv:Vis X.env.scope n) (hd:(n==("__debug__":Str))=false) (hcd:(n==("__classdict__":Str))=false):PE (X.inH a) (.Call (.Name "_law_class" p) [.Name n q] [] pos) (zpA cl G i):=by
 intro pins s σ H Q I h;obtain⟨v,h1,h2⟩:=h;have z:PA (X.inH a) [.Name n q] _:=za2 (zaT (X:=X.inH a) (pos:=q) hN hv hd hcd) zbU rfl;refine ybe (zc0 I hg hm ?_ (by decide));refine ybZ (h₀:=X.base) I.ok.mod.kin hk (thn (z pos pins s σ H (fun vs H1=>vs=[v]/\H1=H) I ⟨v,h1,rfl,rfl⟩) fun us s1 ⟨vs,H1,b,r,B,e2⟩=>⟨b.kIn,?_⟩) rfl rfl;subst B e2;have d:X.Ok:=⟨b.ok.mod,b.ok.kind,b.ok.glob,b.ok.blt,b.ok.above,b.ok.inj,b.ok.has,b.ok.cab,fun _=>U.hd,b.ok.frames,b.ok.stk,b.ok.exf,b.ok.bs,b.ok.bsz,b.ok.noex,b.ok.exfs,b.ok.funs,b.ok.frf⟩;have J:=b.outH d;obtain⟨oc,L,kV,doc,pm,an,e,ct,j,rfl,l,y⟩:=C.fn.ex;have t:us.length=1:=r.length.symm
 have D:ClsCx cl G k ((zik (CXE X.prog X.w) X.prog X.w X.K X.mg X.base ["_law_kept","_law_kinds"] "_law_class" (zah st) f e X.A X.stack s1 H1 (fun _ _ _=>False)).inH a):=
  ⟨gok,a3,(by have:=U.un;show X.A.units+3+64<cLine;omega),rfl,C.l0,C.l1,fun x m=>C.gl x m,C.b1,C.b2,C.ex⟩
 refine ydd (ybQ (ztO (CX:=CXE X.prog X.w) (E:=fun _ _ _=>False) (a:=a) l y C.sc U J.env0 (.of_eq (C.bind us t)) r rfl (C.ok k _ (fun _ _ _ _=>False) D) (zir (N:=["_law_kept","_law_kinds"]) h2)) fun r s' o=>?_);obtain⟨u,rfl,ce⟩:=o;obtain⟨w,H',F,c,g⟩:=J.after ce;exact⟨w,H',F.inH a,c,g⟩
end S2
namespace L2
open PySem PySem.Spec PyProof.Rows
def zv4{CX:CXT}{P:Program}{w:World}{K:PySem.W.Frag}{mg:Z6}{base:Heap}{k:Nat}{f:Addr}{name qual:Str}{params:Arguments}{body:List Stmt}{scope:Scope}{dV kV doc pm U ct oc:Value}{an od:Option Addr}
  {a3:Array (Option Value)}{N ps:List Str}{A:Around}{outer:List Env}{s:Shared}{H:Hp}{args:Args}{us:List Value}{vs:List V}{Q:VK}{E:XK}{t:TS} (lk:K.lookup f=some ⟨oc,od,.func (PySem.W.fnOf name qual params body scope dV kV doc pm an U ct),a3⟩) (hcd:PySem.W.codeIn K U qual=true) (S:FnScope N ps scope)
  (hr:Room (k+1) A) (e0:Env0 P w K mg base A outer s H) (hb:BindsTo s (PySem.W.fnOf name qual params body scope dV kV doc pm an U ct) args (ps.zip us)) (r:Vals vs us) (hl:vs.length=ps.length)
  (ht:PSs (zik CX P w K mg base N qual scope f U A outer s H E) body t) (hq:t {nx:=fun _ H'=>Q .non H',rt:=Q} (zdn N vs) H):
  codeAny (model P w) A (.call (.ref f) args) (CR CX outer P w H s Q E) s:=by
 have d:K.In s.heap:=e0.mod.kin.keeps fun b o e=>(e0.bs b o e).1
 have lim:s.heap.NoLimit:=e0.mod.nolimit.keeps fun b o e=>(e0.bs b o e).1
 have a:∀y∈ps.zip us,scope.names.lookup y.1=some .local\/(scope.names.lookup y.1=some .cell/\((cellsFrom (s.heap.objs.size+1) scope.names []).lookup y.1).isSome=true):=fun⟨n,v⟩ h=>by
  rcases S.par n (ybl h).1 with q|q
  ·exact .inl q
  ·exact .inr ⟨q,ybV _ _ _ (.inl q)⟩
 refine ycI hr.depth (d _ _ lk) rfl S.co S.gen rfl (yc1 d hcd) (hb _ _ _ _ ?_);refine ycc S.kind a fun env he s1 x=>?_
 subst he;refine⟨lim.keeps x.toInCall.keep,codeAny_func ?_⟩;have I:Inv (zik CX P w K mg base N qual scope f U A outer s H E) [] (zdn N vs) H s1:=ze3 S hr.hd e0 hl r x;refine ya0 (ht [] s1 (zdn N vs) H _ I hq) (fun i s' hs=>?_) fun e s' hs=>hs
 cases i with
 |ret u=>
  obtain⟨v,c,H',J,g,q⟩:=hs;exact⟨v,H',J.os,J.bare,J.base,J.hok,g,q⟩
 |next=>
  obtain⟨c,H',J,q⟩:=hs;exact⟨.non,H',J.os,J.bare,J.base,J.hok,rfl,q⟩
 |brk=>
  obtain⟨_,_,_,q⟩:=hs;exact False.elim q
 |cont=>
  obtain⟨_,_,_,q⟩:=hs;exact False.elim q
section
variable{X:Cx}{CX:CXT}{k:Nat}{N:List Str}{qual x:Str}{params:Arguments}{body:Expr}{sc:Scope}{f c:Addr}{clos:List (Str×Addr)}{E:St->XK}{vs:List V}{pm ctv:Value}{of oc:Obj}{uf uc:HO}{te:St->TE}{p pos:Pos}{i:Nat}
noncomputable def zkI(i:Nat)(f:Addr)(vs:List V)(te:St->TE):TE:=fun σ H Q=>σ[i]?=some (some (.ref f))/\te σ (vs.map some) H Q
def znp(S:LamSc N sc)(U:Room (k+1) X.A)(hN:X.N[i]?=some x)(hv:Vis X.env.scope x)(L:LamAt X.s₀.heap X.H₀ f params qual body sc N vs clos c pm ctv)(hf:X.H₀ f=some (.frz of uf))(hc:X.H₀ c=some (.frz oc uc))(h0:HOk X.prog X.w X.H₀ X.s₀.heap)
  (J:∀x a,clos.lookup x=some a->a ∉ X.fs/\a ∉ X.ex) (hb:bindArgs (PySem.W.kla_fn "<lambda>" qual params body sc clos pm (.ref c) ctv) ⟨[],[]⟩=pure [])
  (hp:∀(pins:Z3) (σ:St) (H:Hp) (s:Shared) (e:Value) (s':Shared),Inv X pins σ H s->CX X.stack H s (E σ) e s'->X.xe e s')
  (he:∀σ s H,Room k (X.A.deeper (PySem.W.envX qual sc s.heap.objs.size f (.ref c) clos))->PE (zhs CX X.prog X.w X.K X.mg X.base N qual sc f (.ref c) clos X.A X.stack s H (E σ)) body (te σ))
  (hd:(x==("__debug__":Str))=false) (hcd:(x==("__classdict__":Str))=false):PE X (.Call (.Name x p) [] [] pos) (zkI i f vs te):=by
 intro pins s σ H Q I h;obtain⟨h1,h2⟩:=h;refine ybe (thn (zaT (pos:=p) hN hv hd hcd pins s σ H (fun v H'=>v=.ref f/\H'=H) I ⟨_,h1,rfl,rfl⟩) fun u s1 ⟨v,H1,d,r,l,e2⟩=>?_);subst l e2;cases r;have g:=d.lamAt L hf hc h0 J;refine PySem.W.callWith_F0 ⟨_,_,_,_,g.fn⟩ ?_;refine ydd (ybQ (zqL (CX:=CX) (E:=E σ) S U d.env0 g hb (he σ s1 H1) h2) fun r s' b=>?_)
 cases r with
 |error e=>exact hp pins σ H1 s1 e s' d b|ok j=>
  cases j with
  |ret u=>exact d.after b|next=>exact False.elim b|brk=>exact False.elim b|cont=>exact False.elim b
end
def zvz{P:Program}{w:World}{K:PySem.W.Frag}{mg:Z6}{base:Heap}{N:List Str}{qual:Str}{scope:Scope}{f:Addr}{cd:Value}{clos:List (Str×Addr)}{A:Around}{outer:List Env}{s:Shared}{H:Hp}{E:XK}:
  zpj (CXE P w) (zhs (CXE P w) P w K mg base N qual scope f cd clos A outer s H E) E:=fun pins σ H1 s1 e s' I q=>
 zje (X:=zhs (CXE P w) P w K mg base N qual scope f cd clos A outer s H E) I rfl rfl rfl q
def zin{scope:Scope}{env:Env}{cl:List (Str×Addr)}(h:∀y∈scope.names,y.2=.free->∃c,env.cells.lookup y.1=some c)(I:closureFor scope env=pure cl):∀y c,cl.lookup y=some c->(y,NameKind.free)∈scope.names:=by
 have key:∀(l:List (Str×NameKind)) (cs:List (Str×Addr)),(∀y∈l,y.2=.free->∃c,env.cells.lookup y.1=some c) →
   ∃cl,(forIn l cs fun(x:Str×NameKind) (r:List (Str×Addr))=>(if(x.2==NameKind.free)=true then(do let c ← cellOf env x.1;pure (ForInStep.yield ((x.1,c)::r)))else pure (ForInStep.yield r):Sem (ForInStep (List (Str×Addr)))))=pure cl ∧
    ∀y c,cl.lookup y=some c->(y,NameKind.free)∈l\/∃c',cs.lookup y=some c':=by
  intro l
  induction l with
  |nil=>intro cs _;exact⟨cs,rfl,fun y c e=>.inr ⟨c,e⟩⟩|cons p l i=>
   intro cs g;obtain⟨n,k⟩:=p
   by_cases hk:(k==NameKind.free)=true
   ·have m:k=.free:=eq_of_beq hk;obtain⟨c,o⟩:=g (n,k) yao m;obtain⟨cl,b,e2⟩:=i ((n,c)::cs) (fun y f=>g y (yaj _ f));refine⟨cl,?_,fun y c' e=>?_⟩
    ·rw[yb3];show((if(k==NameKind.free)=true then _ else _) >>= _)=_;rw[if_pos hk]
     have a:cellOf env n=pure c:=by unfold cellOf;rw[o]
     show(cellOf env n >>= _) >>= _=_;rw[a];simpa using b
    ·rcases e2 y c' e with z|⟨c2,z⟩
     ·exact .inl (yaj _ z)
     ·rw[yaD]at z
      cases j:y==n with
      |true=>rw[eq_of_beq j,<-m];exact .inl yao|false=>rw[j]at z;exact .inr ⟨c2,z⟩
   ·obtain⟨cl,b,e2⟩:=i cs (fun y f=>g y (yaj _ f));refine⟨cl,?_,fun y c' e=>(e2 y c' e).elim (fun z=>.inl (yaj _ z)) .inr⟩;rw[yb3];show((if(k==NameKind.free)=true then _ else _) >>= _)=_;rw[if_neg hk];simpa using b
 obtain⟨d,b,e2⟩:=key scope.names [] h
 have s:closureFor scope env=pure d:=by
  unfold closureFor;show((forIn scope.names [] _:Sem (List (Str×Addr))) >>= _)=_;simpa using b
 have q:cl=d:=by
  have:=I.symm.trans s;injection this
 subst q
 exact fun y c e=>(e2 y c e).elim (fun z=>z) fun⟨_,z⟩=>by cases z
end L2
namespace S2
open PySem PySem.Spec PyProof.Rows L2
structure ToldFn(K:PySem.W.Frag)(st:Stmt)(f:Addr)(fd:FuncData):Prop where
 fn:Fun K "_law_told" "_law_told" st f fd
 sc:FnScope ["_law_deed_here","e"] ["_law_deed_here"] (zah st)
 l0:(zah st).names.lookup ("_law_deed_here":Str)=some .local
 l1:(zah st).names.lookup ("e":Str)=some .local
 g1:(zah st).names.lookup ("FloorError":Str)=some .globalImplicit
 g2:(zah st).names.lookup ("_law_class":Str)=some .globalImplicit
 body:∃p1 p2 p3 p4 p5 p6 p7 p8 p9 p10:Pos,zaQ st=[.Try [.Return (some (.Call (.Name "_law_deed_here" p1) [] [] p2)) p3] [.ExceptHandler (some (.Name "FloorError" p4)) (some "e") [.Return (some (.Call (.Name "_law_class" p5) [.Name "e" p6] [] p7)) p8] p9] [] [] p10]
 bind:∀us:List Value,us.length=1->bindArgs fd ⟨us,[]⟩=pure ([("_law_deed_here":Str)].zip us)
def zlb{G:Genv}{c:Str}{S S':Sto}{d:D}(h:zmG G.isx c S=.ok d S'):zoF G [.exc c] S=.ok d S':=by
 unfold zmG at h;show zbh 2 false (zfc G.isx) [.exc c] S=_;unfold zbh;show(match zfc G.isx [some (false,.exc c),none] S with|.rt d S'=>Out.ok d S'|.nx _ S'=>_|.ex c _ S'=>_|_=>_)=_
 revert h
 cases zfc G.isx [some (false,.exc c),none] S with
 |rt d0 a=>exact fun h=>h|_=>intro h;cases h
def ziE{H:Hp}{a b:Addr}{x y:HO}(n:a≠b):upd (upd H a x) b y=upd (upd H b y) a x:=by
 funext c
 by_cases h1:c=a
 ·subst h1;rw[zab n,zao,zao]
 ·by_cases h2:c=b
  ·subst h2;rw[zao,zab h1,zao]
  ·rw[zab h2,zab h1,zab h1,zab h2]
def zkf{pos pos':Pos}{c v:Value}(l:List Value)(h:TriplesOk l)(I:codeAmong pos' (l++[rawInt pos.line,rawInt pos.col,c])=some v):codeAmong pos' l=some v\/v=c:=by
 fun_induction TriplesOk l with
 |case1=>
  simp only[List.nil_append,codeAmong,rawInt]at I;split at I
  ·exact .inr (Option.some.inj I).symm
  ·cases I
 |case2 a t b u x zbG e=>
  simp only[List.cons_append,codeAmong]at I ⊢;split at I
  ·rename_i d;rw[if_pos d];exact .inl I
  ·rename_i d;rw[if_neg d];exact e h I
 |case3 l h1 h2=>exact h.elim
section
variable{P:Program}{wo:PySem.World}{K:PySem.W.Frag}{mg:Z6}{base:Heap}{cl:Cf}{G:Genv}{j:Nat}
def zrG{st aD:Stmt}{ft fc cd Pt:Addr}{fd aS:FuncData}{q:Str}{params:Arguments}{body:Expr}{sc:Scope}{lp:Pos}{N:List Str}{fb:Fe}
  (T:ToldFn K st ft fd) (C:ClsFn cl G K aD fc aS) (gok:GOk cl G P wo K mg base j) (aK:K=cl.K)
  (m1:mg "_law_told"=some (.ref ft)) (k1:PySem.W.keepIn K (.ref ft)=true) (m2:mg "_law_class"=some (.ref fc)) (k2:PySem.W.keepIn K (.ref fc)=true) (ai:G.exc "FloorError"=true)
  (hB:zoq mg base) (hC:PySem.W.CodeHd base cd Pt) (ab:cl.tabs Pt=some (q ++ "<lambda>")) (LS:LamSc N sc) (nd:N.Nodup) (a5:∀y∈sc.names,y.2=.free->y.1∈N) (aN:∀env,defaultsOf params env=([],[])) (aR:∀clos pm c ctv,bindArgs (PySem.W.kla_fn "<lambda>" (q ++ "<lambda>") params body sc clos pm (.ref c) ctv) ⟨[],[]⟩=pure [])
  (hE:∀(f c:Addr) (clos:List (Str×Addr)) (A:Around) (outer:List PySem.Env) (s:Shared) (H:Hp) (E':XK),Room j (A.deeper (PySem.W.envX (q ++ "<lambda>") sc s.heap.objs.size f (.ref c) clos))->PE (zhs (CXE P wo) P wo K mg base N (q ++ "<lambda>") sc f (.ref c) clos A outer s H E') body (tE cl (fun _=>E') fb)):
  zuo cl G.und G.isx P wo K mg base (j+2) (some (cd,q)) (.Lambda params body sc lp) N fb:=by
 intro X E caps p pos eP eW eK eM eB hr aP hg aw b;subst eP eW eK eM eB;obtain⟨hcd,Y⟩:=aw _ rfl;dsimp only at hcd Y;intro pins s σ H Q I h;obtain⟨B,w,ρ,S,rfl,R,h⟩:=h;unfold zdo at h
 cases a7:zhw ρ caps with
 |none=>rw[a7]at h;exact h.elim|some ds=>
 rw[a7]at h;dsimp only at h;obtain⟨vs,aG,aF,sh⟩:=zjA R a7
 obtain⟨clos,V,l,a3⟩:=zfM (scope:=sc) (env:=X.env) fun y hy hf=>by
  obtain⟨i,hi⟩:=ycP.mp (a5 y hy hf)
  have D:i<caps.length:=by rw[b.len];exact(yas.mp hi).1
  exact I.ok.has y.1 (.inl (b.at' i y.1 _ hi (yal D)).2.1)
 have Z:=zsI (X:=X) (params:=params) (body:=body) (sc:=sc) (pos:=lp) hcd hC hB V (aN _);rw[Y]at Z;have ha:PA X [.Lambda params body sc lp] _:=za2 Z zbU rfl;refine ybe (zc0 I hg m1 ?_ (by decide))
 refine ybZ (h₀:=X.base) I.ok.mod.kin k1 (thn (ha pos pins s σ w.H (fun xs H1=>∃f c oc ctv M,xs=[.ref f]/\M.H=H1/\Rel cl B σ M ρ S/\Fut w M ∧
   M.H f=some (.frz (PySem.W.kla_obj "<lambda>" (q ++ "<lambda>") params body sc clos ((X.mg "__name__").getD .none) c ctv) (.own f))/\M.H c=some (.frz oc (.own c))/\zjE (q ++ "<lambda>") oc) I ?rd) fun us s1 ⟨xs,H1,F,r1,q1⟩=>⟨F.kIn,?go⟩) rfl rfl
 case rd=>
  obtain⟨ps,t1,t2,t3⟩:=R.wd.tab Pt _ ab;refine⟨ps,t1,t3.1,fun ax f c oc ctv hf hc aj U=>?_,fun cv ax=>?_⟩
  ·have g1:=zaw (w:=w) hc (.frz oc (.own c))
   have aM:(w.add c (.frz oc (.own c))).H f=none:=by show upd w.H c _ f=none;rw[zab aj];exact hf
   have g2:=zaw (w:=w.add c (.frz oc (.own c))) aM (.frz (PySem.W.kla_obj "<lambda>" (q ++ "<lambda>") params body sc clos ((X.mg "__name__").getD .none) c ctv) (.own f));have R2:=(R.grow g1).grow g2
   have pc:c≠Pt:=fun z=>by rw[z,t1]at hc;cases hc
   have pf:f≠Pt:=fun z=>by rw[z,t1]at hf;cases hf
   have a1:=g1.keep Pt _ t1;have a2:=g2.keep Pt _ a1.1;have c1:(w.add c (.frz oc (.own c))).H c=some (.frz oc (.own c)):=zkh;have c2:=g2.keep c _ c1
   obtain⟨R3,F3⟩:=R2.tabUp (au:=ps++#[rawInt lp.line,rawInt lp.col,.ref c]) a2.1 (a2.2.trans (a1.2.trans t2)) fun q' af=>by
    have aT:q'=q ++ "<lambda>":=by rw[ab]at af;exact(Option.some.inj af).symm
    subst aT;have t4:=(t3.up g1.fut).up g2.fut;refine⟨by rw[Array.toList_append];exact TriplesOk_snoc _ _ _ _ t3.1,fun pos' cv e=>?_⟩;rw[Array.toList_append]at e
    rcases zkf _ t3.1 e with z|z
    ·exact t4.2 pos' cv z
    ·exact⟨c,oc,z,⟨c2.1,c2.2.trans zhH⟩,U⟩
   refine⟨f,c,oc,ctv,_,rfl,?_,R3,g1.fut.trans (g2.fut.trans F3),?_,?_,U⟩
   ·show upd (upd (upd w.H c _) f _) Pt _=_;rw[ziE pf,ziE pc]
   ·show upd (upd (upd w.H c _) f _) Pt _ f=_;rw[zab pf,zao]
   ·show upd (upd (upd w.H c _) f _) Pt _ c=_;rw[zab pc,zab (fun z=>aj z.symm),zao]
  ·obtain⟨c,oc,rfl,aq,U⟩:=t3.2 lp cv ax;refine⟨c,oc,rfl,aq.1,U,fun f ctv hf=>?_⟩;have g1:=zaw (w:=w) hf (.frz (PySem.W.kla_obj "<lambda>" (q ++ "<lambda>") params body sc clos ((X.mg "__name__").getD .none) c ctv) (.own f));exact⟨f,c,oc,ctv,w.add f _,rfl,rfl,R.grow g1,g1.fut,zkh,(g1.keep c _ aq.1).1,U⟩
 case go=>
  obtain⟨f,c,oc,ctv,M,rfl,rfl,R1,F1,ao,ay,⟨aC,tt,aO,aH⟩⟩:=q1
  have ah:=zin (scope:=sc) (env:=X.env) (cl:=clos) (fun y hy hf=>by
   obtain⟨i,hi⟩:=ycP.mp (a5 y hy hf)
   have D:i<caps.length:=by rw[b.len];exact(yas.mp hi).1
   exact I.ok.has y.1 (.inl (b.at' i y.1 _ hi (yal D)).2.1)) V
  have L:LamAt s1.heap M.H f params (q ++ "<lambda>") body sc N vs clos c ((X.mg "__name__").getD .none) ctv:={
   fn:=(F.hok f _ ao).1
   code:=⟨c,oc,aC,tt,rfl,(F.hok c _ ay).1,aO,aH⟩
   inj:=fun x y a h1 h2=>F.ok.inj x y a (l x a h1) (l y a h2)
   has:=fun x hx=>a3 x (yaC hx)
   cell:=fun x a e=>⟨F.freeC x a (l x a e),F.cell x a (l x a e)⟩
   val:=fun i x v h1 h2=>by
    have D:i<caps.length:=by rw[b.len];exact(yas.mp h1).1
    obtain⟨b1,b2,_⟩:=b.at' i x _ h1 (yal D);obtain⟨m,hn,hl⟩:=F.loc;obtain⟨u,rv,lk⟩:=hl _ x v b1 (aF i _ v (yal D) h2) (.inr (.inl b2));obtain⟨a,ea⟩:=a3 x (yaC (LS.free x (ya4 h1)))
    rcases lk with⟨kl,_⟩|⟨_,a',ec,ic⟩
    ·have aa:X.env.scope.names.lookup x=some .local:=kl;rw[b2]at aa;cases aa
    ·have:=(l x a ea).symm.trans ec;cases this;exact⟨u,a,rv,ea,ic⟩
   len:=aG.trans b.len}
  have hx:∀x a,clos.lookup x=some a->a ∉ frs X.stack/\a ∉ ([]:List Addr):=fun x a e=>⟨fun hb=>by
   rcases yaq.mp (F.stkSub a hb)with z|z
   ·exact F.cne x a (l x a e) z
   ·obtain⟨i,hi⟩:=ycP.mp (a5 (x,.free) (ah x a e) rfl)
    have D:i<caps.length:=by rw[b.len];exact(yas.mp hi).1
    have aL:=F.ok.cab x a (b.at' i x _ hi (yal D)).2.2 (l x a e);obtain⟨_,o,ho,_⟩:=F.ok.funs.mem z
    exact absurd (yan (yau ho) aL) (yaT _),by simp⟩
  obtain⟨aZ,od,kV,doc,aW,an,aU,ct,aY,rfl,lk,aQ⟩:=T.fn.ex;obtain⟨p1,p2,p3,p4,p5,p6,p7,p8,p9,aX,a9⟩:=T.body
  cases r1 with
  |cons r1 r2=>
  cases r2;cases r1;have ae:Room (j+1) (X.A.deeper (envOfC "_law_told" (zah st) s1.heap.objs.size ft aU)):=hr.deeper _;refine ydd (ybQ (zv4 (CX:=CXE X.prog X.w) (E:=fun _ _ _=>False) (k:=j+1) (Q:=Q) (vs:=[.ref f]) (t:=fun De σ H=>zrI (zkI 0 f vs fun n=>tE cl (fun _=>zu1 X.K (cl "FloorError") 1 (zrI (zpA cl G 1)) De n) fb) De σ H) lk aQ T.sc hr F.env0 (.of_eq (T.bind _ rfl)) (.cons rfl .nil) rfl ?bd ?rd2) fun r s' Y=>?_)
  case bd=>
   rw[a9];refine zh1 (zqh (tb:=fun E'=>zrI (zkI 0 f vs fun n=>tE cl (fun _=>E' n) fb)) (th:=zrI (zpA cl G 1)) rfl rfl T.sc.nd rfl T.l1 T.g1 (gok.exc _ ai).1 (gok.exc _ ai).2 (by decide) (fun aE E'=>?_) (fun a=>?_) (by decide))
   ·exact zh1 (zgZ (znp (CX:=CXE X.prog X.w) (E:=E') (k:=j) (te:=fun n=>tE cl (fun _=>E' n) fb) LS ae rfl (.inl T.l0) L ao ay F.hok hx (aR _ _ _ _) (fun aA n H' a4 e s3 J qq=>⟨n,H',a4,zc1 J,qq⟩) (fun n a4 H' aI=>hE f c clos _ _ a4 H' (E' n) aI) (by decide) (by decide)))
   ·exact zh1 (zgZ (zkV (k:=j) ae gok C aK m2 k2 T.g2 rfl (.inl T.l1) (by decide) (by decide)))
  case rd2=>
   refine⟨rfl,M.base,M.inn,ds.map (fun d=>some (false,d)),S,rfl,⟨R1.wd.enter,?_,fun i o d hi=>?_⟩,?_⟩
   ·rw[yab,yab];exact sh.length
   ·rw[yaM]at hi
    cases a8:ds[i]? with
    |none=>rw[a8]at hi;cases hi|some d'=>
     rw[a8]at hi;cases hi;obtain⟨v,e1,e2⟩:=((sh.up F1).up (zbP M)).at a8;exact⟨v,by rw[yaM,e1];rfl,e2⟩
   ·cases a6:fb (ds.map fun d=>some (false,d)) S with
    |bad=>rw[a6]at h;exact h.elim|ok d S'=>
     rw[a6]at h;intro v w' R' F' s';obtain⟨Rb,Fb⟩:=R1.leave R'.wd F';exact h v (M.back w') Rb (F1.trans Fb) (s'.up (zcj R'.wd))
    |exc c0 S'=>
     rw[a6]at h;dsimp only at h
     cases hu:G.und c0 "FloorError"with
     |false=>rw[hu]at h;exact h.elim|true=>
      rw[hu,if_pos rfl]at h;intro w' R' F';refine⟨cl c0,rfl,gok.und _ _ hu,fun a ob ha aJ=>?_⟩;have g:=zaw (w:=w') ha (.frz ob (.own a));refine⟨.ref a,rfl,rfl,M.base,w'.add a (.frz ob (.own a)),[.exc c0],S',rfl,R'.wd.grow g,.cons (.exc zkh zhH aJ) .nil,?_⟩
      cases O:zmG G.isx c0 S' with
      |bad=>rw[O]at h;exact h.elim|exc c2 S2=>
       unfold zmG at O
       split at O<;>cases O
      |ok d S2=>
       rw[O]at h;rw[zlb O];intro v aB az aV rv;obtain⟨Rb,Fb⟩:=R1.leave az ((F'.trans g.fut).trans aV);exact h v (M.back aB) Rb (F1.trans Fb) (Shd.up (zcj az) rv)
  ·cases r with
   |error e=>obtain⟨_,_,_,_,_,_,_,_,_,_,_,_,_,_,z⟩:=Y;exact z.elim|ok fl=>
    cases fl with
    |ret u=>exact F.after Y|next=>exact False.elim Y|brk=>exact False.elim Y|cont=>exact False.elim Y
end
def zhi(sc:Scope):List Str:=(sc.names.filter fun y=>y.2==.free).map (·.1)
noncomputable def zs9:Arguments:={posonlyargs:=[],args:=[],vararg:=none,kwonlyargs:=[],kw_defaults:=[],kwarg:=none,defaults:=[]}
noncomputable def zqY(p:Arguments):Bool:=p.1.isEmpty&&p.2.isEmpty&&p.3.isNone&&p.4.isEmpty&&p.5.isEmpty&&p.6.isNone&&p.7.isEmpty
def znR{p:Arguments}(h:zqY p=true):p=zs9:=by
 obtain⟨a,b,c,d,e,f,g⟩:=p;simp only[zqY,yaa,List.isEmpty_iff,Option.isNone_iff_eq_none]at h;obtain⟨⟨⟨⟨⟨⟨rfl,rfl⟩,rfl⟩,rfl⟩,rfl⟩,rfl⟩,rfl⟩:=h;rfl
def ztn(sc:Scope):Bool:=decide (sc.kind=.function)&&!sc.isCoroutine&&!sc.isGenerator&&sc.names.all (fun y=>!(y.2==.cell))&&(zhi sc).all (fun x=>decide (sc.names.lookup x=some .free))&&decide (zhi sc).Nodup
def zqM(G:Genv):Expr->Option (List Str×Fe)
 |.Lambda params body sc _=>if zqY params&&ztn sc then(zwe G 40 sc.names (zhi sc) body).map fun p=>(zhi sc,p.f)else none
 |_=>none
noncomputable def Genv.withLam(G:Genv)(cd:Addr)(q:Str):Genv:={G with lam:=zqM G,cod:=some (cd,q)}
theorem GOk.lamUp{P:Program}{wo:PySem.World}{K:PySem.W.Frag}{mg:Z6}{base:Heap}{cl:Cf}{G:Genv}{j:Nat}{st U:Stmt}{ft fc cd Pt:Addr}{fd a6:FuncData}{q:Str}
  (gok:GOk cl G P wo K mg base j) (a5:G.cod=none) (T:ToldFn K st ft fd) (C:ClsFn cl G K U fc a6) (J:K=cl.K) (hP:P=cl.P) (hW:wo=cl.wo)
  (m1:mg "_law_told"=some (.ref ft)) (k1:PySem.W.keepIn K (.ref ft)=true) (m2:mg "_law_class"=some (.ref fc)) (k2:PySem.W.keepIn K (.ref fc)=true) (a4:G.exc "FloorError"=true)
  (hB:zoq mg base) (hC:PySem.W.CodeHd base cd Pt) (a3:cl.tabs Pt=some (q ++ "<lambda>")):GOk cl (G.withLam cd q) P wo K mg base (j+2)where
 con:=gok.con
 fn:=fun y D h=>by
  obtain⟨d,b,au,h1,h2,l,k⟩:=gok.fn y D h;exact⟨d,b,au,h1,h2,l,k.mono (by omega)⟩
 blt:=gok.blt
 exc:=gok.exc
 und:=gok.und
 isx:=gok.isx
 fk:=gok.fk
 mt:=fun m c fi h=>by
  obtain⟨d,b,au,h1,h2,l,k⟩:=gok.mt m c fi h;exact⟨d,b,au,h1,h2,l,k.mono (by omega)⟩
 mks:=fun c ah fi h=>by
  obtain⟨d,b,au,dvs,ds,i,hi,z⟩:=gok.mks c ah fi h;exact⟨d,b,au,dvs,ds,i,by omega,z⟩
 tl:=fun e N fb h=>by
  have h':zqM G e=some (N,fb):=h;unfold zqM at h';split at h'
  ·rename_i params body sc L;split at h'
   ·rename_i hok;rw[yaa]at hok;obtain⟨a,_,h2⟩:=ya5.mp h';cases h2;have E:=znR hok.1;subst E;have hs:=hok.2;unfold ztn at hs;simp only[yaa,yaA,yaH,yaK]at hs;obtain⟨⟨⟨⟨⟨s1,s2⟩,u⟩,t⟩,r⟩,n⟩:=hs
    have o:∀y∈sc.names,y.2≠.cell:=fun y f z=>by have:=t y f;rw[z]at this;cases this
    have F:LamSc (zhi sc) sc:=⟨s1,s2,u,o,r⟩;refine zrG (G:=G) T C gok J m1 k1 m2 k2 a4 hB hC a3 F n (fun y f hf=>?_) (fun _=>rfl) (fun _ _ _ _=>rfl) (fun d c' clos A outer s H p B=>?_)
    ·unfold zhi;exact yaf.mpr ⟨y,List.mem_filter.mpr ⟨f,by rw[hf];rfl⟩,rfl⟩
    ·have g:Gx cl G j (zhs (CXE P wo) P wo K mg base (zhi sc) (q ++ "<lambda>") sc d (.ref c') clos A outer s H p) sc.names (zhi sc) (fun _=>p):=
      ⟨gok,B,rfl,fun pins σ H1 s1 e s' I v=>zvz pins σ H1 s1 e s' I v,rfl,J,hP,hW,n,fun x w h=>⟨w,h,.inl rfl⟩,fun x h=>h,(fun c h=>by rw[a5]at h;cases h),fun x h=>absurd rfl (o _ (yaC h))⟩
     exact(a.ok g).2.1
   ·cases h'
  ·cases h'
def zo2{P:Program}{wo:PySem.World}{K:PySem.W.Frag}{mg:Z6}{base:Heap}{cl:Cf}{G:Genv}{k:Nat}{x qual:Str}{st:Stmt}{f cd:Addr}{N ps:List Str}{own:Bool}{fs:Fs}{oc kV doc pm ct:Value}{U an:Option Addr}{J:Array (Option Value)}
  (lk:K.lookup f=some ⟨oc,U,.func (PySem.W.fnOf x qual (za8 st) (zaQ st) (zah st) .none kV doc pm an (.ref cd) ct),J⟩) (hcd:PySem.W.codeIn K (.ref cd) qual=true) (S:FnScope N ps (zah st)) (hG:GOk cl (G.withLam cd (qual ++ ".<locals>.")) P wo K mg base k)
  (hk:K=cl.K) (hP:P=cl.P) (hW:wo=cl.wo) (hd:zfJ (G.withLam cd (qual ++ ".<locals>.")) own N st=some fs):FnOk P wo K mg base (CXE P wo) (k+1) f (PySem.W.fnOf x qual (za8 st) (zaQ st) (zah st) .none kV doc pm an (.ref cd) ct) ps (zgA cl ps.length own (zbh N.length own fs)):=by
 refine ztN lk hcd S (fun vs H Q E h=>h.1) fun A outer s H vs Q E d a=>⟨tS cl (fun _=>E) own fs,zo9 hd (k:=k) ⟨⟨hG,d,rfl,fun pins σ H1 s1 e s' I q=>zsM pins σ H1 s1 e s' I q,rfl,hk,hP,hW,S.nd,fun x b h=>⟨b,h,.inl rfl⟩,(fun x h=>h),(fun c h=>by cases h;exact⟨rfl,rfl⟩),(fun x h=>rfl)⟩,S.kind,rfl,PassesOwn.leaving,fun C pins σ H1 s1 e h' vs I mk q=>zlg C pins σ H1 s1 e h' vs I mk q⟩,zir a⟩
structure XA(K:PySem.W.Frag)(x:Str)(e:Addr):Prop where
 n:PySem.W.nsIn K mainGlobals x=some (some (.ref e))
 x:PySem.W.excIn K e bmV "ValueError.__new__"=true
def scB(n:Nat)(N:List Str)(sc:Scope):Bool:=(match sc.kind with|.function=>true|_=>false)&&!sc.isCoroutine&&!sc.isGenerator&&decide N.Nodup&&decide ((N.take n).length=n)&&decide (∀x∈N.take n,sc.names.lookup x=some .local\/sc.names.lookup x=some .cell)&&decide (∀y∈sc.names,y.2≠.free)
def zeH{n:Nat}{N:List Str}{sc:Scope}(h:scB n N sc=true):FnScope N (N.take n) sc/\(N.take n).length=n:=by
 unfold scB at h;simp only[yaa,yaA,yaH]at h;obtain⟨⟨⟨⟨⟨⟨h1,h2⟩,e⟩,d⟩,a⟩,c⟩,b⟩:=h;exact⟨⟨by split at h1;(· assumption);(· cases h1),h2,e,d,by rw[a],c,b⟩,a⟩
section
variable{cl:Cf}{T:Tab}{mg:Z6}{base h:Heap}{k:Nat}{F:Fn3}{f:Fs}{x:Str}{st:Stmt}
def ag(g:GOk cl (Gn T F) cl.P cl.wo cl.K mg base k)(X:cl.K.In h)(G:h.Ns mainGlobals mg)(p:GFn cl.K x st)(n:Nat)(N:List Str)(own:Bool)(r:Rn)(f:Fs)(b:BB x x st (N.take n))(s:scB n N (zah st)=true)(e:r=zbh N.length own f)(d:zfJ (Gn T F) own N st=some f):GOk cl (Gn T (F.fn x ⟨n,own,r⟩)) cl.P cl.wo cl.K mg base (k+1):=by
 obtain⟨S,l⟩:=zeH s;obtain⟨c,a,p⟩:=p.ex;obtain⟨fd,U,B,kp,_⟩:=p.un b;have z:=zq7 U S g rfl rfl rfl d;rw[l,<-e]at z;exact GOk.add g (yaL X G a) kp B z
def am{c q:Str}(g:GOk cl (Gn T F) cl.P cl.wo cl.K mg base k)(I:Cls cl.K (cl c))(p:MFn cl.K (cl c) x q st)(n:Nat)(N:List Str)(own:Bool)(r:Rn)(f:Fs)(b:BB x q st (N.take n))(s:scB n N (zah st)=true)(e:r=zbh N.length own f)(d:zfJ (Gn T (F.at c)) own N st=some f):GOk cl (Gn T (F.mt x c ⟨n,own,r⟩)) cl.P cl.wo cl.K mg base (k+1):=by
 obtain⟨S,l⟩:=zeH s;obtain⟨h,a,p⟩:=p.ex;obtain⟨fd,U,B,kp,i⟩:=p.un b;have z:=zq7 U S (g.at c) rfl rfl rfl d;rw[l,<-e]at z;exact GOk.addM (g.up (ybH _)) I ⟨a,i,kp⟩ B z
def ak{c q:Str}(g:GOk cl (Gn T F) cl.P cl.wo cl.K mg base k)(X:cl.K.In h)(G:h.Ns mainGlobals mg)(J:PySem.W.nsIn cl.K mainGlobals c=some (some (.ref (cl c))))(mk:PySem.W.makesIn cl.K (cl c)=true)(I:PySem.W.keepIn cl.K (.ref (cl c))=true)(p:MFn cl.K (cl c) "__init__" q st)(n:Nat)(N:List Str)(r:Rn)(f:Fs)(b:BB "__init__" q st (N.take n))(s:scB n N (zah st)=true)(e:r=zbh N.length false f)(d:zfJ (Gn T (F.at c)) false N st=some f):GOk cl (Gn T (F.cls c [] ⟨n,false,r⟩)) cl.P cl.wo cl.K mg base (k+2):=by
 obtain⟨S,l⟩:=zeH s;obtain⟨j,a,p⟩:=p.ex;obtain⟨fd,U,B,kp,i⟩:=p.un b;have z:=zq7 U S (g.at c) rfl rfl rfl d;rw[l,<-e]at z;exact GOk.addK (k':=k+1) (dvs:=[]) (g.up (Nat.le_add_right k 2)) (yai _) (yaL X G J) ⟨mk,a,i,I⟩ B B .nil (fun _=>.nil) z
end
end S2
namespace M94
open PySem L2 S2 S2.L94
noncomputable def top(i:Nat):Stmt:=PySem.Challenge.pw_floorfits_k94_whole_album_texts_spoilt.main.body.getD i (.Pass ⟨0,0,0,0⟩)
noncomputable def T:Tab:=⟨[("MOST_COLOUR",.int 8),("MOST_TILES",.int 16),("MOST_SIDE",.int 6),("FIGURES",.str "012345678"),("BARE",.str "-"),("UNREAD",.str "?"),("MOST_LETTERS",.int 6)],["isinstance","int","bool","tuple","str","len","range","all","zip","sorted","set","dict","ValueError"],["FloorError","NoPlace","NoTile","NoFill","Unlike","Nothing","NoText","NoName"],[("NoText","FloorError"),("Unlike","FloorError"),("NoName","FloorError")],["NoText","Unlike","NoName"],[("Album","tiles"),("Album","named"),("Album","done"),("Album","undone")],["named"],["known","named"]⟩
noncomputable def F0:Fn3:=⟨"Album",[],[],[]⟩
theorem sT:FnScope ["_law_deed_here","e"] ["_law_deed_here"] (zah (top 57)):=(zeH (n:=1) (by kernel_rfl)).1
theorem sC:FnScope ["_law_kept","_law_kinds"] ["_law_kept"] (zah (top 56)):=(zeH (n:=1) (by kernel_rfl)).1
theorem gC:∀x∈((("isinstance":Str)::("ValueError":Str)::zdC)),(zah (top 56)).names.lookup x=some .globalImplicit:=by decide +kernel
theorem xC:∀x∈zdC,(Gn T F0).exc x=true:=by decide +kernel
def tF{K:PySem.W.Frag}{f:Addr}{oc kV I pm cd ct:Value}{J an:Option Addr}{sl:Array (Option Value)}(l:K.lookup f=some ⟨oc,J,.func (PySem.W.fnOf "_law_told" "_law_told" (za8 (top 57)) (zaQ (top 57)) (zah (top 57)) .none kV I pm an cd ct),sl⟩)(c:PySem.W.codeIn K cd "_law_told"=true)(k:PySem.W.keepIn K (.ref f)=true):ToldFn K (top 57) f (PySem.W.fnOf "_law_told" "_law_told" (za8 (top 57)) (zaQ (top 57)) (zah (top 57)) .none kV I pm an cd ct):=
 ⟨zjo (st:=top 57) l c k,sT,by rfl,by rfl,by rfl,by rfl,⟨_,_,_,_,_,_,_,_,_,_,rfl⟩,fun us a=>match us,a with|[_],_=>rfl⟩
def cF{F:Fn3}{cl:Cf}{K:PySem.W.Frag}{f:Addr}{oc kV I pm cd ct:Value}{J an:Option Addr}{sl:Array (Option Value)}(l:K.lookup f=some ⟨oc,J,.func (PySem.W.fnOf "_law_class" "_law_class" (za8 (top 56)) (zaQ (top 56)) (zah (top 56)) .none kV I pm an cd ct),sl⟩)(c:PySem.W.codeIn K cd "_law_class"=true)(k:PySem.W.keepIn K (.ref f)=true):ClsFn cl (Gn T F) K (top 56) f (PySem.W.fnOf "_law_class" "_law_class" (za8 (top 56)) (zaQ (top 56)) (zah (top 56)) .none kV I pm an cd ct):=
 ⟨zjo (st:=top 56) l c k,sC,by rfl,by rfl,gC,by rfl,by rfl,xC,fun k Y E c=>c.ok (by rfl) (by rfl),fun us a=>match us,a with|[_],_=>rfl⟩
def zpi{L M:List (Str×Addr)}:∀{C:Str},C∈L.map (·.1)->(L++M).lookup C=L.lookup C:=by
 induction L with
 |nil=>intro C h;simp at h|cons p L a=>
  intro C h;rw[List.cons_append,yaD,yaD]
  cases e:C==p.1 with
  |true=>rfl|false=>
   have:C∈L.map (·.1):=by
    rw[yar,yaq]at h
    rcases h with h|h
    ·rw[h]at e;simp at e
    ·exact h
   exact a this
def zrr{L M:List (Str×Addr)}(nd:(L.map (·.2)).Nodup){C c:Str}(J:C∈L.map (·.1))(I:c∈L.map (·.1)):((L++M).lookup C).getD 0=((L++M).lookup c).getD 0↔C=c:=by
 rw[zpi J,zpi I];exact zun nd J I
def gm{K:PySem.W.Frag}{x:Str}{st:Stmt}{f:Addr}{oc kV J pm cd ct:Value}{I an:Option Addr}{sl:Array (Option Value)}(a:PySem.W.nsIn K mainGlobals x=some (some (.ref f)))(l:K.lookup f=some ⟨oc,I,.func (PySem.W.fnOf x x (za8 st) (zaQ st) (zah st) .none kV J pm an cd ct),sl⟩)(c:PySem.W.codeIn K cd x=true)(k:PySem.W.keepIn K (.ref f)=true)(i:PySem.W.isFn K (.ref f)=true):GFn K x st:=⟨f,a,oc,I,kV,J,pm,an,cd,ct,sl,l,c,k,i⟩
def mm{K:PySem.W.Frag}{x q:Str}{st:Stmt}{f:Addr}{oc kV J pm cd ct:Value}{I an:Option Addr}{sl:Array (Option Value)}{C:Addr}(a:PySem.W.findIn K (.ref C) x=some (some (.ref f)))(l:K.lookup f=some ⟨oc,I,.func (PySem.W.fnOf x q (za8 st) (zaQ st) (zah st) .none kV J pm an cd ct),sl⟩)(c:PySem.W.codeIn K cd q=true)(k:PySem.W.keepIn K (.ref f)=true)(i:PySem.W.isFn K (.ref f)=true):MFn K C x q st:=⟨f,a,oc,I,kV,J,pm,an,cd,ct,sl,l,c,k,i⟩
def all_mk{l:PySem.W.OpenLaw}{w:PySem.World}{K:PySem.W.Frag}{h:Heap}{mg:Z6}{fa a9 a8 ao Pt0 ai Pt1:Addr}(X:K.In h)(G:h.Ns mainGlobals mg)(bh:mg "law"=some (.ref fa))
  {ah aB:Option Addr}{ab:Array (Option Value)}{aq au az ae aA:Value}
  {af a7:Option Addr}{aa:Array (Option Value)}{aj a4 a5 a3 a6:Value}
  {I:Addr}
  (nyAlbum:PySem.W.nsIn K mainGlobals "Album"=some (some (.ref I))) (pgAlbum:PySem.W.plainGet K I Str.empty=true) (hdAlbum:PySem.W.hasDictIn K I=true) (poAlbum:PySem.W.plainOver K I=true) (saAlbum:PySem.W.findIn K (.ref I) "__setattr__"=some (some (.builtin "object.__setattr__"))) (mkAlbum:PySem.W.makesIn K I=true) (kpAlbum:PySem.W.keepIn K (.ref I)=true)
  (naAlbumtiles:PySem.W.findIn K (.ref I) "tiles"=some none)
  (naAlbumnamed:PySem.W.findIn K (.ref I) "named"=some none)
  (naAlbumdone:PySem.W.findIn K (.ref I) "done"=some none)
  (naAlbumundone:PySem.W.findIn K (.ref I) "undone"=some none)
  (a44:PySem.W.nsIn K mainGlobals "_law_did"=some (some (.ref a9)))
  (l44:K.lookup a9=some ⟨aq,ah,.func (PySem.W.fnOf "_law_did" "_law_did" (za8 (top 60)) (zaQ (top 60)) (zah (top 60)) .none au az ae aB (.ref ao) aA),ab⟩) (c44:PySem.W.codeIn K (.ref ao) "_law_did"=true) (k44:PySem.W.keepIn K (.ref a9)=true)
  (a46:PySem.W.nsIn K mainGlobals "law"=some (some (.ref a8)))
  (l46:K.lookup a8=some ⟨aj,af,.func (PySem.W.fnOf "law" "law" (za8 (top 63)) (zaQ (top 63)) (zah (top 63)) .none a4 a5 a3 a7 (.ref ai) a6),aa⟩) (c46:PySem.W.codeIn K (.ref ai) "law"=true) (k46:PySem.W.keepIn K (.ref a8)=true)
  (zz:∀x∈T.blt,PySem.W.nsIn K mainGlobals x=some none)
  {bq:Tok} (gl1:PySem.W.nsIn K mainGlobals "MOST_COLOUR"=some (some (.int 8 bq)))
  {bp:Tok} (gl2:PySem.W.nsIn K mainGlobals "MOST_TILES"=some (some (.int 16 bp)))
  {bo:Tok} (gl3:PySem.W.nsIn K mainGlobals "MOST_SIDE"=some (some (.int 6 bo)))
  {gt4:Tok} (gl4:PySem.W.nsIn K mainGlobals "FIGURES"=some (some (.str "012345678" gt4)))
  {bj:Tok} (gl5:PySem.W.nsIn K mainGlobals "BARE"=some (some (.str "-" bj)))
  {gt6:Tok} (gl6:PySem.W.nsIn K mainGlobals "UNREAD"=some (some (.str "?" gt6)))
  {gt7:Tok} (gl7:PySem.W.nsIn K mainGlobals "MOST_LETTERS"=some (some (.int 6 gt7)))
  {e0 e1 e2 e3 e4 e5 U J:Addr}
  (n0:XA K "FloorError" e0)
  (n1:XA K "NoPlace" e1)
  (n2:XA K "NoTile" e2)
  (n3:XA K "NoFill" e3)
  (n4:XA K "Unlike" e4)
  (n5:XA K "Nothing" e5)
  (n6:XA K "NoText" U)
  (n7:XA K "NoName" J)
  {bQ:Value}{bT:Option Addr}{ay:ClassData}{bN:Array (Option Value)} (lk4:K.lookup e4=some ⟨bQ,bT,.cls ay,bN⟩) (mr4:ay.mro=.ref e4::.ref e0::bmV)
  (ga4:PySem.W.findIn K (.ref e4) "__getattribute__"=some (some (.builtin "BaseException.__getattribute__"))) (gt4:PySem.W.findIn K (.ref e4) "__getattr__"=some none) (cc4:PySem.W.findIn K (.ref e4) "__class__"=some (some (.builtin "object.__class__")))
  {bP:Value}{bS:Option Addr}{ax:ClassData}{bM:Array (Option Value)} (lk6:K.lookup U=some ⟨bP,bS,.cls ax,bM⟩) (mr6:ax.mro=.ref U::.ref e0::bmV)
  (ga6:PySem.W.findIn K (.ref U) "__getattribute__"=some (some (.builtin "BaseException.__getattribute__"))) (gt6:PySem.W.findIn K (.ref U) "__getattr__"=some none) (cc6:PySem.W.findIn K (.ref U) "__class__"=some (some (.builtin "object.__class__")))
  {bO:Value}{bR:Option Addr}{aw:ClassData}{bL:Array (Option Value)} (lk7:K.lookup J=some ⟨bO,bR,.cls aw,bL⟩) (mr7:aw.mro=.ref J::.ref e0::bmV)
  (ga7:PySem.W.findIn K (.ref J) "__getattribute__"=some (some (.builtin "BaseException.__getattribute__"))) (gt7:PySem.W.findIn K (.ref J) "__getattr__"=some none) (cc7:PySem.W.findIn K (.ref J) "__class__"=some (some (.builtin "object.__class__")))
  (nd:[e0,e1,e2,e3,e4,e5,U,J].Nodup)
  (hPP:Pt1≠Pt0)
  (p1:GFn K "is_whole" (top 14)) (p2:GFn K "is_tuple_of" (top 15)) (p3:GFn K "is_colour" (top 16)) (p4:GFn K "is_tile" (top 17)) (p5:GFn K "is_set" (top 18)) (p6:GFn K "has_number" (top 19)) (p7:GFn K "may_lie" (top 20)) (p8:GFn K "is_row" (top 21)) (p9:GFn K "is_floor" (top 22)) (bg:GFn K "size_of" (top 23)) (bf:GFn K "tile_text" (top 28)) (bc:GFn K "set_text" (top 29)) (bb:GFn K "number_text" (top 30)) (ba:GFn K "row_text" (top 31)) (b9:GFn K "floor_text" (top 32)) (b8:GFn K "colour_by" (top 33)) (b7:GFn K "read_tile" (top 34)) (b6:GFn K "read_set" (top 35)) (b5:GFn K "numbers_by_text" (top 36)) (b4:GFn K "read_row" (top 37)) (b3:GFn K "read_floor" (top 38)) (b0:GFn K "beside" (top 40)) (aZ:GFn K "below" (top 41)) (aY:GFn K "is_name" (top 44)) (aX:GFn K "refuse_no_name" (top 45)) (aW:MFn K I "__init__" "Album.__init__" (inC 0 (top 46))) (aV:MFn K I "name_floor" "Album.name_floor" (inC 1 (top 46))) (aU:MFn K I "do" "Album.do" (inC 2 (top 46))) (aS:MFn K I "put" "Album.put" (inC 3 (top 46))) (aR:MFn K I "floor_of" "Album.floor_of" (inC 4 (top 46))) (aQ:MFn K I "take" "Album.take" (inC 5 (top 46))) (aP:MFn K I "join" "Album.join" (inC 6 (top 46))) (aO:MFn K I "names" "Album.names" (inC 7 (top 46))) (aN:MFn K I "set_of" "Album.set_of" (inC 8 (top 46))) (aM:GFn K "entry_text" (top 47)) (aL:GFn K "album_text" (top 48)) (aK:GFn K "read_entries" (top 49)) (aJ:GFn K "read_album" (top 50)) (aI:GFn K "_law_cell" (top 52)) (aH:GFn K "_law_pick" (top 53)) (aG:GFn K "_law_tiles" (top 54)) (aF:GFn K "_law_floor" (top 55)) (aE:GFn K "_law_deed" (top 58)) (aD:GFn K "_law_spoilt" (top 62)) (pT:GFn K "_law_told" (top 57)) (pC:GFn K "_law_class" (top 56))
  : ∃fd:FuncData,(∀(s:Shared) (v:Value),BindsTo s fd ⟨[v],[]⟩ [("_law_script",v)])/\∀base:Heap,K.In base->base.Ns mainGlobals mg->zoq mg base->(∀q∈[(ao,Pt0),(ai,Pt1)],PySem.W.CodeHd base q.1 q.2)->FnOk l.prog w K mg base (CXE l.prog w) 51 fa fd ["_law_script"] (S2.ziU K [(ao,Pt0),(ai,Pt1)]):=by
 have e:=bh.symm.trans (yaL X G a46);cases e;have b:Cls K I:=⟨pgAlbum,hdAlbum,poAlbum,saAlbum⟩;refine⟨PySem.W.fnOf "law" "law" (za8 (top 63)) (zaQ (top 63)) (zah (top 63)) .none a4 a5 a3 a7 (.ref ai) a6,fun s v=>.of_eq rfl,fun base _ _ hB g=>?_⟩
 let cl:Cf:=⟨fun x=>(([("FloorError",e0),("NoPlace",e1),("NoTile",e2),("NoFill",e3),("Unlike",e4),("Nothing",e5),("NoText",U),("NoName",J),("Album",I)]:List (Str×Addr)).lookup x).getD 0,K,l.prog,w,fun a=>if a=Pt0 then some ((("_law_did":Str) ++ ".<locals>.") ++ "<lambda>")else if a=Pt1 then some ((("law":Str) ++ ".<locals>.") ++ "<lambda>")else none⟩
 obtain⟨fT,aT,_,_,_,_,_,_,_,_,_,lT,cT,m,_⟩:=pT;obtain⟨fC,aC,_,_,_,_,_,_,_,_,_,lC,cC,o,_⟩:=pC;have HX:∀c∈T.exc,PySem.W.excIn K (cl c) bmV "ValueError.__new__"=true:=(zar n0.x (zar n1.x (zar n2.x (zar n3.x (zar n4.x (zar n5.x (zar n6.x (zar n7.x zfa))))))));have f:∀C∈T.exc,∀c∈T.exc,(cl C=cl c↔C=c):=fun C d c hc=>zrr (L:=[("FloorError",e0),("NoPlace",e1),("NoTile",e2),("NoFill",e3),("Unlike",e4),("Nothing",e5),("NoText",U),("NoName",J)]) (M:=[("Album",I)]) nd d hc
 have g0:GOk cl (Gn T F0) cl.P cl.wo cl.K mg base 0:=GOk.at (zzB (cl:=cl) (zar ⟨.int 8,_,yaL X G gl1,⟨_,rfl⟩,fun _=>.int _⟩ (zar ⟨.int 16,_,yaL X G gl2,⟨_,rfl⟩,fun _=>.int _⟩ (zar ⟨.int 6,_,yaL X G gl3,⟨_,rfl⟩,fun _=>.int _⟩ (zar ⟨.str "012345678",_,yaL X G gl4,⟨_,rfl⟩,fun _=>.str _⟩ (zar ⟨.str "-",_,yaL X G gl5,⟨_,rfl⟩,fun _=>.str _⟩ (zar ⟨.str "?",_,yaL X G gl6,⟨_,rfl⟩,fun _=>.str _⟩ (zar ⟨.int 6,_,yaL X G gl7,⟨_,rfl⟩,fun _=>.int _⟩ zfa))))))) (fun x h=>PySem.W.mg_none_of X G (zz x h)) (zar ⟨yaL X G n0.n,n0.x⟩ (zar ⟨yaL X G n1.n,n1.x⟩ (zar ⟨yaL X G n2.n,n2.x⟩ (zar ⟨yaL X G n3.n,n3.x⟩ (zar ⟨yaL X G n4.n,n4.x⟩ (zar ⟨yaL X G n5.n,n5.x⟩ (zar ⟨yaL X G n6.n,n6.x⟩ (zar ⟨yaL X G n7.n,n7.x⟩ zfa)))))))) (zar ⟨⟨_,_,n6.x⟩,_,_,_,_,lk6,zh7 mr6⟩ (zar ⟨⟨_,_,n4.x⟩,_,_,_,_,lk4,zh7 mr4⟩ (zar ⟨⟨_,_,n7.x⟩,_,_,_,_,lk7,zh7 mr7⟩ zfa))) (zar (zlW (K:=K) (c:="NoText") (cl:=cl) lk6 mr6 rfl ga6 gt6 cc6 HX (fun C d=>⟨f C d "NoText" (by decide),f C d "FloorError" (by decide)⟩)) (zar (zlW (K:=K) (c:="Unlike") (cl:=cl) lk4 mr4 rfl ga4 gt4 cc4 HX (fun C d=>⟨f C d "Unlike" (by decide),f C d "FloorError" (by decide)⟩)) (zar (zlW (K:=K) (c:="NoName") (cl:=cl) lk7 mr7 rfl ga7 gt7 cc7 HX (fun C d=>⟨f C d "NoName" (by decide),f C d "FloorError" (by decide)⟩)) zfa))) (zar ⟨b,naAlbumtiles⟩ (zar ⟨b,naAlbumnamed⟩ (zar ⟨b,naAlbumdone⟩ (zar ⟨b,naAlbumundone⟩ zfa))))) "Album";have g1:=ag g0 X G p1 1 ["thing"] false zbb zcA (fun _ _ _ _ _ _=>bb1 fun _=>rfl) (by kernel_rfl) rfl (by kernel_rfl);have g2:=ag g1 X G p2 3 ["thing","least","most"] false zaK zbZ (fun _ _ _ _ _ _=>bb3 fun _ _ _=>rfl) (by kernel_rfl) rfl (by kernel_rfl);have g3:=ag g2 X G p3 1 ["thing"] false zbp zb8 (fun _ _ _ _ _ _=>bb1 fun _=>rfl) (by kernel_rfl) rfl (by kernel_rfl);have g4:=ag g3 X G p4 1 ["thing"] false zcy zdU (fun _ _ _ _ _ _=>bb1 fun _=>rfl) (by kernel_rfl) rfl (by kernel_rfl);have g5:=ag g4 X G p5 1 ["thing"] false zbm zdV (fun _ _ _ _ _ _=>bb1 fun _=>rfl) (by kernel_rfl) rfl (by kernel_rfl);have g6:=ag g5 X G p6 2 ["tiles","thing"] false zcc zcm (fun _ _ _ _ _ _=>bb2 fun _ _=>rfl) (by kernel_rfl) rfl (by kernel_rfl);have g7:=ag g6 X G p7 2 ["tiles","thing"] false zb7 zc2 (fun _ _ _ _ _ _=>bb2 fun _ _=>rfl) (by kernel_rfl) rfl (by kernel_rfl);have g8:=ag g7 X G p8 2 ["tiles","thing"] false zdf zeA (fun _ _ _ _ _ _=>bb2 fun _ _=>rfl) (by kernel_rfl) rfl (by kernel_rfl);have g9:=ag g8 X G p9 2 ["tiles","thing"] false zaJ zcB (fun _ _ _ _ _ _=>bb2 fun _ _=>rfl) (by kernel_rfl) rfl (by kernel_rfl);have bK:=ag g9 X G bg 1 ["floor","columns"] false zb6 zfb (fun _ _ _ _ _ _=>bb1 fun _=>rfl) (by kernel_rfl) rfl (by kernel_rfl);have bJ:=ag bK X G bf 1 ["tile"] false zbC zdy (fun _ _ _ _ _ _=>bb1 fun _=>rfl) (by kernel_rfl) rfl (by kernel_rfl);have bI:=ag bJ X G bc 1 ["tiles"] false zde zea (fun _ _ _ _ _ _=>bb1 fun _=>rfl) (by kernel_rfl) rfl (by kernel_rfl);have bH:=ag bI X G bb 1 ["number"] false zaV zbY (fun _ _ _ _ _ _=>bb1 fun _=>rfl) (by kernel_rfl) rfl (by kernel_rfl);have bG:=ag bH X G ba 1 ["row"] false zb1 zeb (fun _ _ _ _ _ _=>bb1 fun _=>rfl) (by kernel_rfl) rfl (by kernel_rfl);have bF:=ag bG X G b9 1 ["floor"] false zcd zc4 (fun _ _ _ _ _ _=>bb1 fun _=>rfl) (by kernel_rfl) rfl (by kernel_rfl);have bE:=ag bF X G b8 1 ["sign"] false zbq zcL (fun _ _ _ _ _ _=>bb1 fun _=>rfl) (by kernel_rfl) rfl (by kernel_rfl);have bD:=ag bE X G b7 1 ["line"] false zbD zdz (fun _ _ _ _ _ _=>bb1 fun _=>rfl) (by kernel_rfl) rfl (by kernel_rfl);have bC:=ag bD X G b6 1 ["text","tiles"] false zb2 zcz (fun _ _ _ _ _ _=>bb1 fun _=>rfl) (by kernel_rfl) rfl (by kernel_rfl);have bB:=ag bC X G b5 1 ["tiles","known","number"] true zba zbF (fun _ _ _ _ _ _=>bb1 fun _=>rfl) (by kernel_rfl) rfl (by kernel_rfl);have bA:=ag bB X G b4 2 ["known","line"] false zb3 zec (fun _ _ _ _ _ _=>bb2 fun _ _=>rfl) (by kernel_rfl) rfl (by kernel_rfl);have bz:=ag bA X G b3 2 ["tiles","text","known","floor"] false za7 zcl (fun _ _ _ _ _ _=>bb2 fun _ _=>rfl) (by kernel_rfl) rfl (by kernel_rfl);have bx:=ag bz X G b0 2 ["one","other"] false zbW zeB (fun _ _ _ _ _ _=>bb2 fun _ _=>rfl) (by kernel_rfl) rfl (by kernel_rfl);have bw:=ag bx X G aZ 2 ["one","other"] false zcH zgq (fun _ _ _ _ _ _=>bb2 fun _ _=>rfl) (by kernel_rfl) rfl (by kernel_rfl);have bu:=ag bw X G aY 1 ["thing"] false zby zc3 (fun _ _ _ _ _ _=>bb1 fun _=>rfl) (by kernel_rfl) rfl (by kernel_rfl);have bt:=ag bu X G aX 1 ["thing"] false zaX zbQ (fun _ _ _ _ _ _=>bb1 fun _=>rfl) (by kernel_rfl) rfl (by kernel_rfl);have br:=ak (c:="Album") bt X G nyAlbum mkAlbum kpAlbum aW 2 ["self","tiles"] zaC zbR (fun _ _ _ _ _ _=>bb2 fun _ _=>rfl) (by kernel_rfl) rfl (by kernel_rfl);have Z:=am (c:="Album") br b aV 3 ["self","name","floor"] false zaL za3 (fun _ _ _ _ _ _=>bb3 fun _ _ _=>rfl) (by kernel_rfl) rfl (by kernel_rfl);have Y:=am (c:="Album") Z b aU 4 ["self","word","name","floor"] false zb4 zed (fun _ _ _ _ _ _=>bb4 fun _ _ _ _=>rfl) (by kernel_rfl) rfl (by kernel_rfl);have V:=am (c:="Album") Y b aS 3 ["self","name","floor","had"] false zaP zdB (fun _ _ _ _ _ _=>bb3 fun _ _ _=>rfl) (by kernel_rfl) rfl (by kernel_rfl);have S:=am (c:="Album") V b aR 2 ["self","name"] false zas zbn (fun _ _ _ _ _ _=>bb2 fun _ _=>rfl) (by kernel_rfl) rfl (by kernel_rfl);have R:=am (c:="Album") S b aQ 2 ["self","name","floor"] false zay zcn (fun _ _ _ _ _ _=>bb2 fun _ _=>rfl) (by kernel_rfl) rfl (by kernel_rfl);have Q:=am (c:="Album") R b aP 5 ["self","name","one","other","is_east","first","second","whole"] false zak zaE (fun _ _ _ _ _ _=>bb5 fun _ _ _ _ _=>rfl) (by kernel_rfl) rfl (by kernel_rfl);have O:=am (c:="Album") Q b aO 1 ["self"] true zbX zcM (fun _ _ _ _ _ _=>bb1 fun _=>rfl) (by kernel_rfl) rfl (by kernel_rfl);have H:=am (c:="Album") O b aN 1 ["self"] false zbH zcs (fun _ _ _ _ _ _=>bb1 fun _=>rfl) (by kernel_rfl) rfl (by kernel_rfl);have F:=ag H X G aM 2 ["album","name"] false zbw zc5 (fun _ _ _ _ _ _=>bb2 fun _ _=>rfl) (by kernel_rfl) rfl (by kernel_rfl);have E:=ag F X G aL 1 ["album"] false zaA zc6 (fun _ _ _ _ _ _=>bb1 fun _=>rfl) (by kernel_rfl) rfl (by kernel_rfl);have D:=ag E X G aK 2 ["tiles","entries","named","last","entry","halves","name"] true zaz zbJ (fun _ _ _ _ _ _=>bb2 fun _ _=>rfl) (by kernel_rfl) rfl (by kernel_rfl);have B:=ag D X G aJ 1 ["text","parts","album"] false zae zaM (fun _ _ _ _ _ _=>bb1 fun _=>rfl) (by kernel_rfl) rfl (by kernel_rfl);have A:=ag B X G aI 2 ["_law_script","_law_k"] false zbr zca (fun _ _ _ _ _ _=>bb2 fun _ _=>rfl) (by kernel_rfl) rfl (by kernel_rfl);have z:=ag A X G aH 3 ["_law_script","_law_k","_law_many","_law_drawn"] false zan zdA (fun _ _ _ _ _ _=>bb3 fun _ _ _=>rfl) (by kernel_rfl) rfl (by kernel_rfl);have y:=ag z X G aG 3 ["_law_script","_law_at","_law_most","_law_colours","_law_made","_law_k","_law_tile"] false zce zc7 (fun _ _ _ _ _ _=>bb3 fun _ _ _=>rfl) (by kernel_rfl) rfl (by kernel_rfl);have u:=ag y X G aF 6 ["_law_script","_law_at","_law_tiles_here","_law_rows","_law_columns","_law_many","_law_made","_law_row","_law_line","_law_column","_law_here"] false zcf zc8 (fun _ _ _ _ _ _=>bb6 fun _ _ _ _ _ _=>rfl) (by kernel_rfl) rfl (by kernel_rfl);have k:=ag u X G aE 3 ["_law_script","_law_at","_law_tiles_here","_law_names","_law_name","_law_way","_law_rows","_law_columns","_law_one","_law_other"] false zbE zb9 (fun _ _ _ _ _ _=>bb3 fun _ _ _=>rfl) (by kernel_rfl) rfl (by kernel_rfl);have j:=k.lamUp (cd:=ao) (Pt:=Pt0) (q:=(("_law_did":Str) ++ ".<locals>.")) rfl (tF lT cT m) (cF (cl:=cl) lC cC o) rfl rfl rfl (yaL X G aT) m (yaL X G aC) o rfl hB (g (ao,Pt0) (.head _)) (if_pos rfl);have bV:=zo2 (cl:=cl) (wo:=w) (P:=l.prog) (N:=["_law_album","_law_deed_here"]) (own:=false) (fs:=zfH) l44 c44 (zeH (n:=2) (by kernel_rfl)).1 j rfl rfl rfl (by kernel_rfl);have t:=GOk.add (fi:=⟨2,false,zdg⟩) (k.up (k':=46) (by decide)) (yaL X G a44) k44 ((zjo (st:=(top 60)) l44 c44 k44).binds (ps:=["_law_album","_law_deed_here"]) (fun _ _ _ _ _ _=>bb2 fun _ _=>rfl)) bV;have r:=ag t X G aD 3 ["_law_text","_law_cell_here","_law_signs","_law_at","_law_sign","_law_on","_law_way"] false zaD zaN (fun _ _ _ _ _ _=>bb3 fun _ _ _=>rfl) (by kernel_rfl) rfl (by kernel_rfl);have i:=r.lamUp (cd:=ai) (Pt:=Pt1) (q:=(("law":Str) ++ ".<locals>.")) rfl (tF lT cT m) (cF (cl:=cl) lC cC o) rfl rfl rfl (yaL X G aT) m (yaL X G aC) o rfl hB (g (ai,Pt1) (.tail _ (.head _))) ((if_neg hPP).trans (if_pos rfl));have bU:=zo2 (cl:=cl) (wo:=w) (P:=l.prog) (N:=["_law_script","_law_tiles_here","_law_album","_law_k","_law_text","_law_rows","_law_some","_law_cell_here","_law_at","_law_two","_law_told_here","_law_good","_law_one","_law_bad"]) (own:=false) (fs:=zrb) l46 c46 (zeH (n:=1) (by kernel_rfl)).1 i rfl rfl rfl (by kernel_rfl);exact bU.imp (zqK (cl:=cl) (tabs:=[(ao,Pt0),(ai,Pt1)]) (fun P q h=>by have p:(if P=Pt0 then some ((("_law_did":Str) ++ ".<locals>.") ++ "<lambda>")else if P=Pt1 then some ((("law":Str) ++ ".<locals>.") ++ "<lambda>")else none)=some q:=h;split at p;(· rename_i e;rw[e];exact .head _);(· split at p;(· rename_i e;rw[e];exact .tail _ (.head _));(· cases p))) znJ)
def walk{l:PySem.W.OpenLaw}{q:Program}{loose:List Str}{XP:(Str->Option Value)->Heap->Prop}{YP:PySem.World->Heap->Prop}{d:DefRec}{K:Params->PySem.W.Frag}{ao Pt0 ai Pt1:Addr}(hn:l.most=some 63)(U:d.params.defaults=[])
  (hY:∀(w:PySem.World) (h:Heap),YP w h->(K w.params).In h) (J:∀w:PySem.World,PySem.W.noTabs (K w.params)=true)
  (hT:∀(w:PySem.World) (mg mb:Z6) (I:ExcName->Option Value) (h:Heap),(K w.params).In h->PyProof.Rows.Top q (PySem.W.looseW q loose) I mg mb h->PySem.W.TabsAt [(ao,Pt0),(ai,Pt1)] h)
  (F:∀(w:PySem.World) (mg:Z6) (fa:Addr) (h:Heap),(K w.params).In h->h.Ns mainGlobals mg->mg d.name=some (.ref fa) →
   ∃fd:FuncData,(∀(s:Shared) (u:Value),BindsTo s fd ⟨[u],[]⟩ [("_law_script",u)])/\∀base:Heap,(K w.params).In base->base.Ns mainGlobals mg->zoq mg base->(∀q∈[(ao,Pt0),(ai,Pt1)],PySem.W.CodeHd base q.1 q.2)->FnOk l.prog w (K w.params) mg base (CXE l.prog w) 51 fa fd ["_law_script"] (S2.ziU (K w.params) [(ao,Pt0),(ai,Pt1)])):
  PySem.W.WalkO q loose XP YP l.row.toRowW d [] (fun f vs=>PySem.call f vs):=
 L2.zmI (n:=63) (k:=51) (x:="_law_script") (tabs:=[(ao,Pt0),(ai,Pt1)]) (CX:=fun w=>CXE l.prog w) (sp:=fun w=>S2.ziU (K w.params) [(ao,Pt0),(ai,Pt1)]) hn (by decide) U ⟨rfl,by decide,by decide⟩ hY J hT F (fun _ _ a ns e i c b g=>⟨a,ns,rfl,e,i,c,b,g,fun _=>rfl⟩) (by rintro _ _ _ _ _ ⟨_,_,_,_,_,_,_,_,_,_,_,_,_,_,z⟩;exact z)
end M94
namespace PySem.W.Fast
noncomputable def tw16465090782545617145:=0
noncomputable def tw13336745460110889610:=0
noncomputable def tw2984102878475710364:=0
noncomputable def tw6066680388672932565:=0
noncomputable def tw11638634368074165199:=0
noncomputable def tw11502296251903804719:=0
noncomputable def tw7582889535928142296:=0
noncomputable def tw15423539689490412743:=0
noncomputable def tw15782551349804535398:=0
noncomputable def tw9060911123009285883:=0
noncomputable def tw6467400710837267778:=0
noncomputable def tw16978354930030253647:=0
noncomputable def tw7411446564231399301:=0
noncomputable def tw5218470956737785194:=0
noncomputable def tw11299950511199100696:=0
noncomputable def tw10411399093759641635:=0
noncomputable def tw15723313623486000998:=0
noncomputable def tw4169230857510693952:=0
noncomputable def tw14521155997255684728:=0
noncomputable def tw7806623541712924927:=0
noncomputable def tw10221958556002415555:=0
noncomputable def tw13446903882515673016:=0
noncomputable def tw7794771849261552622:=0
noncomputable def tw11130028666319866079:=0
noncomputable def tw3580312916168971156:=0
noncomputable def tw10479371029857778586:=0
noncomputable def tw7271997199782438081:=0
noncomputable def tw8428756306169977185:=0
noncomputable def tw8459711989496750015:=0
noncomputable def tw9679161443623985201:=0
noncomputable def tw4072544373722387115:=0
noncomputable def tw5474037924989074440:=0
noncomputable def tw11995668891980635896:=0
noncomputable def tw11379202854422666647:=0
noncomputable def tw3978014953870031241:=0
noncomputable def tw11032475027063931281:=0
noncomputable def tw2783508822977410810:=0
noncomputable def tw15918622393547701243:=0
noncomputable def tw11002551664710264648:=0
noncomputable def tw2653770679588425738:=0
noncomputable def tw2590052474851658950:=0
noncomputable def tw6633762457386599197:=0
noncomputable def tw13391262426188528802:=0
noncomputable def tw12133325989001204080:=0
noncomputable def tw9719445557146447126:=0
noncomputable def tw2634676969106646017:=0
noncomputable def tw2899682702332957351:=0
noncomputable def tw13726098219917739477:=0
noncomputable def tw17209620391353915514:=0
noncomputable def tw12928377484606203843:=0
noncomputable def tw2636919044998032793:=0
noncomputable def tw17435542201206355280:=0
noncomputable def tw8967469498416266856:=0
noncomputable def tw17918661318120215898:=0
noncomputable def tw16897353800314639534:=0
noncomputable def tw11106546700225565622:=0
noncomputable def tw16004471280994776762:=0
noncomputable def tw14860478504734694490:=0
noncomputable def tw10907711221213577598:=0
noncomputable def tw588311096319184435:=0
noncomputable def tw6523941406701077266:=0
noncomputable def tw2328333854446342724:=0
noncomputable def tw3412673243606225718:=0
noncomputable def tw6186645467470739602:=0
noncomputable def tw8541859350117403548:=0
noncomputable def tw7945165038770687299:=0
noncomputable def tw17444298486788604113:=0
noncomputable def tw16270363342847768115:=0
noncomputable def tw2597480665165570981:=0
noncomputable def tw10123416036382145213:=0
noncomputable def tw4667359838635121666:=0
noncomputable def tw15154482008384047567:=0
noncomputable def tw1747120689552876234:=0
noncomputable def tw7942941752930942365:=0
noncomputable def tw4832049807843946373:=0
noncomputable def tw17552679700920290701:=0
noncomputable def tw9581763122295170296:=0
noncomputable def tw17634867983280697331:=0
noncomputable def tw7698445696191048861:=0
noncomputable def tw6300351539957744123:=0
noncomputable def tw13924586578970479515:=0
noncomputable def tw10753456894691804956:=0
noncomputable def tw8621077656435191360:=0
noncomputable def tw18130232547508359541:=0
noncomputable def tw9667229057319160807:=0
noncomputable def tw8426285747933368104:=0
noncomputable def tw14546241092803537805:=0
noncomputable def tw4222787578808409886:=0
noncomputable def tw4579924502880983745:=0
noncomputable def tw14379807063384314965:=0
noncomputable def tw17985589738157587441:=0
noncomputable def tw10825236129655491523:=0
noncomputable def tw7263612546078702367:=0
noncomputable def tw4985849966758530081:=0
noncomputable def tw18200955469755924469:=0
noncomputable def tw9053347874862102990:=0
noncomputable def tw7977722434645397103:=0
noncomputable def tw15322028860130254359:=0
noncomputable def tw3713146401806321232:=0
noncomputable def tw108839942573708974:=0
noncomputable def tw14979129207072515647:=0
noncomputable def tw15763449965943418409:=0
noncomputable def tw17497158609640481508:=0
noncomputable def tw16513250547181660242:=0
noncomputable def tw14348648502610191833:=0
noncomputable def tw16261692852081915647:=0
noncomputable def tw2021014986407502400:=0
noncomputable def tw4619644045086075502:=0
noncomputable def tw16782353986358360115:=0
noncomputable def tw15322305511589689551:=0
noncomputable def tw10983032584671536724:=0
noncomputable def tw4554846167699467209:=0
noncomputable def tw100917775571415998:=0
noncomputable def tw8682104082365911068:=0
noncomputable def tw13989885242661137726:=0
noncomputable def tw16530493199262673656:=0
noncomputable def tw10966211384027449648:=0
noncomputable def tw17627514297789897749:=0
noncomputable def tw7523706499243032461:=0
noncomputable def tw11867277216043027258:=0
noncomputable def tw4699999034409470465:=0
noncomputable def tw1709722769428125864:=0
noncomputable def tw9375560949466950195:=0
noncomputable def tw16961389244360393517:=0
noncomputable def tw5220880616065552752:=0
noncomputable def tw17289190231224053136:=0
noncomputable def tw16500746162873071539:=0
noncomputable def tw8890988259663597988:=0
noncomputable def tw17679695703056327025:=0
noncomputable def tw3554580874016611517:=0
noncomputable def tw5809020034423228376:=0
noncomputable def tw865353468753361361:=0
noncomputable def tw17561255859953390768:=0
noncomputable def tw6410712150389500991:=0
noncomputable def tw3467155910059458072:=0
noncomputable def tw11361109407121896074:=0
noncomputable def tw22738687502924050:=0
noncomputable def tw4788053844991722278:=0
noncomputable def tw15364014733771049806:=0
noncomputable def tw9818341170369847977:=0
noncomputable def tw320281356159105182:=0
noncomputable def tw4535968284375939943:=0
noncomputable def tw12289598171385189373:=0
noncomputable def tw209307000288402489:=0
noncomputable def tw9222038640208554232:=0
noncomputable def tw12005728262560554351:=0
noncomputable def tw5868185307406999138:=0
noncomputable def tw16050740486443690054:=0
noncomputable def tw6995992608521480643:=0
noncomputable def tw16903761365789789546:=0
noncomputable def tw4735966148054083609:=0
noncomputable def tw9337188074530589930:=0
noncomputable def tw1261551179250165933:=0
noncomputable def tw18388627533991702793:=0
noncomputable def tw16001368158873214148:=0
noncomputable def tw5120155082205905317:=0
noncomputable def tw13874241586196886487:=0
noncomputable def tw15373114006462809446:=0
noncomputable def tw6075884797978585932:=0
noncomputable def tw12433164724538669427:=0
noncomputable def tw11921677183757378927:=0
noncomputable def tw11239677903684915977:=0
noncomputable def tw1340591282526101823:=0
noncomputable def tw7487065399714490424:=0
noncomputable def tw4769940393028702772:=0
noncomputable def tw4493269135374002127:=0
noncomputable def tw18204803515182965476:=0
noncomputable def tw17413292073239088155:=0
noncomputable def tw3712339799222637763:=0
noncomputable def tw2939570932916651921:=0
noncomputable def tw15421808577568683595:=0
noncomputable def tw899571381130559578:=0
noncomputable def tw8376975941550589586:=0
noncomputable def tw14776416830964315007:=0
noncomputable def tw14062679279578994630:=0
noncomputable def tw1449576867529800463:=0
noncomputable def tw10511171537523788968:=0
noncomputable def tw8980108247126775511:=0
noncomputable def tw8897345646330082354:=0
noncomputable def tw7608609331925383593:=0
noncomputable def tw17974575006536673927:=0
noncomputable def tw15631646510813261150:=0
noncomputable def tw12930316840753379633:=0
noncomputable def tw17465186525426215260:=0
noncomputable def tw13901108574136713755:=0
noncomputable def tw5345266669469776964:=0
noncomputable def tw14814784698619160790:=0
noncomputable def tw2415900477920805724:=0
noncomputable def tw17105013763590307570:=0
noncomputable def tw4996511299490737985:=0
noncomputable def tw16378415123754335199:=0
noncomputable def tw17897640680448475556:=0
noncomputable def tw14233835240559089637:=0
noncomputable def tw8669681299696629193:=0
noncomputable def tw3834178996567774512:=0
noncomputable def tw6263578293500924712:=0
noncomputable def tw2483419911512066436:=0
noncomputable def tw11554202296791665096:=0
noncomputable def tw11232216745488390654:=0
noncomputable def tw17775540206228136257:=0
noncomputable def tw11295826992106573534:=0
noncomputable def tw12433132839664675247:=0
noncomputable def tw9942169532307485054:=0
noncomputable def tw5415953170151036055:=0
noncomputable def tw9612201360387585662:=0
noncomputable def tw15019727052453918797:=0
noncomputable def tw8416496676158821542:=0
noncomputable def tw16085768369145799633:=0
noncomputable def tw15091598450858039895:=0
noncomputable def tw5791083080293305261:=0
noncomputable def tw4987189458064971604:=0
noncomputable def tw8281945538862779702:=0
noncomputable def tw17232625053602996121:=0
noncomputable def tw14575375387025932565:=0
noncomputable def tw122008481903251639:=0
noncomputable def tw7593907338749290292:=0
noncomputable def tw5314918117755086995:=0
noncomputable def tw3712285717235569974:=0
noncomputable def tw1291651451471615022:=0
noncomputable def tw821174973025321740:=0
noncomputable def tw7860072941527248089:=0
noncomputable def tw3620294047100752554:=0
noncomputable def tw8001193528625335922:=0
noncomputable def tw18434106126461322823:=0
noncomputable def tw8995192186082525395:=0
noncomputable def tw3989665832870826672:=0
noncomputable def tw10406005149552869176:=0
noncomputable def tw3447574437466522241:=0
noncomputable def tw15801886656210845036:=0
noncomputable def tw13573467017346755527:=0
noncomputable def tw11434840186830669719:=0
noncomputable def tw392055459072091139:=0
noncomputable def tw2115881318661581621:=0
noncomputable def tw18239512270036342785:=0
noncomputable def tw4332853780376550571:=0
noncomputable def tw11200301113825742037:=0
noncomputable def tw12446362387563742569:=0
noncomputable def tw1074361904655757513:=0
noncomputable def tw4995804831853499263:=0
noncomputable def tw8473008609726454247:=0
noncomputable def tw7186541699580853235:=0
noncomputable def tw11367266948610202040:=0
noncomputable def tw4922476216896798943:=0
noncomputable def tw18069751472618004508:=0
noncomputable def tw12645054026902670751:=0
noncomputable def tw9978801851909228774:=0
noncomputable def tw1320235988189863661:=0
noncomputable def tw1160433891437776933:=0
noncomputable def tw8488536094065347872:=0
noncomputable def tw7011030642914490783:=0
noncomputable def tw3261569314506077797:=0
noncomputable def tw10560165246038408796:=0
noncomputable def tw3025698400470744445:=0
noncomputable def tw9335641877045340716:=0
noncomputable def tw2855142271092291869:=0
noncomputable def tw2827060747974738721:=0
noncomputable def tw15549252347216353908:=0
noncomputable def tw7391933833968185600:=0
noncomputable def tw9328398475013196993:=0
noncomputable def tw6549598599635912174:=0
noncomputable def tw14411705830352538850:=0
noncomputable def tw11645222887742174131:=0
noncomputable def tw11622376465266809044:=0
noncomputable def tw8164421134690319501:=0
noncomputable def tw5601665123800007824:=0
noncomputable def tw13313794629866206847:=0
noncomputable def tw4887157646195646003:=0
noncomputable def tw10448354665492595487:=0
noncomputable def tw16570491891119290388:=0
noncomputable def tw14447027010954504021:=0
noncomputable def tw14076124482467395101:=0
noncomputable def tw7882056561192541698:=0
noncomputable def tw8560020411365077779:=0
noncomputable def tw3761415884880209620:=0
noncomputable def tw4224895193560699341:=0
noncomputable def tw8966233222474106172:=0
noncomputable def tw6856021158206089391:=0
noncomputable def tw8153673958809531625:=0
noncomputable def tw7618999615378122591:=0
noncomputable def tw5916582787465317228:=0
noncomputable def tw18402550342100104944:=0
noncomputable def tw11172059995096088013:=0
noncomputable def tw12704421658302641192:=0
noncomputable def tw8559662361822953416:=0
noncomputable def tw9951574530626209113:=0
noncomputable def tw4199766773307728176:=0
noncomputable def tw7983554457548419863:=0
noncomputable def tw4769834545387607367:=0
noncomputable def tw16853482965061244909:=0
noncomputable def tw7233767574225576557:=0
noncomputable def tw9592154983176337844:=0
noncomputable def tw13614230702528229435:=0
noncomputable def tw15886983739623010909:=0
noncomputable def tw17505487283755293918:=0
noncomputable def tw11516148922685365490:=0
noncomputable def tw1013842865335799920:=0
noncomputable def tw1451332546666925622:=0
noncomputable def tw2064992250565773287:=0
noncomputable def tw18440654849422668004:=0
noncomputable def tw14785526138497331240:=0
noncomputable def tw13400735071443499654:=0
noncomputable def tw483959802559937754:=0
noncomputable def tw4205969909789567298:=0
noncomputable def tw14962284956382368182:=0
noncomputable def tw15435866898701994091:=0
noncomputable def tw68019145822318891:=0
noncomputable def tw16470994113521042020:=0
noncomputable def tw9344281828571702689:=0
noncomputable def tw16185938561873842894:=0
noncomputable def tw11008312702990531450:=0
noncomputable def tw10227413309264717431:=0
noncomputable def tw12676823044120200786:=0
noncomputable def tw3685390536540130570:=0
noncomputable def tw3819331318296155365:=0
noncomputable def tw16531237406720366643:=0
noncomputable def tw13214813231737070925:=0
noncomputable def tw11484235280650873467:=0
noncomputable def tw8309239141063555599:=0
noncomputable def tw5280066966945481706:=0
noncomputable def tw877973722198108263:=0
noncomputable def tw8577154699254003865:=0
noncomputable def tw7143969439262379572:=0
noncomputable def tw17931540388251406998:=0
noncomputable def tw17436549875730090969:=0
noncomputable def tw15994989199994628806:=0
noncomputable def tw15859367393172481634:=0
noncomputable def tw14861425316859947192:=0
noncomputable def tw11816496363923690864:=0
noncomputable def tw13993514791646389212:=0
noncomputable def tw10700487499016428738:=0
noncomputable def tw9812658789988715202:=0
noncomputable def tw6893539262987825993:=0
noncomputable def tw7766173747481968012:=0
noncomputable def tw2699967239963564618:=0
noncomputable def tw170272113911378463:=0
noncomputable def tw12854959872717158892:=0
noncomputable def tw9864678715542554762:=0
noncomputable def tw13401377715644702976:=0
noncomputable def tw10935656400555660204:=0
noncomputable def tw4942984980979265057:=0
noncomputable def tw12982471891447985497:=0
noncomputable def tw12843773240562293748:=0
noncomputable def tw9476083597075349656:=0
noncomputable def tw793604390061605911:=0
noncomputable def tw3413932145103410814:=0
noncomputable def tw18002894412050324071:=0
noncomputable def tw16802089286344437463:=0
noncomputable def tw15050567929369495447:=0
noncomputable def tw1310066649218797643:=0
noncomputable def tw12922160705964426081:=0
end PySem.W.Fast
open PySem PySem.W PyProof.Rows
set_option maxRecDepth 100000 in
set_option maxHeartbeats 0 in
theorem PySem.Challenge.cw_floorfits_k94_whole_album_texts_spoilt_holds : PySem.Challenge.rw_floorfits_k94_whole_album_texts_spoilt.Holds := by
 w_on;o_law;k_head;(case hw=>w_witness2)
 k_fill
 refine M94.walk (l:=PySem.Challenge.rw_floorfits_k94_whole_album_texts_spoilt) (ao:=454) (Pt0:=450) (ai:=471) (Pt1:=469) rfl rfl (fun w h Y=>PySem.W.km_in_of Y) (fun w=>by kernel_rfl) (fun w mg f d h X T=>List.forall_mem_cons.mpr ⟨PySem.W.tab_of (x:=PySem.Str.ofString "_law_did") (c:=454) (P:=450) T X rfl (by kernel_rfl),List.forall_mem_cons.mpr ⟨PySem.W.tab_of (x:=PySem.Str.ofString "law") (c:=471) (P:=469) T X rfl (by kernel_rfl),fun _ h=>nomatch h⟩⟩) ?F
 case F=>
  intro w mg fa h e G b;refine' M94.all_mk e G b ?nyAlbum ?pgAlbum ?hdAlbum ?poAlbum ?saAlbum ?mkAlbum ?kpAlbum ?naAlbumtiles ?naAlbumnamed ?naAlbumdone ?naAlbumundone ?a44 ?l44 ?c44 ?k44 ?a46 ?l46 ?c46 ?k46 ?zz ?gl1 ?gl2 ?gl3 ?gl4 ?gl5 ?gl6 ?gl7 ?n0 ?n1 ?n2 ?n3 ?n4 ?n5 ?n6 ?n7 ?lk4 ?mr4 ?ga4 ?gt4 ?cc4 ?lk6 ?mr6 ?ga6 ?gt6 ?cc6 ?lk7 ?mr7 ?ga7 ?gt7 ?cc7 ?nd ?hPP ?_ ?_ ?_ ?_ ?_ ?_ ?_ ?_ ?_ ?_ ?_ ?_ ?_ ?_ ?_ ?_ ?_ ?_ ?_ ?_ ?_ ?_ ?_ ?_ ?_ ?_ ?_ ?_ ?_ ?_ ?_ ?_ ?_ ?_ ?_ ?_ ?_ ?_ ?_ ?_ ?_ ?_ ?_ ?_ ?_ ?_
  case nyAlbum|pgAlbum|hdAlbum|poAlbum|saAlbum|mkAlbum|kpAlbum|naAlbumtiles|naAlbumnamed|naAlbumdone|naAlbumundone|a44|l44|c44|k44|a46|l46|c46|k46=>
   k_is
  case zz=>
   repeat refine S2.zar (by k_is) ?_
   exact S2.zfa
  case gl1|gl2|gl3|gl4|gl5|gl6|gl7=>
   k_is
  case n0|n1|n2|n3|n4|n5|n6|n7=>
   constructor;(k_is);(k_exc)
  case lk4=>
   k_is
  case mr4=>
   with_unfolding_all rfl
  case ga4|gt4|cc4|lk6=>
   k_is
  case mr6=>
   with_unfolding_all rfl
  case ga6|gt6|cc6|lk7=>
   k_is
  case mr7=>
   with_unfolding_all rfl
  case ga7|gt7|cc7=>
   k_is
  case nd|hPP=>
   decide
  all_goals ((first|refine' M94.gm ?a ?l ?c ?k ?i|refine' M94.mm ?a ?l ?c ?k ?i);(case a=>k_is);(case l=>k_is);(case c=>k_is);(case k=>k_is);(case i=>k_is))
#print axioms PySem.Challenge.cw_floorfits_k94_whole_album_texts_spoilt_holds
end
