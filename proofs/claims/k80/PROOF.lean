import PyProof.Rows.All
import Wide.All
import OpenK.AllK
import Wide.FinOn
import Lean
import PyProof.EqAt
import PyProof.EqKinds
import PyProof.TupleCall
import PySem.SetTable
import PyProof.TupleKey
import Wide.Seal
import PyProof.DictRoadsH
import PyProof.Rows.TupTab
import PyProof.Rows.TupDisplay
import PyProof.Draws
import PyProof.EnumMake
import OpenK.KRaise
import OpenK.KOwn
import PyProof.Rows.TopTwo
import PyProof.RulesAs
import PyProof.RulesDel
import PyProof.ExcArgsOwn
import PyProof.ExcAttrAll.ValueError
import PyProof.Rows.CountFlat
import PyProof.SumWalk
import PyProof.Rows.SeqCalls
import PyProof.ZipIter
import KE.KRevIter
import PyProof.CollectIter
import PyProof.TupleOfGen
import PyProof.ListRange
import PyProof.WalkInts
import KE.KSortTup
import KE.KDictList
import PySem.Challenge.RW_floorfits_k80_whole_painter
local macro_rules | `(~~~$d) => `(some (false, $d))
set_option compiler.extract_closed false
set_option bootstrap.genMatcherCode false
set_option genSizeOf false
set_option genInjectivity false
theorem yAQ(h:True:=by rfl):True:=h
namespace yAQ
end yAQ
open yAQ renaming _auto_1→yAW
theorem yAE(h:True:=by decide):True:=h
namespace yAE
end yAE
open yAE renaming _auto_1→yAR
theorem yAT(h:True:=by intro _;rfl):True:=h
namespace yAT
end yAT
open yAT renaming _auto_1→yAU
theorem yAI(h:True:=by with_unfolding_all rfl):True:=h
namespace yAI
end yAI
open yAI renaming _auto_1→yAO
def yah:=@of_decide_eq_true
def yax:=@decide_eq_true
def yaE:=@decide_eq_false
def ya5:=@beq_eq_false_iff_ne
def ybh:=@decide_eq_true_eq
def ybt:=@beq_self_eq_true
def yby:=@if_false
def ybD:=@decide_eq_false_iff_not
def yb1:=@beq_iff_eq
def ycJ:=@decide_eq_true_iff
def ycM:=@if_true
def ycQ:=@or_false
open PySem renaming wpAny_bind→yaa,wpAny_pure→yaf,mem_of_lookup→yaL,wpAny_newObj_type→yaU,wpAny_callSpecial?_slot→yaW,wpAny_call_entry→ya0,wpAny_truthy_bool→ybm,wpAny_mono→ybr,wpAny_typeNameOfWhole_keyiter→ybA,wpAny_holding→ybC,wpAny_loadPart_at→ybF,wpAny_field→ybG,sizeLine_eq→ybN,wpAny_passesOwn→ybO,wpAny_typeNameOf_keyiter→ybU,wpAny_seqItems→yb2,wpAny_pyIter_tuple→yb4,wpAny_Call_Name_kw→yb5,wpAny_binaryOp_repeat_ref→ycj,wpAny_isInstance→ycn,call_meets→ycs,wpAny_execs_nil→ycy,wpAny_setField_rec→ycE,wpAny_pyIter_enum→ycO,wpAny_attempt→yc4,typeIs_int→yc5,codeAny_mono→ydh,wpAny_tupleItemsOf→ydi,wpAny_setField→ydn,wpAny_rule→ydo,wpAny_pyIter_list→ydp,wpAny_dictEntries→ydt,wpAny_standAt→ydu
open List renaming getElem?_eq_getElem→yab,length_map→yad,size_toArray→yag,getElem?_eq_some_iff→yaj,length_append→yak,length_cons→yan,getElem?_map→yao,mem_map→yar,mem_cons_of_mem→yas,mem_cons→yat,map_cons→yau,getD_eq_getElem?_getD→yav,getElem?_set_self→yaw,mem_cons_self→yay,lookup_cons→yaz,mem_singleton→yaB,length_set→yaD,mem_append_right→yaF,getElem?_append_right→yaG,length_singleton→yaH,getElem?_set_ne→yaJ,length_replicate→yaM,getElem?_eq_none→yaP,append_nil→yaS,eq_nil_of_length_eq_zero→yaV,mem_range→yaX,getElem?_append_left→yaZ,getElem_mem→ya1,not_mem_nil→ya2,mem_append→ya8,map_map→ybb,replicate_succ→ybf,length_filter_le→ybg,flatMap_cons→ybi,mem_of_getElem?→ybj,ext_getElem?→ybn,mem_filter→ybo,mem_append_left→ybq,all_eq_true→ybs,length_range→ybu,nodup_cons→ybw,getElem?_drop→ybz,mem_flatMap→ybB,flatten_cons→ybE,length_nil→ybI,getElem_map→ybL,all_cons→ybM,append_assoc→ybP,nil_append→ybQ,map_append→ybS,getElem?_replicate→ybW,length_take→ybZ,pairwise_cons→yb6,range_succ→ycb,eq_nil_or_concat→ycd,concat_eq_append→yce,dropLast_concat→yci,drop_eq_getElem_cons→yck,length_drop→ycm,set_set→ycw,mem_filterMap→ycz,forIn_cons→ycB,contains_cons→ycD,getElem?_cons_zero→ycF,getElem?_cons_succ→ycG,dropLast_eq_take→ycX,set_append_right→ycY,cons_append→ycZ,length_dropLast→yc1,filterMap_cons→yc6,map_congr_left→ydb,length_pos_iff→yde,map_nil→ydg,getElem_range→ydl,getElem?_take→ydm,take_add_one→yds,sum_cons→ydw
open Bool renaming and_eq_true→yac,false_eq_true→yaK,not_eq_true'→yaQ,false_ne_true→yaR,eq_iff_iff→ybH,not_true→yc3,or_eq_true→yc8
open PySem.Heap renaming get?_push_of_some→yae,lt_size→yap,get?_push_size→yaq,size_push→yba,get?_update_self→yca
open Nat renaming le_refl→yai,le_trans→yal,lt_of_lt_of_le→yam,ne_of_lt→yaA,ne_of_gt→yaO,zero_le→yaY,lt_irrefl→ya6,mul_le_mul_right→ybk,mul_le_mul→ybv,sub_self→ybx,le_of_succ_le→ybR,le_of_lt_succ→ybT,lt_add_of_pos_right→ybV,add_sub_cancel'→ybX,lt_succ_self→ybY,le_add_right→yb0,le_of_eq→yb7,succ_mul→yb8,min_eq_left→ycc,zero_lt_of_lt→ycf,le_of_lt→ycq,lt_of_le_of_ne→ycH,le_succ→ycN,lt_trans→ycS,pow_le_pow_right→yc2,le_antisymm→yda,lt_succ_of_lt→ydr,add_mul→ydx,not_lt→ydy
open Option renaming some_ne_none→yaC
open Int renaming toNat_natCast→yaI,eq_ofNat_of_zero_le→ybp,toNat_of_nonneg→ycp,natCast_nonneg→ycx,emod_lt_of_pos→ycI,le_refl→ycP,lt_trans→ycU,emod_nonneg→ydc,natCast_mul→ydd
open PySem.W renaming mg_none_of→yaN,mg_of→ybc,kia_one→ybe,plainGet_of→yc7,callWith_K→ydk
open Array renaming getD_eq_getD_getElem?→yaT,length_toList→ybd,getElem?_eq_getElem→ybl,getElem?_eq_some_iff→ybK,getElem?_eq_none→yb3,getElem_toList→ych,getElem?_toList→ycR,forIn_toList→ydj
open PyProof.Rows renaming callWith_type1→ya3,slot_tuple_getitem→ya4,subscriptTail_builtinR→ycL,assignInOrder_cons→ydf,listUpdate_at→ydv
open PySem.F renaming plainAttrs_list→ya7,slot_dict_keyiterator_next→ya9,slot_tuple_iterator_next→ybJ,slot_int_rmul→yb9,excBase_ValueError→ycg,args_dict_keyiterator_next_1→ycl,entry_dict_keyiterator_next→yco,args_tuple_add_2→ycr,slot_list_append→yct,type_list_append→ycu,entry_tuple_add→ycA,slot_tuple_add→ycK,typeOf_object_class→ycT,slot_list_pop→ycV,type_list_pop→ycW,slot_tuple_mul→yc0,slot_zip_next→yc9,args_int_rmul_2→ydq
open PySem.AutoSeq1 renaming wpAny_loadPart'→ycv
open PySem.Obj renaming data_mapFields→ycC
noncomputable section
set_option Elab.async false
set_option linter.all false
set_option maxRecDepth 100000
set_option maxHeartbeats 4000000
abbrev Z1:=Nat->Nat->Option Int
abbrev Z2:=List (List Int)
abbrev Z3:=List (PySem.Addr×PySem.Obj)
abbrev Z4:=List (Option Int)
abbrev Z5:=PySem.Value->PySem.Shared->Prop
abbrev Z6:=PySem.Str->Option PySem.Value
def S2.bdI{c k:Nat}(h:c<=k)(I:k<=1000000):-1000000<=(c:Int)/\(c:Int)<=1000000:=⟨Int.le_trans (by decide) (ycx c),Int.ofNat_le.mpr (yal h I)⟩
def S2.bdN{c k:Nat}(h:c<=k)(I:k<=1000000):0<=(c:Int)/\(c:Int)<=1000000:=⟨ycx c,Int.ofNat_le.mpr (yal h I)⟩
local macro_rules | `(tactic|omega)=> `(tactic|first|assumption|exact yal (by assumption) (by decide)|exact yam (by assumption) (by assumption)|exact yam (by assumption) (by decide)|exact ycq (by assumption)|exact S2.bdI (by assumption) (by decide)|exact yal (by assumption) (by assumption)|exact yaA (ybV (by decide))|exact yaO (ybV (by decide))|exact fun h=> absurd (Nat.add_left_cancel h) (by decide)|omega +splitDisjunctions)
namespace L2
open PySem PySem.Spec PyProof.Rows
noncomputable abbrev Key:=Sum Int Str
noncomputable def zkC:Key->Value->Bool
 |.inl k,v=>Value.isInt k v|.inr x,v=>Value.isStrOf x v
noncomputable def zzv(w:World):Key->Int
 |.inl k=>hashInt k|.inr x=>hashStr w x
theorem za5:∀{k:Key}{v:Value},zkC k v=true->(∃i t,k=Sum.inl i/\v=Value.int i t)\/(∃x t,k=Sum.inr x/\v=Value.str x t)
 |.inl i,v,h=>by
  obtain⟨t,e⟩:=Value.isInt_shape (k:=i) (v:=v) h;exact .inl ⟨i,t,rfl,e⟩
 |.inr x,v,h=>by
  obtain⟨t,e⟩:=Value.isStrOf_shape (x:=x) (v:=v) h;exact .inr ⟨x,t,rfl,e⟩
def zmt(i:Int)(t:Tok):zkC (.inl i) (.int i t)=true:=by simp[zkC,Value.isInt]
def zms(x:Str)(t:Tok):zkC (.inr x) (.str x t)=true:=by simp[zkC,Value.isStrOf]
def zug(a b:Int):decide ((Sum.inl a:Key)=Sum.inl b)=(a==b):=by
 by_cases e:a=b
 ·subst e;simp
 ·have h:¬ (Sum.inl a:Key)=Sum.inl b:=fun q=>e (Sum.inl.inj q)
  rw[yaE h];exact(ya5.mpr e).symm
def zud(a b:Str):decide ((Sum.inr a:Key)=Sum.inr b)=decide (a=b):=by
 by_cases e:a=b
 ·subst e;simp
 ·have h:¬ (Sum.inr a:Key)=Sum.inr b:=fun q=>e (Sum.inr.inj q)
  rw[yaE h,yaE e]
def zuf(a:Int)(b:Str):decide ((Sum.inl a:Key)=Sum.inr b)=false:=yaE (fun q=>nomatch q)
def zue(a:Str)(b:Int):decide ((Sum.inr a:Key)=Sum.inl b)=false:=yaE (fun q=>nomatch q)
def zdA(prog:Program)(w:World):PySem.KeyKind prog w Key where
 is:=zkC
 hash:=zzv w
 inj:=fun v a b l f=>by
  rcases za5 l with⟨i,t,rfl,rfl⟩|⟨x,t,rfl,rfl⟩
  ·rcases za5 f with⟨j,u,rfl,e⟩|⟨y,u,rfl,e⟩
   ·injection e with c _;rw[c]
   ·exact nomatch e
  ·rcases za5 f with⟨j,u,rfl,e⟩|⟨y,u,rfl,e⟩
   ·exact nomatch e
   ·injection e with c _;rw[c]
 byValue:=fun k v h=>by
  rcases za5 h with⟨i,t,rfl,rfl⟩|⟨x,t,rfl,rfl⟩<;>rfl
 pyHash:=fun d h=>by
  rcases za5 d with⟨i,t,rfl,rfl⟩|⟨x,t,rfl,rfl⟩
  ·exact wpAny_pyHash_int h
  ·exact wpAny_pyHash_str h
 eqBool:=fun g d h=>by
  rcases za5 g with⟨i,t,rfl,rfl⟩|⟨x,t,rfl,rfl⟩
  ·rcases za5 d with⟨j,u,rfl,rfl⟩|⟨y,u,rfl,rfl⟩
   ·rw[zug]at h;exact wpAny_eqBool_int h
   ·rw[zuf]at h;exact SeqAt.EqAt.int_str i t y u _ _ _ _ h
  ·rcases za5 d with⟨j,u,rfl,rfl⟩|⟨y,u,rfl,rfl⟩
   ·rw[zue]at h;exact SeqAt.EqAt.str_int x t j u _ _ _ _ h
   ·rw[zud]at h;exact wpAny_eqBool_str h
 «strs»:=fun k x t v h=>by
  rcases za5 h with⟨i,u,rfl,e⟩|⟨y,u,rfl,e⟩
  ·exact nomatch e
  ·injection e with c _
   subst c
   cases v<;>rfl
def ziY(prog:Program)(w:World)(i:Int)(t:Tok):(zdA prog w).is (.inl i) (.int i t)=true:=zmt i t
def ziX(prog:Program)(w:World)(x:Str)(t:Tok):(zdA prog w).is (.inr x) (.str x t)=true:=zms x t
set_option genInjectivity true in
inductive V where
 |non|bl (b:Bool)|int (i:Int)|str (x:Str)|byt (b:Array UInt8)|flt (b:UInt64)|ref (a:Addr)|ty (n:String)
 deriving DecidableEq
noncomputable def zbD:V->Value->Prop
 |.non,u=>u=Value.none|.bl b,u=>u=Value.bool b|.int i,u=>∃t,u=Value.int i t|.str x,u=>∃t,u=Value.str x t|.byt b,u=>∃t,u=Value.bytes b t|.flt b,u=>∃t,u=Value.float b t|.ref a,u=>u=Value.ref a|.ty n,u=>u=Value.type n
noncomputable abbrev Vals:List V->List Value->Prop:=Paired zbD
theorem Vals.length(r:Vals xs us):xs.length=us.length:=Paired.length r
theorem Vals.get:∀{xs:List V}{us:List Value}{i:Nat}{x:V},Vals xs us->xs[i]?=some x->∃u,us[i]?=some u/\zbD x u
 |_,_,_,_,.nil,e=>by simp at e
 |_,_,0,_,.cons r _,e=>by simp at e;subst e;exact⟨_,rfl,r⟩
 |_,_,i+1,x,.cons _ t,e=>by
  obtain⟨u,h1,h2⟩:=Vals.get (i:=i) (x:=x) t (by simpa using e);exact⟨u,by simpa using h1,h2⟩
theorem Vals.append:∀{xs ys:List V}{us I:List Value},Vals xs us->Vals ys I->Vals (xs++ys) (us++I)
 |_,_,_,_,.nil,s=>s|_,_,_,_,.cons r t,s=>.cons r (Vals.append t s)
theorem Vals.take:∀{xs:List V}{us:List Value} (n:Nat),Vals xs us->Vals (xs.take n) (us.take n)
 |_,_,0,_=>.nil|_,_,_+1,.nil=>.nil|_,_,n+1,.cons r t=>.cons r (Vals.take n t)
theorem Vals.drop:∀{xs:List V}{us:List Value} (n:Nat),Vals xs us->Vals (xs.drop n) (us.drop n)
 |_,_,0,r=>r|_,_,_+1,.nil=>.nil|_,_,n+1,.cons _ t=>Vals.drop n t
noncomputable def znh:Option V->Option Value->Prop
 |some v,some u=>zbD v u|none,none=>True|_,_=>False
noncomputable def KV{κ:Type}:List (κ×V)->List (κ×Value)->Prop:=Paired fun(p:κ×V) (q:κ×Value)=>p.1=q.1/\zbD p.2 q.2
noncomputable def kV:Key->V
 |.inl i=>.int i|.inr x=>.str x
set_option genInjectivity true in
inductive HO where
 |lst (xs:List V)
 |tup (xs:List V)
 |dK (kvs:List (Key×V))|dT (kvs:List (List Key×V))
 |set (S:Int->Bool) (n:Nat)
 |ins (C dx:Addr) (fs:List (Str×V))
 |own (x:Addr)
 |xd (fs:List (Str×V))
 |met (f x:Addr)
 |rng (lo hi:Int)
 |frz (o:Obj) (u:HO)
 |tbl (ps:Array Value)
 |ext (φ:Heap->Prop)
noncomputable abbrev Hp:=Addr->Option HO
noncomputable def upd(H:Hp)(a:Addr)(o:HO):Hp:=fun b=>if b=a then some o else H b
def zaC:upd H a o a=some o:=by unfold upd;rw[if_pos rfl]
def zam(h:b≠a):upd H a o b=H b:=by unfold upd;rw[if_neg h]
def zar{H:Hp}{a b:Addr}{o:HO}(h:H a=some o)(h':H b=none):a≠b:=by
 intro e;subst e;rw[h]at h';cases h'
section
variable(P:Program)(w:World)
def zb8(H:Hp)(h:Heap)(a:Addr):HO->Prop
 |.lst xs=>xs.length<=sizeLine/\∃(c:List Value) (n:Nat),Vals xs c/\h.get? a=some {cls:=.type "list",data:=.seq c.toArray n}|.tup xs=>xs.length<=sizeLine/\∃c:List Value,Vals xs c/\IsTup h a c.toArray|.dK b=>b.length<=sizeLine/\(a==sysModules)=false/\∃vs,KV b vs/\h.DictOf (zdA P w) a vs|.dT b=>b.length<=sizeLine/\(a==sysModules)=false/\∃xs:List (List Key×Addr×Value),
   Paired (fun(p:List Key×V) (q:List Key×Addr×Value)=>p.1=q.1/\H q.2.1=some (.tup (p.1.map kV))/\zbD p.2 q.2.2) b xs ∧
   ∃o es ep,h.get? a=some o/\o.ExactDict/\o.data=.dict es ep/\es.toList=xs.map (entryOfKey (tupleKind (zdA P w)))/\(xs.map (·.1)).Nodup
 |.set S n=>h.SetOf (intKind P w) a S n|.ins C dx fs=>H dx=some (.own a)/\fs.length<=1000/\dx≠a/\h.get? a=some (PySem.W.instObj C dx) ∧
   ∃mA,h.Ns1 dx mA/\(∀f,znh (fs.lookup f) (mA f))/\PySem.Within mA (fs.map (·.1))
 |.own _=>∃o,h.get? a=some o|.xd fs=>∃mA,h.Ns1 a mA/\∀f,znh (fs.lookup f) (mA f)|.rng lo hi=>∃t u v,h.get? a=some {cls:=.type "range",data:=.fields #[.int lo t,.int hi u,.int 1 v]}|.frz o u=>h.get? a=some o/\zb8 H h a u|.tbl ps=>h.get? a=some {cls:=.none,data:=.fields ps}|.met f x=>h.get? a=some (PySem.W.methodObj (.ref f) (.ref x))|.ext d=>d h/\(∃o,h.get? a=some o)/\∀h1 h2:Heap,d h1->(∀o,h1.get? a=some o->h2.get? a=some o)->d h2
noncomputable def HOk(H:Hp)(h:Heap):Prop:=∀a o,H a=some o->zb8 P w H h a o
end
section
variable{P:Program}{w:World}{H H':Hp}{h h':Heap}{a:Addr}{o:HO}
theorem zb8.lt(x:zb8 P w H h a o):a<h.objs.size:=by
 cases o with
 |lst xs=>obtain⟨_,_,_,_,e⟩:=x;exact yap e|tup xs=>obtain⟨_,_,_,p⟩:=x;exact p.lt|dK b=>obtain⟨_,_,_,_,o,_,_,e,_⟩:=x;exact yap e|dT b=>obtain⟨_,_,_,_,o,_,_,e,_⟩:=x;exact yap e|set S n=>obtain⟨o,_,_,_,e,_⟩:=x;exact yap e|ins C dx fs=>obtain⟨_,_,_,e,_⟩:=x;exact yap e|own y=>obtain⟨_,e⟩:=x;exact yap e|xd fs=>obtain⟨_,⟨_,_,_,e,_⟩,_⟩:=x;exact yap e|rng lo hi=>obtain⟨_,_,_,e⟩:=x;exact yap e|frz ob u=>obtain⟨e,_⟩:=x;exact yap e|tbl ps=>exact yap (show h.get? a=some _ from x)|met f y=>exact yap (show h.get? a=some _ from x)|ext c=>obtain⟨_,⟨_,e⟩,_⟩:=x;exact yap e
theorem Paired.mapP{α β:Type}{F G:α->β->Prop}:∀{J:List α}{I:List β},Paired F J I->(∀a b,F a b->G a b)->Paired G J I
 |_,_,.nil,_=>.nil|_,_,.cons r t,f=>.cons (f _ _ r) (Paired.mapP t f)
def zb8.stay(x:zb8 P w H h a o)(k:∀b u,(b=a\/H b=some (.own a))->h.get? b=some u->h'.get? b=some u)
  (ho:∀b,H b=some (.own a)->H' b=some (.own a)) (ht:∀b xs,H b=some (.tup xs)->H' b=some (.tup xs)):zb8 P w H' h' a o:=by
 induction o with
 |lst xs=>obtain⟨z,g,n,r,e⟩:=x;exact⟨z,g,n,r,k _ _ (.inl rfl) e⟩|tup xs=>obtain⟨z,g,r,ob,e,c⟩:=x;exact⟨z,g,r,ob,k _ _ (.inl rfl) e,c⟩|dK i=>obtain⟨z,y,vs,r,ob,es,ep,e,c⟩:=x;exact⟨z,y,vs,r,ob,es,ep,k _ _ (.inl rfl) e,c⟩|dT i=>
  obtain⟨z,y,xs,r,ob,es,ep,e,c⟩:=x;exact⟨z,y,xs,Paired.mapP r fun p q z=>⟨z.1,ht _ _ z.2.1,z.2.2⟩,ob,es,ep,k _ _ (.inl rfl) e,c⟩
 |set S n=>obtain⟨ob,es,ep,t,e,c⟩:=x;exact⟨ob,es,ep,t,k _ _ (.inl rfl) e,c⟩|ins C dx fs=>
  obtain⟨d,z,ne,e,mA,⟨od,es,ep,l,c⟩,r⟩:=x;exact⟨ho _ d,z,ne,k _ _ (.inl rfl) e,mA,⟨od,es,ep,k _ _ (.inr d) l,c⟩,r⟩
 |own y=>obtain⟨ob,e⟩:=x;exact⟨ob,k _ _ (.inl rfl) e⟩|xd fs=>obtain⟨mA,⟨od,es,ep,e,c⟩,r⟩:=x;exact⟨mA,⟨od,es,ep,k _ _ (.inl rfl) e,c⟩,r⟩|rng lo hi=>obtain⟨t,u,v,e⟩:=x;exact⟨t,u,v,k _ _ (.inl rfl) e⟩|frz ob u j=>obtain⟨e,q⟩:=x;exact⟨k _ _ (.inl rfl) e,j q⟩|tbl ps=>
  have e:h.get? a=some {cls:=.none,data:=.fields ps}:=x;show h'.get? a=some {cls:=.none,data:=.fields ps};exact k a _ (.inl rfl) e
 |met f y=>
  have e:h.get? a=some (PySem.W.methodObj (.ref f) (.ref y)):=x;show h'.get? a=some (PySem.W.methodObj (.ref f) (.ref y));exact k a _ (.inl rfl) e
 |ext m=>obtain⟨p,⟨o,e⟩,st⟩:=x;exact⟨st _ _ p fun o q=>k _ _ (.inl rfl) q,⟨o,k _ _ (.inl rfl) e⟩,st⟩
theorem HOk.lt(x:HOk P w H h)(e:H a=some o):a<h.objs.size:=(x a o e).lt
def HOk.fresh(x:HOk P w H h)(e:h.objs.size<=a):H a=none:=by
 cases q:H a with
 |none=>rfl|some u=>exact absurd (yam (x.lt q) e) (ya6 _)
def HOk.kept(x:HOk P w H h)(k:∀b u,h.get? b=some u->h'.get? b=some u):HOk P w H h':=fun a o e=>
 (x a o e).stay (fun b u _ q=>k b u q) (fun _ q=>q) fun _ _ q=>q
def HOk.laid(x:HOk P w H h)(k:∀b u,h.get? b=some u->h'.get? b=some u)(I:h.objs.size<=a)(new:zb8 P w (upd H a o) h' a o):HOk P w (upd H a o) h':=fun b u e=>by
 have d:=x.fresh I
 by_cases f:b=a
 ·subst f;rw[zaC]at e;cases e;exact new
 ·rw[zam f]at e
  exact(x b u e).stay (fun c v _ q=>k c v q) (fun c q=>by rw[zam (zar q d)];exact q) fun c xs q=>by rw[zam (zar q d)];exact q
end
noncomputable def Rd(H:Hp)(a:Addr)(u:HO):Prop:=H a=some u\/∃o,H a=some (.frz o u)
def Rd.ok(r:Rd H a u)(x:HOk P w H h):zb8 P w H h a u:=by
 rcases r with r|⟨o,r⟩
 ·exact x a u r
 ·obtain⟨_,q⟩:=x a _ r;exact q
noncomputable def Mut:Option HO->Prop
 |some (.lst _)=>True|some (.dK _)=>True|some (.dT _)=>True|some (.set _ _)=>True|some (.ins _ _ _)=>True|some (.ext _)=>True|_=>False
section
variable{P:Program}{w:World}{H:Hp}{h h':Heap}{x e:Addr}{o':HO}
def HOk.write(ok:HOk P w H h)(mu:Mut (H x))(he:e=x\/H e=some (.own x))(k:∀b u,b≠e->h.get? b=some u->h'.get? b=some u)(I:∃u,h'.get? e=some u)
  (new:zb8 P w (upd H x o') h' x o'):HOk P w (upd H x o') h':=fun b u q=>by
 have d:∀c y,H c=some (.own y)->c≠x:=fun c y r z=>by subst z;rwa[r]at mu
 have f:∀c xs,H c=some (.tup xs)->c≠x:=fun c xs r z=>by subst z;rwa[r]at mu
 by_cases i:b=x
 ·subst i;rw[zaC]at q;cases q;exact new
 ·rw[zam i]at q
  by_cases a:b=e
  ·have j:H b=some (.own x):=by
    rcases he with z|z
    ·exact absurd (a.trans z) i
    ·rw[a];exact z
   rw[q]at j;cases j;obtain⟨v,l⟩:=I;exact⟨v,by rw[a];exact l⟩
  ·refine(ok b u q).stay (fun c v g r=>k c v ?_ r) (fun c r=>by rw[zam (d c b r)];exact r) fun c xs r=>by rw[zam (f c xs r)];exact r
   rcases g with rfl|g
   ·exact a
   ·rintro rfl
    rcases he with z|z
    ·exact d c b g z
    ·rw[g]at z;cases z;exact i rfl
end
structure Un(fs ex:List Addr)(H H':Hp)(h h':Heap):Prop where
 keep:∀b o,h.get? b=some o->H b=none->b ∉ fs->b ∉ ex->h'.get? b=some o
 slot:∀b o,h.get? b=some o->H b=none->b∈fs->b ∉ ex->∃sl,h'.get? b=some {o with slots:=sl}
 free:∀b o,h.get? b=some o->H b=none->b ∉ ex->H' b=none
 there:∀b o,h.get? b=some o->b ∉ ex->∃o',h'.get? b=some o'
 tups:∀b xs,H b=some (.tup xs)->H' b=some (.tup xs)
 frzs:∀b o u,H b=some (.frz o u)->H' b=some (.frz o u)
 tbls:∀b ps,H b=some (.tbl ps)->∃more,H' b=some (.tbl (ps++more))
section
variable{fs fs' ex ex':List Addr}{H H1 H2:Hp}{h h1 h2 h':Heap}{a x e:Addr}{o:HO}
def Un.any(u:Un fs ex H H1 h h1)(q:h.get? b=some ob)(n:H b=none)(I:b ∉ ex):∃sl,h1.get? b=some {ob with slots:=sl}:=by
 by_cases a:b∈fs
 ·exact u.slot b ob q n a I
 ·exact⟨ob.slots,u.keep b ob q n a I⟩
def Un.kept(k:∀b u,h.get? b=some u->h'.get? b=some u):Un fs ex H H h h':=
 ⟨fun b ob q _ _ _=>k b ob q,fun b ob q _ _ _=>⟨ob.slots,k b ob q⟩,fun _ _ _ n _=>n,fun b ob q _=>⟨ob,k b ob q⟩,fun _ _ q=>q,fun _ _ _ q=>q,fun _ ps q=>⟨#[],by rw[q];simp⟩⟩
def Un.refl:Un fs ex H H h h:=Un.kept fun _ _ q=>q
def Un.laid(k:∀b u,h.get? b=some u->h'.get? b=some u)(J:h.objs.size<=a)(I:H a=none):Un fs ex H (upd H a o) h h' where
 keep:=fun b u q _ _ _=>k b u q
 slot:=fun b u q _ _ _=>⟨u.slots,k b u q⟩
 free:=fun b u q n _=>by rw[zam (yaA (yam (yap q) J))];exact n
 there:=fun b u q _=>⟨u,k b u q⟩
 tups:=fun b xs q=>by rw[zam (zar q I)];exact q
 frzs:=fun b u xs q=>by rw[zam (zar q I)];exact q
 tbls:=fun b ps q=>⟨#[],by rw[zam (zar q I),q];simp⟩
def Un.write(mu:Mut (H x))(he:e=x\/H e=some (.own x))(k:∀b u,b≠e->h.get? b=some u->h'.get? b=some u)(I:∃u,h'.get? e=some u):Un fs ex H (upd H x o) h h':=by
 have c:∀b,H b=none->b≠x:=fun b n z=>by subst z;rwa[n]at mu
 have d:∀b,H b=none->b≠e:=fun b n z=>by
  subst z
  rcases he with r|r
  ·exact c b n r
  ·rw[n]at r;cases r
 have hm:∀b u,H b=some u->¬ Mut (some u)->b≠x:=fun b u q nm z=>by subst z;rw[q]at mu;exact nm mu
 refine⟨fun b u q n _ _=>k b u (d b n) q,fun b u q n _ _=>⟨u.slots,k b u (d b n) q⟩,fun b u q n _=>by rw[zam (c b n)];exact n,fun b u q _=>?_,
  fun b xs q=>by rw[zam (hm b _ q fun z=>z)];exact q,fun b u xs q=>by rw[zam (hm b _ q fun z=>z)];exact q,fun b ps q=>⟨#[],by rw[zam (hm b _ q fun z=>z),q];simp⟩⟩
 by_cases a:b=e
 ·subst a;exact I
 ·exact⟨u,k b u a q⟩
end
noncomputable def trk(h:Heap)(H:Hp):List Addr:=(List.range h.objs.size).filter fun a=>(H a).isSome
def zoJ(h:Heap)(H:Hp):Heap:=PySem.W.hideAll h (trk h H)
def zmF(h:Heap)(H:Hp):(zoJ h H).objs.size=h.objs.size:=PySem.W.hideAll_size _ _
def zoI(e:h.get? b=some o)(n:H b=none):(zoJ h H).get? b=some o:=
 PySem.W.hideAll_get _ e fun hm=>by
  have q:(H b).isSome=true:=(ybo.mp hm).2;rw[n]at q;simp at q
def zqY(e:(zoJ h H).get? b=some o):h.get? b=some o/\H b=none:=by
 have a:h.get? b=some o:=PySem.W.of_hideAll (trk h H) e;refine⟨a,?_⟩
 cases q:H b with
 |none=>rfl|some x=>
  have hm:b∈trk h H:=ybo.mpr ⟨yaX.mpr (yap a),by simp[q]⟩;have z:(zoJ h H).get? b=none:=PySem.W.hideAll_none (trk h H) hm;rw[z]at e;cases e
noncomputable def zrR(g h:Heap)(L:Addr):List (Addr×Obj):=(List.range h.objs.size).filterMap fun a=>if a=L\/(g.get? a).isSome=true then none else(h.get? a).map fun o=>(a,o)
def zcV(g h:Heap)(L d:Addr):List (Addr×Obj):=(zrR g h L).filter fun p=>decide (p.1≠d)
structure Mod(K:PySem.W.Frag)(mg:Z6)(base:Heap):Prop where
 kin:K.In base
 glob:base.Ns mainGlobals mg
 blt:∃mb,base.Ns builtinsNs mb/\∀x:Str,x ≠ "__name__" -> mb x=bootBuiltins x
 nolimit:base.NoLimit
structure Cx where
 prog:Program
 w:World
 K:PySem.W.Frag
 mg:Str->Option Value
 base:Heap
 A:Around
 N:List Str
 s₀:Shared
 H₀:Hp
 env:Env
 outer:List Env
 stack:List Env
 ex:List Addr
 fn:Str->Bool
 calm:Bool
 pn:List (Addr×Obj)
 xe:Value->Shared->Prop
noncomputable def frs(l:List Env):List Addr:=l.filterMap (·.frame)
noncomputable abbrev Cx.fs(X:Cx):List Addr:=frs X.outer
noncomputable def Vis(sc:Scope)(x:Str):Prop:=sc.names.lookup x=some .local\/sc.names.lookup x=some .cell\/sc.names.lookup x=some .free
noncomputable def Loc(sc:Scope)(x:Str):Prop:=sc.names.lookup x=some .local\/sc.names.lookup x=some .cell
noncomputable def zAo(env:Env)(h:Heap)(m:Z6)(x:Str)(u:Value):Prop:=
 (env.kindOf x=some .local/\m x=some u)\/((env.kindOf x=some .cell\/env.kindOf x=some .free)/\∃c,env.cells.lookup x=some c/\h.IsCell c (some u))
structure Cx.Ok(X:Cx):Prop where
 mod:Mod X.K X.mg X.base
 kind:X.env.scope.kind=.function
 glob:X.env.globals=mainGlobals
 blt:X.env.builtins=builtinsNs
 above:X.s₀.heap.objs.size<=X.env.locals
 inj:∀x y c,X.env.cells.lookup x=some c->X.env.cells.lookup y=some c->x=y
 has:∀x,(X.env.kindOf x=some .cell\/X.env.kindOf x=some .free)->∃c,X.env.cells.lookup x=some c
 cab:∀x c,X.fn x=true->X.env.cells.lookup x=some c->X.s₀.heap.objs.size<=c
 hd:X.calm=true->X.A.handled=none
 frames:X.A.frames=some X.stack
 stk:X.stack=X.outer\/(X.stack=X.env::X.outer/\X.env.frame=some X.env.locals)
 exf:∀b∈X.ex,b≠X.env.locals/\∀x c,X.env.cells.lookup x=some c->c≠b
 bs:∀b o,X.base.get? b=some o->X.s₀.heap.get? b=some o/\X.H₀ b=none
 bsz:X.base.objs.size<=X.s₀.heap.objs.size
 noex:∀b o,X.base.get? b=some o->b ∉ X.ex
 exfs:∀b∈X.ex,b ∉ X.fs
 funs:X.s₀.heap.FunFrames X.base X.outer
 frf:∀b∈X.fs,X.H₀ b=none
structure Inv(X:Cx)(pins:Z3)(σ:List (Option V))(H:Hp)(s:Shared):Prop where
 ok:X.Ok
 os:s.os=X.s₀.os
 bare:AllBare s.gens
 base:Un X.fs X.ex X.H₀ H X.s₀.heap s.heap
 loc:∃m,s.heap.Ns X.env.locals m/\∀(i:Nat) (x:Str) (v:V),X.N[i]?=some x->σ[i]?=some (some v)->Vis X.env.scope x->∃u,zbD v u/\zAo X.env s.heap m x u
 cell:∀x c,X.env.cells.lookup x=some c->∃v,s.heap.IsCell c v
 free:H X.env.locals=none
 freeC:∀x c,X.env.cells.lookup x=some c->H c=none
 pin:∀p∈X.pn++pins,s.heap.get? p.1=some p.2/\H p.1=none/\p.1≠X.env.locals/\p.1 ∉ X.fs/\∀v,p.2.data≠.cell v
 hok:HOk X.prog X.w H s.heap
 len:σ.length=X.N.length
section
variable{X:Cx}{pins:Z3}{σ:List (Option V)}{H H':Hp}{s:Shared}{h':Heap}
def Cx.Ok.nofr(ok:X.Ok)(e:X.base.get? b=some o):b ∉ X.fs:=fun a=>by
 have:=(ok.funs.mem a).1;rw[e]at this;cases this
theorem Inv.bs(I:Inv X pins σ H s):∀b o,X.base.get? b=some o->s.heap.get? b=some o/\H b=none:=fun b o e=>
 ⟨I.base.keep b o (I.ok.bs b o e).1 (I.ok.bs b o e).2 (I.ok.nofr e) (I.ok.noex b o e),I.base.free b o (I.ok.bs b o e).1 (I.ok.bs b o e).2 (I.ok.noex b o e)⟩
def Inv.bk(I:Inv X pins σ H s):∀b o,X.base.get? b=some o->s.heap.get? b=some o:=fun b o e=>(I.bs b o e).1
theorem Inv.mod(I:Inv X pins σ H s):Mod X.K X.mg X.base:=I.ok.mod
def Inv.kIn(I:Inv X pins σ H s):X.K.In s.heap:=I.ok.mod.kin.keeps I.bk
theorem Inv.lt(I:Inv X pins σ H s):X.env.locals<s.heap.objs.size:=let ⟨_,a,_⟩:=I.loc;a.lt
def Inv.sz(I:Inv X pins σ H s):X.s₀.heap.objs.size<=s.heap.objs.size:=yal I.ok.above (ycq I.lt)
def Inv.nofs(I:Inv X pins σ H s)(h:s.heap.objs.size<=a):a ∉ X.fs:=fun c=>by
 obtain⟨_,o,b,_⟩:=I.ok.funs.mem c;exact absurd (yam (yap b) (yal I.sz h)) (ya6 _)
def Inv.cne(I:Inv X pins σ H s):∀x c,X.env.cells.lookup x=some c->c≠X.env.locals:=fun x c e z=>by
 obtain⟨v,o,d,hd⟩:=I.cell x c e;obtain⟨m,⟨o',es,ep,a,b,_⟩,_⟩:=I.loc;rw[z,a]at d;cases d;rw[b]at hd;cases hd
theorem Inv.funs(I:Inv X pins σ H s):s.heap.FunFrames X.base X.outer:=by
 have all:∀(l:List Env),(∀b∈frs l,b∈X.fs)->X.s₀.heap.FunFrames X.base l->s.heap.FunFrames X.base l:=by
  intro l
  induction l with
  |nil=>intro _ _;trivial|cons env r d=>
   intro hs i;obtain⟨j,⟨L,o,hf,h,g,hd⟩,f⟩:=i;have c:L∈X.fs:=hs L (by unfold frs;rw[yc6,hf];exact yay);obtain⟨k,e⟩:=I.base.slot L o g (I.ok.frf L c) c fun z=>I.ok.exfs L z c
   exact⟨j,⟨L,_,hf,h,e,hd⟩,d (fun b a=>hs b (by unfold frs;rw[yc6,hf];exact yas _ a)) f⟩
 exact all X.outer (fun _ a=>a) I.ok.funs
theorem Inv.stack(I:Inv X pins σ H s):s.heap.FunFrames X.base X.stack:=by
 rcases I.ok.stk with e|⟨e,hf⟩
 ·rw[e];exact I.funs
 ·rw[e];obtain⟨m,a,_⟩:=I.loc;refine .cons (by rw[I.ok.kind];decide) hf a ?_ I.funs;exact Heap.get?_none_of_le (yal I.ok.bsz I.ok.above)
def Inv.stkSub(I:Inv X pins σ H s):∀b∈frs X.stack,b∈X.env.locals::X.fs:=fun b a=>by
 rcases I.ok.stk with e|⟨e,hf⟩
 ·rw[e]at a;exact yas _ a
 ·rw[e]at a;unfold frs at a;rwa[yc6,hf]at a
def Inv.stkFree(I:Inv X pins σ H s):∀b∈frs X.stack,H b=none:=fun b a=>by
 rcases yat.mp (I.stkSub b a)with e|a
 ·rw[e];exact I.free
 ·obtain⟨_,o,c,_⟩:=I.ok.funs.mem a;exact I.base.free b o c (I.ok.frf b a) fun z=>I.ok.exfs b z a
def Inv.step{g':Array GenState}{t':Nat}{d':Drawn}{ch:List Addr}(I:Inv X pins σ H s)
  (J:∀b∈ch,(b∈X.ex\/X.s₀.heap.objs.size<=b)/\b≠X.env.locals/\(∀x c,X.env.cells.lookup x=some c->c≠b)/\∀p∈X.pn++pins,p.1≠b)
  (keep:∀b o,b≠X.env.locals->b ∉ X.fs->b ∉ ch->s.heap.get? b=some o->H b=none->h'.get? b=some o)
  (slot:∀b o,b≠X.env.locals->b∈X.fs->b ∉ ch->s.heap.get? b=some o->H b=none->∃sl,h'.get? b=some {o with slots:=sl}) (free:∀b o,b ∉ ch->s.heap.get? b=some o->H b=none->H' b=none)
  (there:∀b o,b ∉ ch->s.heap.get? b=some o->∃o',h'.get? b=some o')
  (tups:∀b xs,H b=some (.tup xs)->H' b=some (.tup xs)) (frzs:∀b o u,H b=some (.frz o u)->H' b=some (.frz o u)) (tbls:∀b ps,H b=some (.tbl ps)->∃more,H' b=some (.tbl (ps++more)))
  (ns:∀m,s.heap.Ns X.env.locals m->h'.Ns X.env.locals m) (hok:HOk X.prog X.w H' h') (U:AllBare g'):
  Inv X pins σ H' {s with heap:=h',gens:=g',drawn:=d',toks:=t'}:=by
 have A:∀b o,X.s₀.heap.get? b=some o->b≠X.env.locals:=fun b o e=>yaA (yam (yap e) I.ok.above)
 have h:∀b o,X.s₀.heap.get? b=some o->b ∉ X.ex->b ∉ ch:=fun b o e a t=>by
  rcases(J b t).1 with z|z
  ·exact a z
  ·exact absurd (yam (yap e) z) (ya6 _)
 have g:∀x c,X.env.cells.lookup x=some c->∀v,s.heap.IsCell c v->h'.IsCell c v:=fun x c e v ⟨o,y,hd⟩=>by
  have f:c ∉ ch:=fun z=>(J c z).2.2.1 x c e rfl
  by_cases F:c∈X.fs
  ·obtain⟨sl,q⟩:=slot c o (I.cne x c e) F f y (I.freeC x c e);exact⟨_,q,hd⟩
  ·exact⟨o,keep c o (I.cne x c e) F f y (I.freeC x c e),hd⟩
 refine⟨I.ok,I.os,U,⟨fun b o e n t a=>?_,fun b o e n t a=>?_,fun b o e n a=>?_,fun b o e a=>?_,fun b xs e=>tups b xs (I.base.tups b xs e),fun b o xs e=>frzs b o xs (I.base.frzs b o xs e),fun b ps e=>?_⟩,?_,fun x c e=>?_,?_,fun x c e=>?_,fun p E=>?_,hok,I.len⟩
 ·exact keep b o (A b o e) t (h b o e a) (I.base.keep b o e n t a) (I.base.free b o e n a)
 ·obtain⟨sl,j⟩:=I.base.slot b o e n t a;obtain⟨C,B⟩:=slot b _ (A b o e) t (h b o e a) j (I.base.free b o e n a);exact⟨C,B⟩
 ·obtain⟨o',j⟩:=I.base.there b o e a;exact free b o' (h b o e a) j (I.base.free b o e n a)
 ·obtain⟨o',j⟩:=I.base.there b o e a;exact there b o' (h b o e a) j
 ·obtain⟨K,j⟩:=I.base.tbls b ps e;obtain⟨G,B⟩:=tbls b _ j;exact⟨K++G,by rw[B,Array.append_assoc]⟩
 ·obtain⟨m,L,M⟩:=I.loc;refine⟨m,ns m L,fun i x v j B N=>?_⟩;obtain⟨u,r,l⟩:=M i x v j B N;refine⟨u,r,?_⟩
  rcases l with l|⟨k,c,e,z⟩
  ·exact .inl l
  ·exact .inr ⟨k,c,e,g x c e _ z⟩
 ·obtain⟨v,z⟩:=I.cell x c e;exact⟨v,g x c e v z⟩
 ·obtain⟨m,⟨o,_,_,y,_⟩,_⟩:=I.loc;exact free _ o (fun z=>(J _ z).2.1 rfl) y I.free
 ·obtain⟨v,o,y,hd⟩:=I.cell x c e;exact free c o (fun z=>(J c z).2.2.1 x c e rfl) y (I.freeC x c e)
 ·obtain⟨e,n,ne,D,d⟩:=I.pin p E;have f:p.1 ∉ ch:=fun z=>(J p.1 z).2.2.2 p E rfl
  exact⟨keep p.1 p.2 ne D f e n,free p.1 p.2 f e n,ne,D,d⟩
def Inv.un(I:Inv X pins σ H s)(u:Un X.fs [] H H' s.heap h')(hok:HOk X.prog X.w H' h'):Inv X pins σ H' {s with heap:=h',toks:=t'}:=by
 obtain⟨m,⟨o,es,ep,g,r⟩,_⟩:=id I.loc;obtain⟨i,h⟩:=u.any g I.free (by simp)
 exact I.step (g':=s.gens) (d':=s.drawn) (ch:=[]) (fun _ z=>nomatch z) (fun b o _ c _ e n=>u.keep b o e n c (by simp)) (fun b o _ c _ e n=>u.slot b o e n c (by simp)) (fun b o _ e n=>u.free b o e n (by simp)) (fun b o _ e=>u.there b o e (by simp)) u.tups u.frzs u.tbls (fun j hm=>by
  obtain⟨o',d,f,a,r'⟩:=hm;rw[g]at a;cases a
  exact⟨_,d,f,h,r'⟩) hok I.bare
def Inv.call(I:Inv X pins σ H s)(u:Un (frs X.stack) ch H H' s.heap h')(hok:HOk X.prog X.w H' h')(U:AllBare g')
  (J:∀b∈ch,(b∈X.ex\/X.s₀.heap.objs.size<=b)/\b≠X.env.locals/\(∀x c,X.env.cells.lookup x=some c->c≠b)/\∀p∈X.pn++pins,p.1≠b):
  Inv X pins σ H' {s with heap:=h',gens:=g',drawn:=d',toks:=t'}:=by
 obtain⟨m,⟨o,es,ep,i,r⟩,_⟩:=id I.loc;obtain⟨k,f⟩:=u.any i I.free fun z=>(J _ z).2.1 rfl
 exact I.step (ch:=ch) J (fun b o f j a e n=>u.keep b o e n (fun z=>(yat.mp (I.stkSub b z)).elim f j) a) (fun b o _ _ a e n=>u.any e n a) (fun b o a e n=>u.free b o e n a) (fun b o a e=>u.there b o e a) u.tups u.frzs u.tbls (fun l hm=>by
  obtain⟨o',g,h,d,r'⟩:=hm;rw[i]at d;cases d
  exact⟨_,g,h,f,r'⟩) hok U
def Inv.turned(I:Inv X pins σ H s)(k:∀b o,b≠it->s.heap.get? b=some o->h'.get? b=some o)(U:H it=none)(J:it≠X.env.locals)
  (h1:it∈X.ex\/X.s₀.heap.objs.size<=it) (h2:∀x c,X.env.cells.lookup x=some c->c≠it) (h3:∀p∈X.pn++pins,p.1≠it):Inv X pins σ H {s with heap:=h',toks:=t'}:=by
 have d:∀b u,H b=some u->b≠it:=fun b u e z=>by rw[z,U]at e;cases e
 refine I.step (g':=s.gens) (d':=s.drawn) (ch:=[it]) (fun b g=>?_) (fun b o _ _ a e _=>k b o (fun z=>a (by simp[z])) e) (fun b o _ _ a e _=>⟨o.slots,k b o (fun z=>a (by simp[z])) e⟩) (fun _ _ _ _ n=>n)
  (fun b o a e=>⟨o,k b o (fun z=>a (by simp[z])) e⟩) (fun _ _ e=>e) (fun _ _ _ e=>e) (fun b ps e=>⟨#[],by rw[e];simp⟩) (fun m hm=>?_) (fun b u e=>?_) I.bare
 ·have e:b=it:=by simpa using g
  subst e;exact⟨h1,J,h2,h3⟩
 ·obtain⟨o,es,ep,f,r⟩:=hm;exact⟨o,es,ep,k _ o (Ne.symm J) f,r⟩
 ·refine(I.hok b u e).stay (fun c v a q=>k c v ?_ q) (fun _ q=>q) fun _ _ q=>q
  rcases a with z|z
  ·rw[z];exact d b u e
  ·exact d c _ z
def Inv.tok(I:Inv X pins σ H s)(t:Nat):Inv X pins σ H {s with toks:=t}:=I.un (h':=s.heap) (t':=t) Un.refl I.hok
theorem Inv.kept(I:Inv X pins σ H s)(k:∀b u,s.heap.get? b=some u->h'.get? b=some u):Inv X pins σ H {s with heap:=h',toks:=t'}:=I.un (Un.kept k) (I.hok.kept k)
theorem Inv.laid(I:Inv X pins σ H s)(k:∀b u,s.heap.get? b=some u->h'.get? b=some u)(J:s.heap.objs.size<=a)(new:zb8 X.prog X.w (upd H a o) h' a o):
  Inv X pins σ (upd H a o) {s with heap:=h',toks:=t'}:=I.un (Un.laid k J (I.hok.fresh J)) (I.hok.laid k J new)
theorem Inv.write(I:Inv X pins σ H s)(mu:Mut (H x))(he:e=x\/H e=some (.own x))(k:∀b u,b≠e->s.heap.get? b=some u->h'.get? b=some u)(J:∃u,h'.get? e=some u)
  (new:zb8 X.prog X.w (upd H x o) h' x o):Inv X pins σ (upd H x o) {s with heap:=h',toks:=t'}:=I.un (Un.write mu he k J) (I.hok.write mu he k J new)
def Inv.pins_of(I:Inv X pins σ H s)(h:∀p∈J,s.heap.get? p.1=some p.2/\H p.1=none/\p.1≠X.env.locals/\p.1 ∉ X.fs/\∀v,p.2.data≠.cell v):Inv X J σ H s:=
 ⟨I.ok,I.os,I.bare,I.base,I.loc,I.cell,I.free,I.freeC,fun p a=>(ya8.mp a).elim (fun z=>I.pin p (ybq _ z)) (h p),I.hok,I.len⟩
def zhi{N:List Str}(I:N.Nodup){i j:Nat}{x:Str}(a:N[i]?=some x)(b:N[j]?=some x):i=j:=by
 obtain⟨h1,d⟩:=yaj.mp a;obtain⟨h2,c⟩:=yaj.mp b;exact(List.getElem_inj I).mp (d.trans c.symm)
def zhT(I:Inv X pins σ H s)(hN:X.N.Nodup)(hi:X.N[i]?=some x)(J:Loc X.env.scope x)(r:zbD v u)
  (h:∀s',Inv X pins (σ.set i (some v)) H s'->(∃a,Heap.SameBut a s.heap s'.heap/\(a=X.env.locals\/X.env.cells.lookup x=some a))->Q () s') (hf:X.fn x=true\/X.env.scope.names.lookup x=some .local):wpAny M A (storeName X.env x u) Q E s:=by
 obtain⟨m,hn,hl⟩:=id I.loc
 have P:(X.env.scope.kind==.class||(X.env.scope.kind==.module&&X.env.locals != X.env.globals))=false:=by rw[I.ok.kind];rfl
 have D:i<σ.length:=by rw[I.len];exact(yaj.mp hi).1
 have cne:=I.cne
 have f:∀{a:Addr}{h':Heap},(∃o,s.heap.get? a=some o/\H a=none)->Heap.SameBut a s.heap h'->HOk X.prog X.w H h':=fun {a h'} ha hs b ob e=>by
  obtain⟨_,_,t⟩:=ha;refine(I.hok b ob e).stay (fun c w' l q=>(hs.2 c ?_).trans q) (fun _ q=>q) fun _ _ q=>q
  rintro rfl
  rcases l with rfl|l
  ·rw[t]at e;cases e
  ·rw[t]at l;cases l
 rcases J with C|C
 ·refine wpAny_storeName_local C hn (fun h' a3 hs=>?_) P;obtain⟨oL,_,_,Z,_⟩:=id hn;refine h _ ⟨I.ok,I.os,I.bare,⟨fun b o e n K J=>?_,fun b o e n K J=>?_,I.base.free,fun b o e J=>?_,I.base.tups,I.base.frzs,I.base.tbls⟩,⟨_,a3,fun j y T g B e3=>?_⟩,fun y c e=>?_,I.free,I.freeC,fun p Y=>?_,f ⟨oL,Z,I.free⟩ hs,by simpa using I.len⟩ ⟨_,hs,.inl rfl⟩
  ·exact(hs.2 b (yaA (yam (yap e) I.ok.above))).trans (I.base.keep b o e n K J)
  ·obtain⟨V,g⟩:=I.base.slot b o e n K J;exact⟨V,(hs.2 b (yaA (yam (yap e) I.ok.above))).trans g⟩
  ·obtain⟨o',g⟩:=I.base.there b o e J;exact⟨o',(hs.2 b (yaA (yam (yap e) I.ok.above))).trans g⟩
  ·by_cases F:j=i
   ·subst F;rw[hi]at g;cases g;rw[yaw D]at B;cases B;exact⟨u,r,.inl ⟨C,by simp⟩⟩
   ·rw[yaJ (Ne.symm F)]at B;obtain⟨U,r',q⟩:=hl j y T g B e3;refine⟨U,r',?_⟩
    rcases q with⟨k,e⟩|⟨k,c,e,z⟩
    ·refine .inl ⟨k,?_⟩;have:y≠x:=fun e=>F (zhi hN g (e ▸ hi))
     simp[this,e]
    ·exact .inr ⟨k,c,e,z.sameBut hs (cne y c e)⟩
  ·obtain⟨w',z⟩:=I.cell y c e;exact⟨w',z.sameBut hs (cne y c e)⟩
  ·obtain⟨e,n,ne,W,d⟩:=I.pin p Y;exact⟨(hs.2 p.1 ne).trans e,n,ne,W,d⟩
 ·have G:X.fn x=true:=by
   rcases hf with z|z
   ·exact z
   ·rw[z]at C;cases C
  obtain⟨c,l⟩:=I.ok.has x (.inl C);obtain⟨w',z⟩:=I.cell x c l;refine wpAny_storeName_cell I.ok.kind C l z (fun h' S hs=>?_);obtain⟨oc,O,L⟩:=id z;refine h {s with heap:=h'} ⟨I.ok,I.os,I.bare,⟨fun b o e n K J=>?_,fun b o e n K J=>?_,I.base.free,fun b o e J=>?_,I.base.tups,I.base.frzs,I.base.tbls⟩,⟨m,hn.sameBut hs (Ne.symm (cne x c l)),fun j y T g B e3=>?_⟩,fun y c' e=>?_,I.free,I.freeC,fun p Y=>?_,f ⟨oc,O,I.freeC x c l⟩ hs,by simpa using I.len⟩ ⟨c,hs,.inr l⟩
  ·exact(hs.2 b (yaA (yam (yap e) (I.ok.cab x c G l)))).trans (I.base.keep b o e n K J)
  ·obtain⟨V,g⟩:=I.base.slot b o e n K J;exact⟨V,(hs.2 b (yaA (yam (yap e) (I.ok.cab x c G l)))).trans g⟩
  ·obtain⟨o',g⟩:=I.base.there b o e J;exact⟨o',(hs.2 b (yaA (yam (yap e) (I.ok.cab x c G l)))).trans g⟩
  ·by_cases F:j=i
   ·subst F;rw[hi]at g;cases g;rw[yaw D]at B;cases B;exact⟨u,r,.inr ⟨.inl C,c,l,S⟩⟩
   ·rw[yaJ (Ne.symm F)]at B;obtain⟨U,r',q⟩:=hl j y T g B e3;refine⟨U,r',?_⟩
    rcases q with q|⟨k,c',e,z'⟩
    ·exact .inl q
    ·refine .inr ⟨k,c',e,z'.sameBut hs ?_⟩;rintro rfl;exact F (zhi hN g (I.ok.inj _ _ _ e l ▸ hi))
  ·by_cases R:c'=c
   ·subst R;exact⟨_,S⟩
   ·obtain⟨w2,z2⟩:=I.cell y c' e;exact⟨w2,z2.sameBut hs R⟩
  ·obtain⟨e,n,ne,W,d⟩:=I.pin p Y;refine⟨(hs.2 p.1 ?_).trans e,n,ne,W,d⟩;intro q;rw[q,O]at e;have q':oc=p.2:=Option.some.inj e;exact d w' (by rw[<-q'];exact L)
def zdt(I:Inv X pins σ H s)(U:X.N.Nodup)(hi:X.N[i]?=some x)(J:Loc X.env.scope x)(r:zbD v u)
  (h:∀s',Inv X pins (σ.set i (some v)) H s'->Q () s') (hf:X.fn x=true\/X.env.scope.names.lookup x=some .local):wpAny M A (storeName X.env x u) Q E s:=
 zhT I U hi J r (fun s' a _=>h s' a) hf
def Inv.call'(I:Inv X pins σ H s)(ho:s'.os=s.os)(u:Un (frs X.stack) ch H H' s.heap s'.heap)(hok:HOk X.prog X.w H' s'.heap)(U:AllBare s'.gens)
  (J:∀b∈ch,(b∈X.ex\/X.s₀.heap.objs.size<=b)/\b≠X.env.locals/\(∀x c,X.env.cells.lookup x=some c->c≠b)/\∀p∈X.pn++pins,p.1≠b):Inv X pins σ H' s':=by
 obtain⟨h',g',d',t',o'⟩:=s';have e:o'=s.os:=ho;subst e;exact I.call (g':=g') (t':=t') (d':=d') u hok U J
end
noncomputable abbrev XK:=Value->Option Addr->Hp->Prop
noncomputable abbrev St:=List (Option V)
noncomputable abbrev VK:=V->Hp->Prop
noncomputable abbrev TE:=St->Hp->VK->Prop
noncomputable abbrev TT:=St->Hp->(Bool->Hp->Prop)->Prop
noncomputable abbrev TA:=St->Hp->(List V->Hp->Prop)->Prop
structure Ends where
 nx:St->Hp->Prop
 rt:VK
 bk:St->Hp->Prop:=fun _ _=>False
 ct:St->Hp->Prop:=fun _ _=>False
noncomputable abbrev TS:=Ends->St->Hp->Prop
noncomputable def EP(X:Cx)(pins:Z3)(σ:St)(Q:VK)(u:Value)(s':Shared):Prop:=∃v H',Inv X pins σ H' s'/\zbD v u/\Q v H'
noncomputable def TP(X:Cx)(pins:Z3)(σ:St)(Q:Bool->Hp->Prop)(b:Bool)(s':Shared):Prop:=∃H',Inv X pins σ H' s'/\Q b H'
noncomputable def AP(X:Cx)(pins:Z3)(σ:St)(Q:List V->Hp->Prop)(us:List Value)(s':Shared):Prop:=∃vs H',Inv X pins σ H' s'/\Vals vs us/\Q vs H'
noncomputable def SP(X:Cx)(pins:Z3)(D:Ends)(f:Flow)(s':Shared):Prop:=
 match f with
 |.next=>∃a H',Inv X pins a H' s'/\D.nx a H'|.brk=>∃a H',Inv X pins a H' s'/\D.bk a H'|.cont=>∃a H',Inv X pins a H' s'/\D.ct a H'|.ret u=>∃v a H',Inv X pins a H' s'/\zbD v u/\D.rt v H'
noncomputable def PE(X:Cx)(e:Expr)(t:TE):Prop:=
 ∀(pins:Z3) (s:Shared) (σ:St) (H:Hp) (Q:VK),Inv X pins σ H s->t σ H Q->wpAny (model X.prog X.w) X.A (eval e X.env) (EP X pins σ Q) X.xe s
noncomputable def PT(X:Cx)(e:Expr)(t:TT):Prop:=
 ∀(pins:Z3) (s:Shared) (σ:St) (H:Hp) (Q:Bool->Hp->Prop),Inv X pins σ H s->t σ H Q->wpAny (model X.prog X.w) X.A (isTrue e X.env (eval e X.env)) (TP X pins σ Q) X.xe s
noncomputable def PW(X:Cx)(e:Expr)(t:TT):Prop:=
 ∀(whole:Sem Value) (pins:Z3) (s:Shared) (σ:St) (H:Hp) (Q:Bool->Hp->Prop),Inv X pins σ H s->t σ H Q->wpAny (model X.prog X.w) X.A (isTrue e X.env whole) (TP X pins σ Q) X.xe s
def PW.pt(h:PW X e t):PT X e t:=h _
noncomputable def PA(X:Cx)(es:List Expr)(t:TA):Prop:=
 ∀(pos:Pos) (pins:Z3) (s:Shared) (σ:St) (H:Hp) (Q:List V->Hp->Prop),Inv X pins σ H s->t σ H Q->wpAny (model X.prog X.w) X.A (spliced (backTo pos (starEach es X.env))) (AP X pins σ Q) X.xe s
noncomputable def PS(X:Cx)(st:Stmt)(t:TS):Prop:=
 ∀(pins:Z3) (s:Shared) (σ:St) (H:Hp) (D:Ends),Inv X pins σ H s->t D σ H->wpAny (model X.prog X.w) X.A (exec st X.env) (SP X pins D) X.xe s
noncomputable def PSs(X:Cx)(st:List Stmt)(t:TS):Prop:=
 ∀(pins:Z3) (s:Shared) (σ:St) (H:Hp) (D:Ends),Inv X pins σ H s->t D σ H->wpAny (model X.prog X.w) X.A (execs st X.env) (SP X pins D) X.xe s
def thn{α:Type}{t:Sem α}{Q I:α->Shared->Prop}(h:wpAny M A t Q E s)(J:∀a s,Q a s->I a s):wpAny M A t I E s:=ybr h J fun _ _ x=>x
section
variable{X:Cx}
noncomputable def zvF(i:Nat):TE:=fun σ H Q=>∃v,σ[i]?=some (some v)/\Q v H
noncomputable def tC(v:V):TE:=fun _ H Q=>Q v H
def zbg{i:Nat}{x:Str}{pos:Pos}(hN:X.N[i]?=some x)(U:Vis X.env.scope x)(hd:autoParam ((x==("__debug__":Str))=false) yAR)(J:autoParam ((x==("__classdict__":Str))=false) yAR):PE X (.Name x pos) (zvF i):=by
 intro pins s σ H Q I h;obtain⟨v,e,h⟩:=h;obtain⟨m,f,g⟩:=I.loc;obtain⟨u,r,l⟩:=g i x v hN e U;have fin:EP X pins σ Q u s:=⟨v,H,I,r,h⟩
 rcases l with⟨b,hm⟩|⟨b,c,d,a⟩
 ·exact wpAny_Name (wpAny_loadName_local I.ok.kind b f hm fin) hd
 ·rcases b with b|b
  ·exact wpAny_Name (wpAny_loadName_cell I.ok.kind b d a fin) hd
  ·exact wpAny_Name (wpAny_loadName_free I.ok.kind b d a fin J) hd
def ztC{i j pos}:PE X (.Constant (.int i) j pos) (tC (.int i)):=fun _ _ _ H _ I h=>wpAny_Constant_int ⟨.int i,H,I.tok _,⟨_,rfl⟩,h⟩
def zqR{b j pos}:PE X (.Constant (.bool b) j pos) (tC (.bl b)):=fun _ _ _ H _ I h=>Constant_bool ⟨.bl b,H,I,rfl,h⟩
def ztA{j pos}:PE X (.Constant .none j pos) (tC .non):=fun _ _ _ H _ I h=>Constant_none ⟨.non,H,I,rfl,h⟩
def ztw{x j pos}:PE X (.Constant (.str x) j pos) (tC (.str x)):=fun _ _ _ H _ I h=>Calls.Constant_str ⟨.str x,H,I.tok _,⟨_,rfl⟩,h⟩
noncomputable def Gl(X:Cx)(x:Str):Prop:=X.env.kindOf x=some .globalImplicit
def zfm{E:Z5}{pins:Z3}{s:Shared}{σ:St}{H:Hp}{x:Str}{u:Value}{pos:Pos}{Q:Z5}(I:Inv X pins σ H s)(J:Gl X x)(hm:X.mg x=some u)(h:Q u s)
  (hd:autoParam ((x==("__debug__":Str))=false) yAR):wpAny (model X.prog X.w) X.A (eval (.Name x pos) X.env) Q E s:=
 Calls.Name_function_global I.ok.kind J (Calls.loadGlobal_global (by rw[I.ok.glob];exact I.mod.glob.keeps I.bk) hm h) hd
def ze4{E:Z5}{pins:Z3}{s:Shared}{σ:St}{H:Hp}{x:Str}{u:Value}{pos:Pos}{Q:Z5}(I:Inv X pins σ H s)(hg:Gl X x)(hm:X.mg x=none)(J:bootBuiltins x=some u)(h:Q u s)
  (U:autoParam (x ≠ "__name__") yAR) (hd:autoParam ((x==("__debug__":Str))=false) yAR):wpAny (model X.prog X.w) X.A (eval (.Name x pos) X.env) Q E s:=by
 obtain⟨a,h1,h2⟩:=I.mod.blt;exact Calls.Name_function_global I.ok.kind hg (Calls.loadGlobal_builtin (by rw[I.ok.glob];exact I.mod.glob.keeps I.bk) hm (by rw[I.ok.blt];exact h1.keeps I.bk) ((h2 x U).trans J) h) hd
def zl1{x:Str}{v:V}{u:Value}{pos:Pos}(J:Gl X x)(hm:X.mg x=some u)(r:zbD v u)(hd:autoParam ((x==("__debug__":Str))=false) yAR):PE X (.Name x pos) (tC v):=
 fun _ _ _ H _ I h=>zfm I J hm ⟨v,H,I,r,h⟩ hd
def zl5{x:Str}{v:V}{u:Value}{pos:Pos}(hg:Gl X x)(hm:X.mg x=none)(J:bootBuiltins x=some u)(r:zbD v u)(U:autoParam (x ≠ "__name__") yAR)(hd:autoParam ((x==("__debug__":Str))=false) yAR):PE X (.Name x pos) (tC v):=
 fun _ _ _ H _ I h=>ze4 I hg hm J ⟨v,H,I,r,h⟩ U hd
variable{a b:Expr}{ta tb:TE}{pos:Pos}
noncomputable def tB(t:TE):TT:=fun σ H Q=>t σ H fun x H1=>∃c,x=.bl c/\Q c H1
def ztf{e:Expr}{t:TE}(h:PE X e t)(he:autoParam (∀whole,isTrue e X.env whole=(do let v ← whole;standAt e.pos;holding [v] (truthy v))) yAU):PT X e (tB t):=by
 intro pins s σ H Q I b;refine isTrue_plain (thn (h pins s σ H _ I b) fun v s1 ⟨x,H1,c,r1,a⟩=>?_) (he _);obtain⟨d,rfl,q⟩:=a;cases r1;exact ybm ⟨H1,c,q⟩
variable{tA tB':TT}{zcV:List Expr}
noncomputable def zxy(t u:TT):TT:=fun σ H Q=>t σ H fun c H1=>if c=true then u σ H1 Q else Q false H1
noncomputable def tOr(t u:TT):TT:=fun σ H Q=>t σ H fun c H1=>if c=true then Q true H1 else u σ H1 Q
noncomputable def zxw(t:TT):TT:=fun σ H Q=>t σ H fun c H1=>Q (!c) H1
def zqB(J:PT X a tA):PW X (.BoolOp .And [a] pos) tA:=by
 intro b pins s σ H Q I h;refine isTrue_and (thn (J pins s σ H Q I h) fun c s1 e=>?_)
 cases c with
 |true=>exact isTrue_and_nil e|false=>exact e
def ztc(J:PT X a tA):PW X (.BoolOp .Or [a] pos) tA:=by
 intro b pins s σ H Q I h;refine isTrue_or (thn (J pins s σ H Q I h) fun c s1 e=>?_)
 cases c with
 |false=>exact isTrue_or_nil e|true=>exact e
def ztd(U:PT X a tA)(J:PW X (.BoolOp .And (b::zcV) pos) tB'):PW X (.BoolOp .And (a::b::zcV) pos) (zxy tA tB'):=by
 intro f pins s σ H Q I h;refine isTrue_and (thn (U pins s σ H _ I h) fun c s1 ⟨H1,e,d⟩=>?_)
 cases c with
 |true=>exact J f pins s1 σ H1 Q e d|false=>exact⟨H1,e,d⟩
def zvZ(U:PT X a tA)(J:PW X (.BoolOp .Or (b::zcV) pos) tB'):PW X (.BoolOp .Or (a::b::zcV) pos) (tOr tA tB'):=by
 intro f pins s σ H Q I h;refine isTrue_or (thn (U pins s σ H _ I h) fun c s1 ⟨H1,e,d⟩=>?_)
 cases c with
 |true=>exact⟨H1,e,d⟩|false=>exact J f pins s1 σ H1 Q e d
def ztg(J:PT X a tA):PT X (.UnaryOp .Not a pos) (zxw tA):=by
 intro pins s σ H Q I h;exact isTrue_not (J pins s σ H (fun c H1=>Q (!c) H1) I h)
noncomputable def zvN(ta tb:TE):TE:=fun σ H Q=>ta σ H fun x H1=>∃c,x=.bl c/\if c=true then tb σ H1 Q else Q (.bl false) H1
noncomputable def zy4(ta tb:TE):TE:=fun σ H Q=>ta σ H fun x H1=>∃c,x=.bl c/\if c=true then Q (.bl true) H1 else tb σ H1 Q
noncomputable def zvG(ta:TE):TE:=fun σ H Q=>ta σ H fun x H1=>∃c,x=.bl c/\Q (.bl (!c)) H1
def zty{op}(h:PE X a t):PE X (.BoolOp op [a] pos) t:=fun pins s σ H Q I b=>BoolOp_one (h pins s σ H Q I b)
def ztD(U:PE X a ta)(J:PE X (.BoolOp .And (b::zcV) pos) tb):PE X (.BoolOp .And (a::b::zcV) pos) (zvN ta tb):=by
 intro pins s σ H Q I h;refine BoolOp_and (thn (U pins s σ H _ I h) fun v s1 ⟨x,H1,e,r1,d⟩=>?_);obtain⟨c,rfl,d⟩:=d;cases r1;refine ybm ?_
 cases c with
 |true=>exact J pins s1 σ H1 Q e d|false=>exact⟨.bl false,H1,e,rfl,d⟩
def zv4(U:PE X a ta)(J:PE X (.BoolOp .Or (b::zcV) pos) tb):PE X (.BoolOp .Or (a::b::zcV) pos) (zy4 ta tb):=by
 intro pins s σ H Q I h;refine BoolOp_or (thn (U pins s σ H _ I h) fun v s1 ⟨x,H1,e,r1,d⟩=>?_);obtain⟨c,rfl,d⟩:=d;cases r1;refine ybm ?_
 cases c with
 |false=>exact J pins s1 σ H1 Q e d|true=>exact⟨.bl true,H1,e,rfl,d⟩
def ztz(J:PE X a ta):PE X (.UnaryOp .Not a pos) (zvG ta):=by
 intro pins s σ H Q I h;refine UnaryOp_ (thn (J pins s σ H _ I h) fun v s1 ⟨x,H1,d,r1,b⟩=>?_);obtain⟨c,rfl,b⟩:=b;cases r1;exact not_of (ybm ⟨.bl (!c),H1,d,rfl,b⟩)
noncomputable def tIf(t:TT)(ta tb:TE):TE:=fun σ H Q=>t σ H fun c H1=>if c=true then ta σ H1 Q else tb σ H1 Q
def zoa(J:PT X c tA)(ha:PE X a ta)(U:PE X b tb):PE X (.IfExp c a b pos) (tIf tA ta tb):=by
 intro pins s σ H Q I h;refine wpAny_IfExp (thn (J pins s σ H _ I h) fun d s1 ⟨H1,f,e⟩=>?_)
 cases d with
 |true=>exact ha pins s1 σ H1 Q f e|false=>exact U pins s1 σ H1 Q f e
end
noncomputable def SqL(K:PySem.W.Frag)(H:Hp)(a:Addr)(xs:List V):Prop:=
 Rd H a (.lst xs) ∨
  ∃(o:Obj) (b:Array Value) (n:Nat),K.lookup a=some o/\o.cls=.type "list" /\ o.dict=none/\o.data=.seq b n/\b.size<=sizeLine/\Vals xs b.toList
noncomputable def SqT(K:PySem.W.Frag)(H:Hp)(a:Addr)(xs:List V):Prop:=
 Rd H a (.tup xs) ∨
  ∃(o:Obj) (b:Array Value) (n:Nat),K.lookup a=some o/\o.cls=.type "tuple" /\ o.data=.seq b n/\b.size<=sizeLine/\Vals xs b.toList
noncomputable def zAn:Value->Option V
 |.none=>some .non|.bool b=>some (.bl b)|.int i _=>some (.int i)|.str x _=>some (.str x)|.bytes b _=>some (.byt b)|.float b _=>some (.flt b)|.ref a=>some (.ref a)|.type n=>some (.ty n)|_=>none
def zbD.abs(r:zbD x u):zAn u=some x:=by
 cases x with
 |non=>cases r;rfl|bl _=>cases r;rfl|int _=>obtain⟨t,rfl⟩:=r;rfl|str _=>obtain⟨t,rfl⟩:=r;rfl|byt _=>obtain⟨t,rfl⟩:=r;rfl|flt _=>obtain⟨t,rfl⟩:=r;rfl|ref _=>cases r;rfl|ty _=>cases r;rfl
theorem zbD.inj(r:zbD x u)(q:zbD y u):x=y:=Option.some.inj (r.abs.symm.trans q.abs)
theorem Vals.inj:∀{xs ys:List V}{us:List Value},Vals xs us->Vals ys us->xs=ys
 |_,_,_,.nil,.nil=>rfl|_,_,_,.cons r t,.cons r' t'=>by rw[r.inj r',Vals.inj t t']
section
variable{X:Cx}{pins:Z3}{σ:St}{H:Hp}{s:Shared}{a:Addr}{xs ys:List V}
def SqL.of{K:PySem.W.Frag}(h:H a=some (.lst xs)):SqL K H a xs:=.inl (.inl h)
def SqT.of{K:PySem.W.Frag}(h:H a=some (.tup xs)):SqT K H a xs:=.inl (.inl h)
theorem Inv.list(I:Inv X pins σ H s)(h:SqL X.K H a xs):∃J:List Value,Vals xs J/\PlainL s.heap a J.toArray/\xs.length<=sizeLine:=by
 rcases h with h|⟨o,J,n,b,c,hd,hs,d,r⟩
 ·obtain⟨z,J,n,r,e⟩:=h.ok I.hok;exact⟨J,r,⟨_,n,e,rfl,rfl,rfl⟩,z⟩
 ·refine⟨J.toList,r,⟨o,n,I.kIn a o b,c,hd,by simpa using hs⟩,?_⟩;have e:=r.length;simp only[ybd]at e;omega
def Inv.tuple(I:Inv X pins σ H s)(h:SqT X.K H a xs):∃J:List Value,Vals xs J/\IsTup s.heap a J.toArray/\xs.length<=sizeLine:=by
 rcases h with h|⟨o,J,n,b,c,hs,d,r⟩
 ·obtain⟨z,J,r,p⟩:=h.ok I.hok;exact⟨J,r,p,z⟩
 ·refine⟨J.toList,r,⟨o,I.kIn a o b,c,n,by simpa using hs⟩,?_⟩;have e:=r.length;simp only[ybd]at e;omega
def Inv.list_inj(I:Inv X pins σ H s)(h:SqL X.K H a xs)(h':SqL X.K H a ys):xs=ys:=by
 obtain⟨b,r,⟨o,n,e,_,_,d⟩,_⟩:=I.list h;obtain⟨ai,r',⟨o',f,c,_,_,d'⟩,_⟩:=I.list h';rw[e]at c;cases c;rw[d]at d'
 injection d' with d1 _
 have:b=ai:=by simpa using congrArg Array.toList d1
 subst this;exact r.inj r'
def Inv.tuple_inj(I:Inv X pins σ H s)(h:SqT X.K H a xs)(h':SqT X.K H a ys):xs=ys:=by
 obtain⟨b,r,⟨o,e,_,n,d⟩,_⟩:=I.tuple h;obtain⟨ai,r',⟨o',c,_,f,d'⟩,_⟩:=I.tuple h';rw[e]at c;cases c;rw[d]at d'
 injection d' with d1 _
 have:b=ai:=by simpa using congrArg Array.toList d1
 subst this;exact r.inj r'
end
section
variable{X:Cx}{st:Stmt}{zcV:List Stmt}{t u:TS}{e:Expr}{te:TE}{pos:Pos}
noncomputable def zvH:TS:=fun D σ H=>D.nx σ H
noncomputable def zy1(t u:TS):TS:=fun D σ H=>t {D with nx:=u D} σ H
def zqD:PSs X [] zvH:=fun _ _ σ H _ I h=>ycy ⟨σ,H,I,h⟩
def znR(h1:PS X st t)(h2:PSs X zcV u):PSs X (st::zcV) (zy1 t u):=by
 intro pins s σ H D I h;refine wpAny_execs_cons (thn (h1 pins s σ H {D with nx:=u D} I h) fun f s1 q=>?_)
 cases f with
 |next=>
  obtain⟨a,H',b,q⟩:=q;exact h2 pins s1 a H' D b q
 |ret v=>exact q|brk=>exact q|cont=>exact q
def zqC(h1:PS X st t):PSs X [st] t:=by
 intro pins s σ H D I h;refine wpAny_execs_cons (thn (h1 pins s σ H D I h) fun f s1 q=>?_)
 cases f with
 |next=>exact ycy q|ret v=>exact q|brk=>exact q|cont=>exact q
noncomputable def zso:TS:=fun D σ H=>D.bk σ H
def znU:PS X (.Break pos) zso:=fun _ _ σ H _ I h=>wpAny_Break ⟨σ,H,I,h⟩
def Inv.quiet(I:Inv X pins σ H s):interactive X.env=false:=by simp[interactive,I.ok.kind]
noncomputable def zvL(te:TE):TS:=fun D σ H=>te σ H fun _ H1=>D.nx σ H1
def zf4(he:PE X e te)(hs:autoParam (swapsWith e none pos.line X.env=pure false) yAW):PS X (.Expr e pos) (zvL te):=by
 intro pins s σ H D I h;exact wpAny_Expr_any (thn (he pins s σ H _ I h) fun v s1 ⟨x,H1,b,r1,a⟩=>⟨σ,H1,b,a⟩) I.quiet hs
noncomputable def zy3(te:TE):TS:=fun D σ H=>te σ H D.rt
def zlJ(he:PE X e te):PS X (.Return (some e) pos) (zy3 te):=by
 intro pins s σ H D I h;exact wpAny_Return_some (thn (he pins s σ H _ I h) fun v s1 ⟨x,H1,b,r1,a⟩=>⟨x,σ,H1,b,r1,a⟩)
noncomputable def zy6(c:TT)(t u:TS):TS:=fun D σ H=>c σ H fun b H1=>if b=true then t D σ H1 else u D σ H1
def zv1(J:PT X c tc)(ha:PSs X a t)(U:PSs X b u):PS X (.If c a b pos) (zy6 tc t u):=by
 intro pins s σ H D I h;refine wpAny_If (thn (J pins s σ H _ I h) fun d s1 ⟨H1,f,e⟩=>?_)
 cases d with
 |true=>exact ha pins s1 σ H1 D f e|false=>exact U pins s1 σ H1 D f e
end
noncomputable abbrev TG:=V->St->Hp->(St->Hp->Prop)->Prop
noncomputable abbrev TGs:=List V->St->Hp->(St->Hp->Prop)->Prop
noncomputable def PG(X:Cx)(target:Expr)(t:TG):Prop:=
 ∀(pins:Z3) (s:Shared) (σ:St) (H:Hp) (v:V) (u:Value) (Q:St->Hp->Prop),Inv X pins σ H s->zbD v u->t v σ H Q →
  wpAny (model X.prog X.w) X.A (assign target X.env u) (fun _ s'=>∃a H',Inv X pins a H' s'/\Q a H') X.xe s
noncomputable def PGs(X:Cx)(ts:List Expr)(t:TGs):Prop:=
 ∀(pins:Z3) (s:Shared) (σ:St) (H:Hp) (vs:List V) (us:List Value) (Q:St->Hp->Prop),Inv X pins σ H s->Vals vs us->t vs σ H Q →
  wpAny (model X.prog X.w) X.A (assignInOrder ((assignEach ts X.env).map (·.2)) us) (fun _ s'=>∃a H',Inv X pins a H' s'/\Q a H') X.xe s
noncomputable abbrev TSet:=V->V->V->Hp->(Hp->Prop)->Prop
noncomputable def zwY(X:Cx)(t:TSet):Prop:=
 ∀(pins:Z3) (s:Shared) (σ:St) (H:Hp) (o i v:V) (ov a u:Value) (Q:Hp->Prop),Inv X pins σ H s->zbD o ov->zbD i a->zbD v u->t o i v H Q →
  wpAny (model X.prog X.w) X.A (setItem ov a u) (fun _ s'=>∃H',Inv X pins σ H' s'/\Q H') X.xe s
noncomputable abbrev TIp:=V->V->Hp->VK->Prop
noncomputable def PIp(X:Cx)(op:Operator)(t:TIp):Prop:=
 ∀(pins:Z3) (s:Shared) (σ:St) (H:Hp) (x y:V) (v u:Value) (Q:VK),Inv X pins σ H s->zbD x v->zbD y u->t x y H Q →
  wpAny (model X.prog X.w) X.A (inplaceOp op v u) (EP X pins σ Q) X.xe s
section
variable{X:Cx}{pos:Pos}
noncomputable def zkF(i:Nat):TG:=fun v σ H Q=>Q (σ.set i (some v)) H
def zlW(U:X.N.Nodup)(hi:X.N[i]?=some x)(J:Loc X.env.scope x)(hf:X.fn x=true\/X.env.scope.names.lookup x=some .local):PG X (.Name x pos) (zkF i):=by
 intro pins s σ H v u Q I r h;exact wpAny_assign_Name (zdt I U hi J r (fun s' a=>⟨_,H,a,h⟩) hf)
noncomputable def zz9:TGs:=fun vs σ H Q=>vs=[]/\Q σ H
noncomputable def zwB(t:TG)(u:TGs):TGs:=fun vs σ H Q=>∃v r,vs=v::r/\t v σ H fun a H'=>u r a H' Q
def zqN:PGs X [] zz9:=by
 intro pins s σ H vs us Q I r h;obtain⟨e,h⟩:=h;subst e;cases r;exact assignInOrder_nil ⟨σ,H,I,h⟩
def zn2{e:Expr}{es:List Expr}{t:TG}{u:TGs}(h1:PG X e t)(h2:PGs X es u)
  (hs:autoParam ((assignEach (e::es) X.env).map (·.2)=assign e X.env::(assignEach es X.env).map (·.2)) yAW):PGs X (e::es) (zwB t u):=by
 intro pins s σ H vs us Q I r h;obtain⟨v,g,d,h⟩:=h;subst d
 cases r with
 |cons r b=>
  rw[hs];refine ydf (thn (h1 pins s σ H _ _ _ I r h) fun _ s1 ⟨a,H1,f,c⟩=>?_);exact h2 pins s1 a H1 _ _ Q f b c
noncomputable def zz7(K:PySem.W.Frag)(n:Nat)(t:TGs):TG:=fun v σ H Q=>∃a xs,v=.ref a/\SqT K H a xs/\xs.length=n/\t xs σ H Q
def ztr{es:List Expr}{k:Nat}{t:TGs}{n:Nat}(hc:X.calm=true)(h:PGs X es t)
  (U:autoParam ((assignEach es X.env).length=n) yAW) (J:autoParam ((assignEach es X.env).findIdx? (·.1)=none) yAW):PG X (.Tuple es k pos) (zz7 X.K n t):=by
 intro pins s σ H v u Q I r c;obtain⟨a,xs,l,i,j,c⟩:=c;subst l;cases r;obtain⟨f,d,ht,p⟩:=I.tuple i;refine assign_Tuple_tuple (I.ok.hd hc) ht (by simp[U,<-j,d.length]) J fun h' g=>?_
 have m:Inv X pins σ H {s with heap:=h'}:=I.kept (t':=s.toks) fun b o e=>g b o (yaA (yap e)) e
 exact h pins _ σ H xs _ Q m (by simpa using d) c
noncomputable def zz8(to ti:TE)(t:TSet):TG:=fun v σ H Q=>to σ H fun o H1=>ti σ H1 fun i H2=>t o i v H2 fun a=>Q σ a
def zpo{o i:Expr}{to ti:TE}{t:TSet}(ho:PE X o to)(hi:PE X i ti)(hs:zwY X t)
  (U:autoParam (∀v,assign (.Subscript o i pos) X.env v=(do
   let ov ← holding [v] (eval o X.env)
   let J ← holding [v,ov] (eval i X.env)
   standAt pos
   holding [v,ov,J] (setItem ov J v)
   release [v,ov,J] [])) yAU):PG X (.Subscript o i pos) (zz8 to ti t):=by
 intro pins s σ H v u Q I r h;rw[U];refine yaa (ybC (thn (ho pins s σ H _ I h) fun ov s1 ⟨x,H1,g,r1,d⟩=>?_));refine yaa (ybC (thn (hi pins s1 σ H1 _ g d) fun J s2 ⟨y,H2,f,a,c⟩=>?_));refine yaa (ydu (yaa (ybC (thn (hs pins s2 σ H2 x y v ov J u _ f r1 a r c) fun _ s3 ⟨j,e,b⟩=>?_))));exact wpAny_release ⟨σ,j,e,b⟩
noncomputable def zp4(te:TE)(g:TG):TS:=fun D σ H=>te σ H fun x H1=>g x σ H1 D.nx
def zlM{tg e:Expr}{te:TE}{g:TG}(he:PE X e te)(J:PG X tg g)(hs:autoParam (swapsWithSole [tg] e pos.line X.env=pure false) yAW)(hw:autoParam (swappedStores [tg] e X.env=pure none) yAW)
  (h1:autoParam ((assignEach [tg] X.env).map (·.2)=[assign tg X.env]) yAW):PS X (.Assign [tg] e pos) (zp4 te g):=by
 intro pins s σ H D I h;refine wpAny_Assign_stores (thn (he pins s σ H _ I h) fun v s1 ⟨x,H1,b,r1,a⟩=>?_) hs hw;rw[h1];exact thn (J pins s1 σ H1 x v _ b r1 a) fun _ s2 q=>q
def zjC{i:Nat}{x:Str}{e:Expr}{te:TE}{pos':Pos}(U:X.N.Nodup)(hi:X.N[i]?=some x)(J:Loc X.env.scope x)(he:PE X e te)(hs:autoParam (swapsWith e (some (.Name x pos')) pos.line X.env=pure false) yAW)(hf:X.fn x=true\/X.env.scope.names.lookup x=some .local):
  PS X (.Assign [.Name x pos'] e pos) (zp4 te (zkF i)):=by
 intro pins s σ H D I h;refine wpAny_Assign_Name (thn (he pins s σ H _ I h) fun v s1 ⟨y,H1,c,r1,a⟩=>?_) hs;exact zdt c U hi J r1 (fun s2 b=>⟨_,H1,b,a⟩) hf
noncomputable def zxv(i j:Nat)(ta:TA):TS:=fun D σ H=>ta σ H fun vs H1=>∃v w,vs=[v,w]/\D.nx ((σ.set i (some v)).set j (some w)) H1
def zth{i j:Nat}{x y:Str}{a b:Expr}{ta:TA}{px py pt:Pos}{kt k2 J}(hc:X.calm=true)(hN:X.N.Nodup)(hi:X.N[i]?=some x)(hj:X.N[j]?=some y)(U:i≠j)
  (hx:X.env.scope.names.lookup x=some .local) (hy:X.env.scope.names.lookup y=some .local) (ha:PA X [a,b] ta)
  (hw:swappedStores [.Tuple [.Name x px,.Name y py] kt pt] (.Tuple [a,b] k2 J) X.env=pure (some [x,y]))
  (hs:autoParam (swapsWithSole [.Tuple [.Name x px,.Name y py] kt pt] (.Tuple [a,b] k2 J) pos.line X.env=pure false) yAW):
  PS X (.Assign [.Tuple [.Name x px,.Name y py] kt pt] (.Tuple [a,b] k2 J) pos) (zxv i j ta):=by
 intro pins s σ H D I h;rw[exec_Assign_arm];refine yaa (ydu ?_);rw[hs];refine yaa (yaf ?_);rw[if_neg (by decide)];refine yaa (Tuple_ (thn (ha _ pins s σ H _ I h) fun us s1 ⟨vs,H1,C,r1,g⟩=>?_));obtain⟨v,w,t,g⟩:=g;subst t
 obtain⟨d,c,rfl,m,f⟩:∃d c,us=[d,c]/\zbD v d/\zbD w c:=by
  cases r1 with
  |cons p q=>
   cases q with
   |cons r n=>
    cases n;exact⟨_,_,rfl,p,r⟩
 refine yaU ?_ (by show 2<=sizeLine;decide);have B:Inv X pins σ H1 {s1 with heap:=s1.heap.push {cls:=.type "tuple",data:=.seq [d,c].toArray}}:=C.kept (t':=s1.toks) fun b o e=>yae _ e
 rw[hw];refine yaa (yaf ?_);show wpAny (model X.prog X.w) X.A (do rule "assign.swapped-stores";let items ← unpackItems (.ref s1.heap.objs.size) 2 none;assignInOrder [fun v=>bindName X.env y v,fun v=>bindName X.env x v] items.reverse;pure Flow.next) _ _ _;refine yaa (ydo (yaa (unpackItems_tuple (items:=#[d,c]) (I.ok.hd hc) (IsTup.new s1.heap _) fun h' k=>?_)));have z:=B.kept (h':=h') (t':=s1.toks) fun b o e=>k b o (yaA (yap e)) e
 show wpAny _ _ (assignInOrder [fun v=>bindName X.env y v,fun v=>bindName X.env x v] [c,d] >>= fun _=>pure Flow.next) _ _ _;refine yaa (ydf (wpAny_bindName (zdt z hN hj (.inl hy) f (fun s2 u=>?_) (.inr hy))));refine ydf (wpAny_bindName (zdt u hN hi (.inl hx) m (fun s3 l=>assignInOrder_nil (yaf ?_)) (.inr hx)));rw[List.set_comm _ _ (Ne.symm U)]at l;exact⟨_,H1,l,g⟩
noncomputable def zy9(i:Nat)(te:TE)(ti:TIp):TS:=fun D σ H=>∃x,σ[i]?=some (some x)/\te σ H fun y H1=>ti x y H1 fun z H2=>D.nx (σ.set i (some z)) H2
def ztj{i:Nat}{x:Str}{e:Expr}{te:TE}{op:Operator}{ti:TIp}{pos':Pos}(U:X.N.Nodup)(hi:X.N[i]?=some x)(J:Loc X.env.scope x)(he:PE X e te)(ho:PIp X op ti)(hf:X.fn x=true\/X.env.scope.names.lookup x=some .local:=by first|exact .inl rfl|exact .inr rfl|assumption):
  PS X (.AugAssign (.Name x pos') op e pos) (zy9 i te ti):=by
 intro pins s σ H D I h;obtain⟨v,t,h⟩:=h;obtain⟨m,o,p⟩:=I.loc
 have vis:Vis X.env.scope x:=by rcases J with k|k;exact .inl k;exact .inr (.inl k)
 obtain⟨u,r,l⟩:=p i x v hi t vis;refine wpAny_AugAssign_Name ?_
 have go:wpAny (model X.prog X.w) X.A (eval e X.env) (fun w f=>wpAny (model X.prog X.w) X.A (inplaceOp op u w) (fun r d=>wpAny (model X.prog X.w) X.A (storeName X.env x r) (fun _=>SP X pins D .next) X.xe d) X.xe f) X.xe s:=by
  refine thn (he pins s σ H _ I h) fun w s1 ⟨y,H1,E,r1,n⟩=>?_
  refine thn (ho pins s1 σ H1 v y u w _ E r r1 n) fun z s2 ⟨F,H2,C,g,j⟩=>?_
  exact zdt C U hi J g (fun s3 B=>⟨_,H2,B,j⟩) hf
 rcases l with⟨a,hm⟩|⟨a,c,q,b⟩
 ·exact wpAny_loadName_local I.ok.kind a o hm go
 ·rcases a with a|a
  ·exact wpAny_loadName_cell I.ok.kind a q b go
  ·rcases J with k|k
   ·have:X.env.scope.names.lookup x=some .free:=a;rw[k]at this;cases this
   ·have:X.env.scope.names.lookup x=some .free:=a;rw[k]at this;cases this
end
section
variable{X:Cx}{pos:Pos}
noncomputable def zsh(c:TT)(tb:TS):TS:=fun D σ H=>∃W:Nat->St->Hp->Prop,(∃m,W m σ H)/\∀m σ H,W m σ H →
 c σ H fun b H1=>if b=true then ∃N:St->Hp->Prop,(∀a H',N a H'->∃d,d<m/\W d a H')/\tb {D with nx:=N,ct:=N,bk:=D.nx} σ H1 else D.nx σ H1
def znS(J:PassesOwn (model X.prog X.w) X.A X.env X.xe)(U:PT X c tc)(hb:PSs X body tb):PS X (.While c body [] pos) (zsh tc tb):=by
 intro pins s σ H D I h;obtain⟨W,⟨m0,u⟩,g⟩:=h;refine wpAny_While (codeAny_whileLoop (fun n s'=>∃e H',Inv X pins e H' s'/\W n e H') ?_ m0 ⟨σ,H,I,u⟩);rintro n s1 ⟨d,H1,x,t⟩;refine ybO J (thn (U pins s1 d H1 _ x (g n d H1 t)) fun b s2 ⟨H2,r,k⟩=>?_)
 cases b with
 |true=>
  obtain⟨N,q,k⟩:=k;rw[if_pos rfl];refine ybO J (thn (hb pins s2 d H2 _ r k) fun f s3 j=>?_)
  cases f with
  |next=>
   obtain⟨a,i,p,m⟩:=j;obtain⟨o,hm,l⟩:=q a i m;exact⟨o,hm,a,i,p,l⟩
  |cont=>
   obtain⟨a,i,p,m⟩:=j;obtain⟨o,hm,l⟩:=q a i m;exact⟨o,hm,a,i,p,l⟩
  |brk=>exact j|ret v=>exact j
 |false=>
  rw[if_neg yaR];exact ycy ⟨d,H2,r,k⟩
end
structure It where
 go:Nat->Hp->Prop
 yld:Nat->Hp->V->Hp->Prop
 stop:Nat->Hp->Prop
noncomputable def zne(X:Cx)(pins:Z3)(H:Hp)(b:Addr):Prop:=
 H b=none/\b≠X.env.locals/\b ∉ X.fs/\(b∈X.ex\/X.s₀.heap.objs.size<=b)/\(∀x c,X.env.cells.lookup x=some c->c≠b)/\∀p∈X.pn++pins,p.1≠b
def Inv.fpOk(I:Inv X pins σ H s)(J:s.heap.objs.size<=b)(U:H' b=none):zne X pins H' b:=by
 refine⟨U,yaO (yam I.lt J),I.nofs J,.inr (yal I.sz J),fun x c e z=>?_,fun p a z=>?_⟩
 ·obtain⟨v,q⟩:=I.cell x c e;exact absurd (yam q.lt (by rw[z];exact J)) (ya6 _)
 ·exact absurd (yam (yap (I.pin p a).1) (by rw[z];exact J)) (ya6 _)
structure Turn(P:Program)(w:World)(K:PySem.W.Frag)(tg:Expr)(J:It)(fp:List Addr)(it:Addr)(tn:Nat->Heap->Prop):Prop where
 mem:it∈fp
 obj:∀i h,tn i h->∀b∈fp,∃o,h.get? b=some o/\∀v,o.data≠.cell v
 keep:∀i h h',tn i h->(∀b∈fp,∀o,h.get? b=some o->h'.get? b=some o)->tn i h'
 item:∀(X:Cx),X.prog=P->X.w=w->X.K=K->X.calm=true->∀(i:Nat) (pins:Z3) (s:Shared) (σ:St) (H:Hp) (E:Z5),Inv X pins σ H s->(∀b∈fp,zne X pins H b)->tn i s.heap->J.go i H →
  wpAny (model P w) X.A (pyNext (.ref it)) (fun r s1=>∃u,r=some u ∧
   wpAny (model P w) X.A (letOwnedTupleGo tg (.ref it) u) (fun _ s2=>∃x H',Inv X pins σ H' s2/\zbD x u/\J.yld i H x H'/\tn (i+1) s2.heap/\∀b∈fp,H' b=none) E s1) E s
 done:∀(X:Cx),X.prog=P->X.w=w->X.K=K->X.calm=true->∀(i:Nat) (pins:Z3) (s:Shared) (σ:St) (H:Hp) (E:Z5),Inv X pins σ H s->(∀b∈fp,zne X pins H b)->tn i s.heap->J.stop i H →
  wpAny (model P w) X.A (pyNext (.ref it)) (fun r s1=>r=none/\Inv X pins σ H s1) E s
 self:∀(A:Around) (i:Nat) (s:Shared) (Q:Z5) (E:Z5),tn i s.heap->Q (.ref it) s->wpAny (model P w) A (pyIter (.ref it)) Q E s
noncomputable abbrev TI:=St->Hp->(It->Hp->Prop)->Prop
noncomputable def PIE(X:Cx)(pins:Z3)(σ:St)(tg:Expr)(R:It->Hp->Prop)(I:Value)(s2:Shared):Prop:=
 ∃(it:Addr) (fp:List Addr) (a:Nat->Heap->Prop) (J:It) (H':Hp),I=.ref it/\Inv X pins σ H' s2/\Turn X.prog X.w X.K tg J fp it a/\a 0 s2.heap/\(∀b∈fp,zne X pins H' b)/\R J H'
noncomputable def PI(X:Cx)(tg iter:Expr)(wi:TI):Prop:=
 ∀(pins:Z3) (s:Shared) (σ:St) (H:Hp) (R:It->Hp->Prop),Inv X pins σ H s->wi σ H R →
  wpAny (model X.prog X.w) X.A (eval iter X.env) (fun v s1=>wpAny (model X.prog X.w) X.A (pyIter v) (PIE X pins σ tg R) X.xe s1) X.xe s
def zoK (ho : s.heap.get? it=some o) (U : o.cls=.type n) (hd : o.data=.fields vs)
    (J : ["enumerate", "zip", "dict_itemiterator", "dict_reverseitemiterator", "odict_iterator", "itertools.zip_longest", "itertools.pairwise"].contains n=false) (I : Q () s): wpAny M A (letOwnedTupleGo tg (.ref it) u) Q E s:= by
  unfold letOwnedTupleGo
  cases tg <;> first
    |exact yaf I
    | (cases u <;> first
        |exact yaf I
        | (refine yaa (wpAny_load ho ?_)
           rw[U, hd];show wpAny M A (if(["enumerate", "zip", "dict_itemiterator", "dict_reverseitemiterator", "odict_iterator", "itertools.zip_longest", "itertools.pairwise"].contains n && vs[0]?==some (rawInt _))=true then _ else _) Q E s;rw[if_neg (by intro h; rw[J, Bool.false_and]at h; cases h)]
           exact yaf I))
noncomputable def Itl(K:PySem.W.Frag)(a:Addr):It:=
 ⟨fun i H=>∃xs x,SqL K H a xs/\xs[i]?=some x,fun i H x H'=>H'=H/\∀xs,SqL K H a xs->xs[i]?=some x,fun i H=>∃xs,SqL K H a xs/\xs.length<=i⟩
noncomputable def Itt(K:PySem.W.Frag)(a:Addr):It:=
 ⟨fun i H=>∃xs x,SqT K H a xs/\xs[i]?=some x,fun i H x H'=>H'=H/\∀xs,SqT K H a xs->xs[i]?=some x,fun i H=>∃xs,SqT K H a xs/\xs.length<=i⟩
noncomputable def Itr(lo:Int)(n:Nat):It:=⟨fun i _=>i<n,fun i H x H'=>H'=H/\x=.int (lo+i),fun i _=>n<=i⟩
theorem zk5{P:Program}{K:PySem.W.Frag}(a it:Addr):Turn P w K tg (Itl K a) [it] it (fun i h=>h.IsListIter it a i)where
 mem:=by simp
 obj:=fun i h st b f=>by
  have e:b=it:=by simpa using f
  subst e;obtain⟨o,e,c,d⟩:=st;exact⟨o,e,fun v z=>by rw[d]at z;cases z⟩
 keep:=fun i h h' st k=>st.at fun o e=>k it (by simp) o e
 item:=by
  intro X t q y F i pins s σ H E I hf st r;subst t q y;obtain⟨xs,x,j,n⟩:=r;obtain⟨m,l,p,L⟩:=I.list j;obtain⟨u,N,J⟩:=l.get n;obtain⟨D,f1,f2,C,B,A⟩:=hf it (by simp);refine wpAny_pyNext_list_item st p.isList (x:=u) (by simpa using N) fun h' g G=>?_
  have Q:Inv X pins σ H {s with heap:=h'}:=I.turned (t':=s.toks) (fun b o f e=>(G.2 b f).trans e) D f1 C B A;obtain⟨o,e,c,d⟩:=id g;exact⟨u,rfl,zoK (s:={s with heap:=h'}) e c d (by decide) ⟨x,H,Q,J,⟨rfl,fun ys M=>by rw[I.list_inj M j];exact n⟩,g,fun b f=>(hf b f).1⟩⟩
 done:=by
  intro X t q y F i pins s σ H E I hf st r;subst t q y;obtain⟨xs,j,n⟩:=r;obtain⟨m,l,p,L⟩:=I.list j;obtain⟨D,f1,f2,C,B,A⟩:=hf it (by simp);have R:=l.length;exact wpAny_pyNext_list_end (I.ok.hd F) st p.isList (by simp;omega) fun h' O=>⟨rfl,I.turned (t':=s.toks) (fun b o f e=>O b o f e) D f1 C B A⟩
 self:=fun _ _ _ _ _ st h=>wpAny_pyIter_listiter st h
def zkg{P:Program}{K:PySem.W.Frag}(a it:Addr):Turn P w K tg (Itt K a) [it] it (fun i h=>h.IsTupleIter it a i)where
 mem:=by simp
 obj:=fun i h st b g=>by
  have e:b=it:=by simpa using g
  subst e;obtain⟨o,e,c,d⟩:=st;exact⟨o,e,fun v z=>by rw[d]at z;cases z⟩
 keep:=fun i h h' st k=>st.at fun o e=>k it (by simp) o e
 item:=by
  intro X t q y F i pins s σ H E I hf st r;subst t q y;obtain⟨xs,x,l,n⟩:=r;obtain⟨f,m,p,L⟩:=I.tuple l;obtain⟨u,N,J⟩:=m.get n;obtain⟨D,f1,f2,C,B,A⟩:=hf it (by simp);refine wpAny_pyNext_tuple_item st (show s.heap.IsTuple a f.toArray from p) (x:=u) (by simpa using N) fun h' j G=>?_
  have Q:Inv X pins σ H {s with heap:=h'}:=I.turned (t':=s.toks) (fun b o g e=>(G.2 b g).trans e) D f1 C B A;obtain⟨o,e,c,d⟩:=id j;exact⟨u,rfl,zoK (s:={s with heap:=h'}) e c d (by decide) ⟨x,H,Q,J,⟨rfl,fun ys M=>by rw[I.tuple_inj M l];exact n⟩,j,fun b g=>(hf b g).1⟩⟩
 done:=by
  intro X t q y F i pins s σ H E I hf st r;subst t q y;obtain⟨xs,l,n⟩:=r;obtain⟨f,m,p,L⟩:=I.tuple l;obtain⟨D,f1,f2,C,B,A⟩:=hf it (by simp);have R:=m.length;exact wpAny_pyNext_tuple_end (I.ok.hd F) st (show s.heap.IsTuple a f.toArray from p) (by simp;omega) fun h' O=>⟨rfl,I.turned (t':=s.toks) (fun b o g e=>O b o g e) D f1 C B A⟩
 self:=fun _ _ _ _ _ st h=>wpAny_pyIter_tupleiter st h
theorem zkh{P:Program}{K:PySem.W.Frag}(it:Addr)(lo:Int)(n:Nat):Turn P w K tg (Itr lo n) [it] it (fun i h=>IsRangeIter h it (lo+(i:Nat)*1) ((n:Int)-(i:Nat)) 1)where
 mem:=by simp
 obj:=fun i h st b a=>by
  have e:b=it:=by simpa using a
  subst e
  exact⟨_,st,fun v z=>by
   have u:Data.fields _=Data.cell v:=z
   cases u⟩
 keep:=fun i h h' st k=>k it (by simp) _ st
 item:=by
  intro X j d l g i pins s σ H E I hf st f;subst j d l;obtain⟨r,f1,f2,q,p,m⟩:=hf it (by simp);have W:=Walks.range (prog:=X.prog) (w:=X.w) (I.ok.hd g) it lo 1 n;refine W.item i s _ _ f st fun v h' tk x c kk=>?_
  obtain⟨t,rfl⟩:=x;have A:Inv X pins σ H {s with heap:=h',toks:=tk}:=I.turned (fun b o a e=>kk b o (by simpa using a) e) r f1 q p m;refine⟨_,rfl,zoK (s:={s with heap:=h',toks:=tk}) (n:="range_iterator") c rfl rfl (by decide) ⟨.int (lo+i),H,A,⟨t,?_⟩,⟨rfl,rfl⟩,c,fun b a=>(hf b a).1⟩⟩;rw[Int.mul_one]
 done:=by
  intro X j d l g i pins s σ H E I hf st f;subst j d l;obtain⟨r,f1,f2,q,p,m⟩:=hf it (by simp);exact wpAny_pyNext_range_end (I.ok.hd g) st (by have:n<=i:=f;omega) fun h' y=>⟨rfl,I.turned (t':=s.toks) (fun b o a e=>y b o a e) r f1 q p m⟩
 self:=fun _ _ _ _ _ st h=>wpAny_pyIter_rangeiter st h
section
variable{X:Cx}{tg:Expr}
noncomputable def zwA(K:PySem.W.Frag)(tl:TE):TI:=fun σ H R=>tl σ H fun x H1=>∃a,x=.ref a/\(∃xs,SqL K H1 a xs)/\R (Itl K a) H1
noncomputable def zz4(K:PySem.W.Frag)(tl:TE):TI:=fun σ H R=>tl σ H fun x H1=>∃a,x=.ref a/\(∃xs,SqT K H1 a xs)/\R (Itt K a) H1
def zlV(J:PE X l tl):PI X tg l (zwA X.K tl):=by
 intro pins s σ H R I h;refine thn (J pins s σ H _ I h) fun v s1 ⟨x,H1,c,r1,d⟩=>?_
 obtain⟨a,e,⟨xs,g⟩,q⟩:=d;subst e;cases r1;obtain⟨f,j,p,k⟩:=c.list g;refine ydp p.isList ?_;refine⟨s1.heap.objs.size,[s1.heap.objs.size],_,_,H1,rfl,c.kept (t':=s1.toks) fun b o e=>yae _ e,zk5 a _,⟨_,yaq _ rfl,rfl,rfl⟩,fun b i=>?_,q⟩
 have e:b=s1.heap.objs.size:=by simpa using i
 subst e;exact c.fpOk (yai _) (c.hok.fresh (yai _))
def ztq(J:PE X l tl):PI X tg l (zz4 X.K tl):=by
 intro pins s σ H R I h;refine thn (J pins s σ H _ I h) fun v s1 ⟨x,H1,c,r1,f⟩=>?_
 obtain⟨a,e,⟨xs,g⟩,q⟩:=f;subst e;cases r1;obtain⟨d,j,p,k⟩:=c.tuple g;refine yb4 (show s1.heap.IsTuple a d.toArray from p) ?_;refine⟨s1.heap.objs.size,[s1.heap.objs.size],_,_,H1,rfl,c.kept (t':=s1.toks) fun b o e=>yae _ e,zkg a _,⟨_,yaq _ rfl,rfl,rfl⟩,fun b i=>?_,q⟩
 have e:b=s1.heap.objs.size:=by simpa using i
 subst e;exact c.fpOk (yai _) (c.hok.fresh (yai _))
theorem znM{pins:Z3}{σ:St}{H:Hp}{s:Shared}{R:It->Hp->Prop}{E:Z5}{lo hi:Int}{t u v:Tok}{tk:Nat}(I:Inv X pins σ H s)(h1:-(2 ^ 62)<=lo)(h2:lo<2 ^ 62)(J:-(2 ^ 62)<=hi)(h4:hi<2 ^ 62)
  (q:R (Itr lo (hi-lo).toNat) H):wpAny (model X.prog X.w) X.A (pyIter (.ref s.heap.objs.size)) (PIE X pins σ tg R) E {s with heap:=s.heap.push {cls:=.type "range",data:=.fields #[.int lo t,.int hi u,.int 1 v]},toks:=tk}:=by
 refine wpAny_pyIter_range (IsRange.new ..) (small_one h1 h2 J h4) ?_;have a:Inv X pins σ H {s with heap:=s.heap.push {cls:=.type "range",data:=.fields #[.int lo t,.int hi u,.int 1 v]},toks:=tk}:=I.kept fun b o e=>yae _ e
 refine⟨(s.heap.push {cls:=.type "range",data:=.fields #[.int lo t,.int hi u,.int 1 v]}).objs.size,[(s.heap.push {cls:=.type "range",data:=.fields #[.int lo t,.int hi u,.int 1 v]}).objs.size],_,_,H,rfl,
  a.kept (t':=tk) fun b o e=>yae _ e,zkh _ lo (hi-lo).toNat,?_,fun b c=>?_,q⟩
 ·have f:lo+((0:Nat):Int)*1=lo:=by simp
  have d:(((hi-lo).toNat:Nat):Int)-((0:Nat):Int)=Builtin.Range.rangeSize lo hi 1:=by rw[rangeSize_one];split<;>omega
  show IsRangeIter _ _ (lo+((0:Nat):Int)*1) ((((hi-lo).toNat:Nat):Int)-((0:Nat):Int)) 1;rw[f,d];exact yaq _ rfl
 ·have e:b=(s.heap.push {cls:=.type "range",data:=.fields #[.int lo t,.int hi u,.int 1 v]}).objs.size:=by simpa using c
  subst e;exact a.fpOk (yai _) (a.hok.fresh (yai _))
noncomputable def zwz(ta:TA):TI:=fun σ H R=>ta σ H fun vs H1=>∃j:Int,vs=[.int j]/\-(2 ^ 62)<=j/\j<2 ^ 62/\R (Itr 0 j.toNat) H1
theorem zlU{a:Expr}{ta:TA}{p pos:Pos}(J:Gl X "range")(hm:X.mg "range"=none)(U:PA X [a] ta)(hs:autoParam (starEach [a] X.env=[(false,eval a X.env)]) yAW):PI X tg (.Call (.Name "range" p) [a] [] pos) (zwz ta):=by
 intro pins s σ H R I h;refine Call_ (ze4 I J hm boot_range (ya3 (thn (U pos pins s σ H _ I h) fun us s1 ⟨vs,H1,f,r1,b⟩=>?_) hs rfl));obtain⟨j,e,b,d,q⟩:=b;subst e
 cases r1 with
 |cons r c=>
  cases c;obtain⟨t,rfl⟩:=r;exact call_range_1 (znM f (by omega) (by omega) b d (by simpa using q))
noncomputable def zy7(wi:TI)(g:TG)(tb:TS):TS:=fun D σ H=>wi σ H fun J H1=>∃W:Nat->Nat->St->Hp->Prop,(∃m,W 0 m σ H1)/\∀i m σ H,W i m σ H →
 (J.stop i H/\D.nx σ H)\/(J.go i H/\∃N:St->Hp->Prop,(∀a H',N a H'->∃c,c<m/\W (i+1) c a H')/\∀x H',J.yld i H x H'->g x σ H' fun b H2=>tb {D with nx:=N,ct:=N,bk:=D.nx} b H2)
noncomputable def zia(fp:List Addr)(h:Heap):List (Addr×Obj):=fp.filterMap fun b=>(h.get? b).map fun o=>(b,o)
def zef(I:b∈fp)(e:h.get? b=some o):(b,o)∈zia fp h:=ycz.mpr ⟨b,I,by rw[e];rfl⟩
def zmd(I:p∈zia fp h):p.1∈fp/\h.get? p.1=some p.2:=by
 obtain⟨b,a,e⟩:=ycz.mp I
 cases q:h.get? b with
 |none=>rw[q]at e;cases e|some o=>
  rw[q]at e;have c:(b,o)=p:=Option.some.inj e;subst c;exact⟨a,q⟩
def Inv.pinned(I:Inv X pins σ H s)(hf:∀b∈fp,zne X pins H b)(ho:∀b∈fp,∃o,s.heap.get? b=some o/\∀v,o.data≠.cell v):Inv X (pins++zia fp s.heap) σ H s:=
 I.pins_of fun p f=>(ya8.mp f).elim (fun z=>I.pin p (yaF _ z)) fun z=>by
  obtain⟨a,e⟩:=zmd z;obtain⟨g,f1,f2,_⟩:=hf p.1 a;obtain⟨o,c,d⟩:=ho p.1 a;rw[e]at c;cases c;exact⟨e,g,f1,f2,d⟩
def Inv.unpinned(I:Inv X (pins++pl) σ H s):Inv X pins σ H s:=I.pins_of fun p a=>I.pin p (yaF _ (ybq _ a))
def zti{iter:Expr}{body:List Stmt}{wi:TI}{g:TG}{tb:TS}{pos:Pos}(hp:PassesOwn (model X.prog X.w) X.A X.env X.xe)(hc:X.calm=true)(hi:PI X tg iter wi)(hg:PG X tg g)(U:PSs X body tb)
  (hs:autoParam (∀x,foldedSetIterable iter X.env x=pure x) yAU):PS X (.For tg iter body [] pos) (zy7 wi g tb):=by
 intro pins s σ H D I h;refine wpAny_For (thn (hi pins s σ H _ I h) fun v s1 h1=>thn h1 fun a3 s2 h2=>?_) hs;obtain⟨it,fp,O,J,H2,e,I2,T,G,f2,W,⟨m0,Z⟩,y⟩:=h2;subst e;have k:∀{H':Hp},(∀b∈fp,H' b=none)->∀b∈fp,zne X pins H' b:=fun hn b U=>⟨hn b U,(f2 b U).2⟩
 refine codeAny_forLoop_any (fun n s'=>∃i j H',Inv X pins j H' s'/\O i s'.heap/\(∀b∈fp,H' b=none)/\W i n j H') ?_ m0 ⟨0,σ,H2,I2,G,fun b U=>(f2 b U).1,Z⟩;rintro n s3 ⟨i,c,E,P,z,C,Y⟩
 rcases y i n c E Y with⟨stop,qn⟩|⟨go,N,hN,step⟩
 ·refine ybO hp (thn (T.done X rfl rfl rfl hc i pins s3 c E X.xe P (k C) z stop) fun r s4 ⟨K,I4⟩=>?_);subst K;exact ycy ⟨c,E,I4,qn⟩
 ·refine ybO hp (thn (T.item X rfl rfl rfl hc i pins s3 c E X.xe P (k C) z go) fun r s4 ⟨u,K,h4⟩=>?_);subst K;refine ybO hp (thn h4 fun _ s5 ⟨x,Q,I5,r5,R,t,L⟩=>?_);have M:=I5.pinned (k L) (T.obj _ _ t);refine ybO hp (thn (hg _ s5 c Q x u _ M r5 (step x Q R)) fun _ s6 ⟨F,H6,I6,q6⟩=>?_);refine ybO hp (thn (U _ s6 F H6 _ I6 q6) fun f s7 q=>?_)
  have again:∀{a:St}{p:Hp},Inv X (pins++zia fp s5.heap) a p s7->N a p->∃m,m<n/\∃i j H',Inv X pins j H' s7/\O i s7.heap/\(∀b∈fp,H' b=none)/\W i m j H':=fun {a p} l B=>by
   obtain⟨m',hm,V⟩:=hN a p B;refine⟨m',hm,i+1,a,p,l.unpinned,T.keep _ _ _ t fun b U o e=>(l.pin (b,o) (yaF _ (yaF _ (zef U e)))).1,fun b U=>?_,V⟩;obtain⟨o,e,d⟩:=T.obj _ _ t b U;exact(l.pin (b,o) (yaF _ (yaF _ (zef U e)))).2.1
  cases f with
  |next=>obtain⟨a,p,l,B⟩:=q;exact again l B|cont=>obtain⟨a,p,l,B⟩:=q;exact again l B|brk=>obtain⟨a,p,l,q⟩:=q;exact⟨a,p,l.unpinned,q⟩|ret v=>obtain⟨S,a,p,l,r7,q⟩:=q;exact⟨S,a,p,l.unpinned,r7,q⟩
end
noncomputable abbrev R2:=V->V->Hp->VK->Prop
noncomputable def OpR(X:Cx)(f:Value->Value->Sem Value)(r:R2):Prop:=
 ∀(pins:Z3) (s:Shared) (σ:St) (H:Hp) (x y:V) (v u:Value) (Q:VK),Inv X pins σ H s->zbD x v->zbD y u->r x y H Q →
  wpAny (model X.prog X.w) X.A (f v u) (EP X pins σ Q) X.xe s
noncomputable def UnR(X:Cx)(f:Value->Sem Value)(r:V->Hp->VK->Prop):Prop:=
 ∀(pins:Z3) (s:Shared) (σ:St) (H:Hp) (x:V) (v:Value) (Q:VK),Inv X pins σ H s->zbD x v->r x H Q →
  wpAny (model X.prog X.w) X.A (f v) (EP X pins σ Q) X.xe s
noncomputable def zfi(X:Cx)(f:Value)(r:List V->Hp->VK->Prop):Prop:=
 ∀(pins:Z3) (s:Shared) (σ:St) (H:Hp) (xs:List V) (us:List Value) (Q:VK),Inv X pins σ H s->Vals xs us->r xs H Q →
  wpAny (model X.prog X.w) X.A (call f us) (EP X pins σ Q) X.xe s
noncomputable def tOp(r:R2)(ta tb:TE):TE:=fun σ H Q=>ta σ H fun x H1=>tb σ H1 fun y H2=>r x y H2 Q
noncomputable def tUn(r:V->Hp->VK->Prop)(ta:TE):TE:=fun σ H Q=>ta σ H fun x H1=>r x H1 Q
noncomputable def rI(C:Int->Int->Prop)(g:Int->Int->V):R2:=fun x y H Q=>∃i j,x=.int i/\y=.int j/\C i j/\Q (g i j) H
noncomputable def rI0(g:Int->Int->V):R2:=fun x y H Q=>∃i j,x=.int i/\y=.int j/\Q (g i j) H
noncomputable def rU(g:Int->V):V->Hp->VK->Prop:=fun x H Q=>∃i,x=.int i/\Q (g i) H
section
variable{X:Cx}{a b c:Expr}{ta tb tc:TE}{pos:Pos}
def zwP(ha:PE X a ta)(hb:PE X b tb){pins:Z3}{s:Shared}{σ:St}{H:Hp}{R:V->V->Hp->Prop}(I:Inv X pins σ H s)
  (h:ta σ H fun x H1=>tb σ H1 fun y H2=>R x y H2) {Q:Z5}{f:Value->Value->Sem Value}
  (hf:∀v u s2 x y H2,Inv X pins σ H2 s2->zbD x v->zbD y u->R x y H2->wpAny (model X.prog X.w) X.A (f v u) Q X.xe s2):
  wpAny (model X.prog X.w) X.A (eval a X.env) (fun v U=>wpAny (model X.prog X.w) X.A (eval b X.env) (fun u J=>wpAny (model X.prog X.w) X.A (f v u) Q X.xe J) X.xe U) X.xe s:=by
 refine thn (ha pins s σ H _ I h) fun v s1 ⟨x,H1,i,r1,e⟩=>?_
 refine thn (hb pins s1 σ H1 _ i e) fun u s2 ⟨y,H2,g,c,d⟩=>?_
 exact hf v u s2 x y H2 g r1 c d
def zv5(ho:OpR X (binaryOp op) r)(U:PE X a ta)(J:PE X b tb):PE X (.BinOp a op b pos) (tOp r ta tb):=by
 intro pins s σ H Q I h;exact wpAny_BinOp (zwP U J I h fun v u s2 x y H2 e d c q=>ho pins s2 σ H2 x y v u Q e d c q)
def zv3(ho:UnR X (unaryOp op) r)(J:PE X a ta):PE X (.UnaryOp op a pos) (tUn r ta):=by
 intro pins s σ H Q I h;exact UnaryOp_ (thn (J pins s σ H _ I h) fun v s1 ⟨x,H1,c,r1,b⟩=>ho pins s1 σ H1 x v Q c r1 b)
def opI{f:Value->Value->Sem Value}{C:Int->Int->Prop}{g:Int->Int->Int}
  (rule:∀(i j:Int) (t u:Tok) (s:Shared) (Q:Z5) (E:Z5),C i j->Q (.int (g i j) s.toks) {s with toks:=s.toks+1}->wpAny (model X.prog X.w) X.A (f (.int i t) (.int j u)) Q E s):
  OpR X f (rI C fun i j=>.int (g i j)):=by
 intro pins s σ H x y v u Q I b a h;obtain⟨i,j,rfl,rfl,c,q⟩:=h;obtain⟨t,rfl⟩:=b;obtain⟨t',rfl⟩:=a;exact rule i j t t' s _ _ c ⟨.int (g i j),H,I.tok _,⟨_,rfl⟩,q⟩
def zxE{f:Value->Value->Sem Value}{g:Int->Int->Int}
  (rule:∀(i j:Int) (t u:Tok) (s:Shared) (Q:Z5) (E:Z5),Q (.int (g i j) s.toks) {s with toks:=s.toks+1}->wpAny (model X.prog X.w) X.A (f (.int i t) (.int j u)) Q E s):
  OpR X f (rI0 fun i j=>.int (g i j)):=by
 intro pins s σ H x y v u Q I b a h;obtain⟨i,j,rfl,rfl,q⟩:=h;obtain⟨t,rfl⟩:=b;obtain⟨t',rfl⟩:=a;exact rule i j t t' s _ _ ⟨.int (g i j),H,I.tok _,⟨_,rfl⟩,q⟩
def zvd{f:Value->Value->Sem Value}{g:Int->Int->Bool}
  (rule:∀(i j:Int) (t u:Tok) (s:Shared) (Q:Z5) (E:Z5),Q (.bool (g i j)) s->wpAny (model X.prog X.w) X.A (f (.int i t) (.int j u)) Q E s):
  OpR X f (rI0 fun i j=>.bl (g i j)):=by
 intro pins s σ H x y v u Q I b a h;obtain⟨i,j,rfl,rfl,q⟩:=h;obtain⟨t,rfl⟩:=b;obtain⟨t',rfl⟩:=a;exact rule i j t t' s _ _ ⟨.bl (g i j),H,I,rfl,q⟩
noncomputable def zAr(i j:Int):Prop:=0<j/\j<1073741824
noncomputable def zAq(i j:Int):Prop:=0<=j/\j<=1000000/\i.natAbs<2 ^ 64
noncomputable def zwZ(i j:Int):Prop:=(-(2 ^ 64)<i/\i<2 ^ 64)\/(-(2 ^ 64)<j/\j<2 ^ 64)
def zwZ.ok(h:zwZ i j):IntMulOk i j:=by
 rcases h with⟨h1,h2⟩|⟨h1,h2⟩
 ·exact .of_left (intBits_le_64 h1 h2)
 ·exact .of_right (intBits_le_64 h1 h2)
def ztO:OpR X (binaryOp .Add) (rI0 fun i j=>.int (i+j)):=zxE fun _ _ _ _ _ _ _ q=>add_int q
def ztH:OpR X (binaryOp .Sub) (rI0 fun i j=>.int (i-j)):=zxE fun _ _ _ _ _ _ _ q=>sub_int q
def ztK:OpR X (binaryOp .Mult) (rI zwZ fun i j=>.int (i*j)):=opI fun _ _ _ _ _ _ _ a q=>mul_int q a.ok
theorem zqW:OpR X (binaryOp .FloorDiv) (rI zAr fun i j=>.int (i / j)):=opI fun i j _ _ _ _ _ a q=>by
 have h1:(0:Int)<j:=a.1;have h2:j<1073741824:=a.2;exact floordiv_int (by omega) (by rw[Int.fdiv_eq_ediv_of_nonneg i (by omega)];exact q) (.inl (PyProof.noPylong_small (by omega)))
theorem ztL:OpR X (binaryOp .Mod) (rI (fun _ j=>0<j) fun i j=>.int (i % j)):=opI fun i j _ _ _ _ _ a q=>by
 have h1:(0:Int)<j:=a;exact mod_int' (by omega) (by rw[Int.fmod_eq_emod_of_nonneg i (by omega)];exact q)
def ztJ:OpR X (binaryOp .Pow) (rI zAq fun i j=>.int (i ^ j.toNat)):=opI fun _ _ _ _ _ _ _ a q=>pow_int_small a.1 a.2.1 a.2.2 q
def unI{f:Value->Sem Value}{g:Int->Int}
  (rule:∀(i:Int) (t:Tok) (s:Shared) (Q:Z5) (E:Z5),Q (.int (g i) s.toks) {s with toks:=s.toks+1}->wpAny (model X.prog X.w) X.A (f (.int i t)) Q E s):
  UnR X f (rU fun i=>.int (g i)):=by
 intro pins s σ H x v Q I a h;obtain⟨i,rfl,q⟩:=h;obtain⟨t,rfl⟩:=a;exact rule i t s _ _ ⟨.int (g i),H,I.tok _,⟨_,rfl⟩,q⟩
def zsd:UnR X (unaryOp .USub) (rU fun i=>.int (-i)):=unI fun _ _ _ _ _ q=>neg_int q
end
section
variable{X:Cx}{a b c:Expr}{ta tb tc:TE}{pos:Pos}
def zpB(I:Inv X pins σ H s)(q:Q (.bl k) H)(e:k=k'):EP X pins σ Q (.bool k') s:=by
 subst e;exact⟨.bl k,H,I,rfl,q⟩
def zv6:OpR X (compareOp .Lt) (rI0 fun i j=>.bl (decide (i<j))):=zvd fun _ _ _ _ _ _ _ q=>lt_int q
def zv7:OpR X (compareOp .LtE) (rI0 fun i j=>.bl (decide (i<=j))):=zvd fun _ _ _ _ _ _ _ q=>le_int q
def zv8:OpR X (compareOp .Gt) (rI0 fun i j=>.bl (decide (j<i))):=zvd fun _ _ _ _ _ _ _ q=>gt_int q
def zv9:OpR X (compareOp .GtE) (rI0 fun i j=>.bl (decide (j<=i))):=zvd fun _ _ _ _ _ _ _ q=>ge_int q
def ztM:OpR X (compareOp .Is) (fun x y H Q=>y=.non/\Q (.bl (decide (x=.non))) H):=by
 intro pins s σ H x y v u Q I a b h;obtain⟨rfl,q⟩:=h;cases b;refine is_none_gen (zpB I q ?_)
 cases x<;>first
  |(cases a;rfl)
  |(obtain⟨t,rfl⟩:=a;rfl)
def zqV:OpR X (compareOp .IsNot) (fun x y H Q=>y=.non/\Q (.bl (!decide (x=.non))) H):=by
 intro pins s σ H x y v u Q I a b h;obtain⟨rfl,q⟩:=h;cases b;refine isnot_none_gen (zpB I q ?_)
 cases x<;>first
  |(cases a;rfl)
  |(obtain⟨t,rfl⟩:=a;rfl)
def ziU(ho:OpR X (compareOp op) r)(U:PE X a ta)(J:PE X b tb)(hm:behindInMarks op b=false):PE X (.Compare a [op] [b] pos) (tOp r ta tb):=by
 intro pins s σ H Q I h;exact wpAny_Compare1 (zwP U J I h fun v u s2 x y H2 e d c q=>ho pins s2 σ H2 x y v u Q e d c q) hm
noncomputable def zp1(t:TE):TT:=fun σ H Q=>t σ H fun x H'=>∃k,x=.bl k/\Q k H'
def ziT(ho:OpR X (compareOp op) r)(U:PE X a ta)(J:PE X b tb)(hm:behindInMarks op b=false):PT X (.Compare a [op] [b] pos) (zp1 (tOp r ta tb)):=by
 intro pins s σ H Q I h
 refine wpAny_isTrue_Compare1 (thn (U pins s σ H _ I h) fun v s1 ⟨x,H1,n,r1,j⟩=>thn (J pins s1 σ H1 _ n j) fun u s2 ⟨y,H2,m,f,i⟩=>
  thn (ho pins s2 σ H2 x y v u _ m r1 f i) fun c s3 ⟨z,o,l,d,k,e,g⟩=>?_) hm
 subst e;cases d;exact ybm ⟨o,l,g⟩
noncomputable def zli(r r':R2)(ta tb tc:TE):TE:=fun σ H Q=>ta σ H fun x H1=>tb σ H1 fun y H2=>r x y H2 fun z a=>∃k,z=.bl k ∧
 (if k=true then tc σ a fun w' b=>r' y w' b Q else Q (.bl false) a)
def zod{op J:CmpOp}{r r':R2}(ho:OpR X (compareOp op) r)(U:OpR X (compareOp J) r')(ha:PE X a ta)(hb:PE X b tb)(hc:PE X c tc)
  (hm:autoParam (lastMarks [op,J] [b,c]=false) yAO):PE X (.Compare a [op,J] [b,c] pos) (zli r r' ta tb tc):=by
 intro pins s σ H Q I h
 refine Compare_chain (thn (ha pins s σ H _ I h) fun v s1 ⟨x,H1,A,r1,q⟩=>chain_link (thn (hb pins s1 σ H1 _ A q) fun u s2 ⟨y,H2,w,f,p⟩=>
  thn (ho pins s2 σ H2 x y v u _ w r1 f p) fun d s3 ⟨z,j,i,n,k,e,g⟩=>?_)) hm
 subst e;cases n;refine ybm ?_
 cases k with
 |false=>exact ite_ff ⟨.bl false,j,i,rfl,g⟩|true=>exact ite_tt (chain_last (thn (hc pins s3 σ j _ i g) fun w' s4 ⟨l,B,t,m,o⟩=>U pins s4 σ B y l u w' Q t f m o))
def znQ{op J:CmpOp}{r r':R2}(ho:OpR X (compareOp op) r)(U:OpR X (compareOp J) r')(ha:PE X a ta)(hb:PE X b tb)(hc:PE X c tc)
  (hm:autoParam (lastMarks [op,J] [b,c]=false) yAO):PT X (.Compare a [op,J] [b,c] pos) (zp1 (zli r r' ta tb tc)):=by
 intro pins s σ H Q I h
 refine isTrue_chain (thn (ha pins s σ H _ I h) fun v s1 ⟨x,H1,G,r1,w⟩=>test_link (thn (hb pins s1 σ H1 _ G w) fun u s2 ⟨y,H2,F,f,t⟩=>
  thn (ho pins s2 σ H2 x y v u _ F r1 f t) fun d s3 ⟨z,j,i,o,k,e,g⟩=>?_)) hm
 subst e;cases o;refine ybm ?_
 cases k with
 |false=>
  obtain⟨k',C,A⟩:=g;cases C;exact ite_ff ⟨j,i,A⟩
 |true=>
  refine ite_tt (test_last (thn (hc pins s3 σ j _ i g) fun w' s4 ⟨l,L,E,n,q⟩=>thn (U pins s4 σ L y l u w' _ E f n q) fun d' s5 ⟨M,K,D,m,k2,B,p⟩=>?_));subst B;cases m;exact ybm ⟨K,D,p⟩
def zjP:(sizeLine:Nat)<2 ^ 63:=by rw[ybN];decide
def zkw:OpR X (binaryOp .Add) (fun x y H Q=>∃i j,x=.str i/\y=.str j/\i.length+j.length<=sizeLine/\Q (.str (i++j)) H):=by
 intro pins s σ H x y v u Q I b a h;obtain⟨i,j,rfl,rfl,c,q⟩:=h;obtain⟨t,rfl⟩:=b;obtain⟨t',rfl⟩:=a;exact add_str (fun t' tk=>⟨.str (i++j),H,I.tok _,⟨_,rfl⟩,q⟩) c
def zhN(r:Vals [x] us):∃u,us=[u]/\zbD x u:=by
 cases r with
 |cons r1 a=>cases a;exact⟨_,rfl,r1⟩
end
structure ObjM(h:Heap)(x dx C:Addr)(mA:Z6):Prop where
 obj:h.get? x=some (PySem.W.instObj C dx)
 ns:h.Ns1 dx mA
 ne:dx≠x
def zmm{h:Heap}{mA:Z6}(n:h.Ns1 dx mA):∃od,h.get? dx=some od/\∀name,PySem.W.lookIn name od=some (mA name):=by
 obtain⟨o,es,ep,d,hd,f,_,hm⟩:=n;refine⟨o,d,fun name=>?_⟩;have e:=hm name;unfold nsFind findBy at e;rw[<-Array.find?_toList]at e;unfold PySem.W.lookIn;rw[hd];dsimp only;split
 ·rename_i y q;rw[q]at e;exact congrArg some e
 ·rename_i q;rw[q]at e
  have a:es.toList.any (·.refKey)=false:=by
   rw[List.any_eq_false];intro y c;obtain⟨z,t,b⟩:=f y (Array.mem_toList_iff.mp c);simp[DictEntry.refKey,b]
  have g:¬ es.toList.any (·.refKey)=true:=by rw[a];exact yaR
  rw[if_neg g];exact congrArg some e
def ObjM.look(I:ObjM h x dx C mA):∃od,PySem.W.InstAt h x (PySem.W.instObj C dx) C (some od)/\∀name,PySem.W.lookIn name od=some (mA name):=
 let ⟨od,a,b⟩:=zmm I.ns
 ⟨od,⟨I.obj,rfl,rfl,a⟩,b⟩
section
variable{prog:Program}{w:World}{A:Around}{E:Z5}{s:Shared}{K:PySem.W.Frag}{x dx C f:Addr}{mA:Z6}{name:Str}{v:Value}
def zrv{expr:Bool}{Q:Z5}(X:K.In s.heap)(I:ObjM s.heap x dx C mA)(hg:PySem.W.plainGet K C name=true)(hh:PySem.W.hasDictIn K C=true)
  (ha:PySem.W.findIn K (.ref C) name=some none) (hv:mA name=some v) (U:PySem.W.handedIn v=true) (h:Q v {s with toks:=s.toks+1}):
  wpAny (model prog w) A (getAttr (.ref x) name expr) Q E s:=by
 obtain⟨od,J,a⟩:=I.look;exact PySem.W.get_value X J (yc7 hg).1 (PySem.W.findObj_own hh ha rfl (by rw[a,hv])) U h
def zoL(X:K.In s.heap)(I:ObjM s.heap x dx C mA)(U:PySem.W.plainGet K C name=true)
  (hf:PySem.W.findIn K (.ref C) name=some (some (.ref f))) (ht:PySem.W.isFn K (.ref f)=true) (hv:mA name=none) (h:Q (.ref f,[.ref x]) s):
  wpAny (model prog w) A (getMethod (.ref x) name pl) Q E s:=by
 obtain⟨od,J,a⟩:=I.look;exact PySem.W.method_fn X J (yc7 U).1 (yc7 U).2 hf (yb1.mp ht) (by show(PySem.W.lookIn name od).map (·.isSome)=some false;rw[a,hv];rfl) h
theorem zqn{ns:List Str}{Q:Unit->Shared->Prop}(X:K.In s.heap)(I:ObjM s.heap x dx C mA)
  (hs:PySem.W.findIn K (.ref C) "__setattr__"=some (some (.builtin "object.__setattr__"))) (U:PySem.W.plainOver K C=true) (ht:PySem.W.takerIn K C name=some none) (hh:PySem.W.hasDictIn K C=true)
  (hw:PySem.Within mA ns) (hsz:ns.length<=sizeLine)
  (h:∀h',ObjM h' x dx C (fun y=>if y=name then some v else mA y)->Heap.SameBut dx s.heap h'->Q () {s with heap:=h',toks:=s.toks+2}):
  wpAny (model prog w) A (setAttr (.ref x) name v) Q E s:=by
 obtain⟨od,J,n⟩:=I.look;refine PySem.W.set_plain X J hs (PySem.W.osa_open (s:={s with toks:=s.toks+1}) (r:=none) X J U ht fun b=>?_);obtain⟨cd,k,g⟩:=PySem.W.any_some hh;have j:s.heap.get? x=some ⟨.ref C,some dx,.plain,#[]⟩:=I.obj;refine yaa (yaf (yaa (yaa (wpAny_loadPart j (yaa (PySem.W.Looks.here (s:={s with toks:=s.toks+1}) (PySem.W.looks_clsIn X k) ?_))))));rw[g];refine yaf (a:=some dx) (yaa (yaf (yaa ?_)));refine wpAny_nsSet1 (s:={s with toks:=s.toks+1}) I.ns fun h' d c=>?_
 obtain⟨oD,l,m,e,f,i⟩:=d.count (PySem.Within.cons name v hw);refine yaa (wpAny_lookBehind e (by rw[f];exact pastItsLine_dict (yal i (by rw[yan];omega))) ?_);exact yaf (h _ ⟨(c.2 _ (Ne.symm I.ne)).trans I.obj,d,I.ne⟩ c)
def zos{R:Result->Shared->Prop}{vs:List Value}{kw:List (Str×Value)}(X:K.In s.heap)(hm:PySem.W.makesIn K C=true)
  (hi:PySem.W.findIn K (.ref C) "__init__"=some (some (.ref f))) (hf:PySem.W.typeIn K (.ref f)=some (.type "function"))
  (h:codeAny (model prog w) (A.under (.builtin "type.__call__" ⟨.ref C::vs,kw⟩)) (.call (.ref f) ⟨.ref (s.heap.objs.size+1)::vs,kw⟩) (PySem.W.InitBack (s.heap.objs.size+1) R)
   {s with heap:=(s.heap.push PySem.W.emptyDict).push (PySem.W.instObj C s.heap.objs.size)}):
  codeAny (model prog w) A (.call (.ref C) ⟨vs,kw⟩) R s:=by
 obtain⟨a,g,d,t,os⟩:=s;exact PySem.W.make_core (PySem.W.makes_of X hm) (PySem.W.looks_findIn X hi) (fun self=>PySem.W.bind_fn X self hf) (.inl rfl) h
end
noncomputable def zdy(f:Str)(v:V):List (Str×V)->List (Str×V)
 |[]=>[(f,v)]|(g,x)::r=>if g=f then(g,v)::r else(g,x)::zdy f v r
theorem zgc(f g:Str)(v:V):∀fs:List (Str×V),(zdy f v fs).lookup g=if g=f then some v else fs.lookup g
 |[]=>by
  show List.lookup g [(f,v)]=_
  by_cases h:g=f
  ·have a:(g==f)=true:=yb1.mpr h;simp only[List.lookup,a,if_pos h]
  ·have a:(g==f)=false:=ya5.mpr h;simp only[List.lookup,a,if_neg h]
 |(k,x)::r=>by
  have c:=zgc f g v r;rw[show zdy f v ((k,x)::r)=(if k=f then(k,v)::r else(k,x)::zdy f v r)from rfl]
  by_cases b:k=f
  ·rw[if_pos b]
   by_cases h:g=k
   ·have a:(g==k)=true:=yb1.mpr h;simp only[List.lookup,a,if_pos (h.trans b)]
   ·have a:(g==k)=false:=ya5.mpr h;simp only[List.lookup,a,if_neg (fun e:g=f=>h (e.trans b.symm))]
  ·rw[if_neg b]
   by_cases h:g=k
   ·have a:(g==k)=true:=yb1.mpr h;simp only[List.lookup,a,if_neg (fun e:g=f=>b (h.symm.trans e))]
   ·have a:(g==k)=false:=ya5.mpr h;simp only[List.lookup,a];exact c
theorem zge(f:Str)(v:V):∀fs:List (Str×V),f∈(zdy f v fs).map (·.1)/\∀g,g∈fs.map (·.1)->g∈(zdy f v fs).map (·.1)
 |[]=>⟨by simp[zdy],fun g h=>by simp at h⟩
 |(k,x)::r=>by
  obtain⟨i1,i2⟩:=zge f v r;rw[show zdy f v ((k,x)::r)=(if k=f then(k,v)::r else(k,x)::zdy f v r)from rfl]
  by_cases a:k=f
  ·rw[if_pos a];subst a;exact⟨by simp,fun g h=>by simpa using h⟩
  ·rw[if_neg a];refine⟨?_,fun g h=>?_⟩
   ·rw[yau];exact yas _ i1
   ·rw[yau]at h ⊢
    rcases yat.mp h with e|e
    ·exact yat.mpr (.inl e)
    ·exact yas _ (i2 g e)
theorem zgd(f:Str)(v:V):∀fs:List (Str×V),(zdy f v fs).length<=fs.length+1
 |[]=>by simp[zdy]
 |(k,x)::r=>by
  have b:=zgd f v r;rw[show zdy f v ((k,x)::r)=(if k=f then(k,v)::r else(k,x)::zdy f v r)from rfl]
  by_cases a:k=f
  ·rw[if_pos a,yan,yan];omega
  ·rw[if_neg a,yan,yan];omega
def znh.some_of(r:znh (some v) o):∃u,o=some u/\zbD v u:=by
 cases o with
 |none=>exact(show False from r).elim|some u=>exact⟨u,rfl,r⟩
def znh.none_of(r:znh none o):o=none:=by
 cases o with
 |none=>rfl|some u=>exact(show False from r).elim
def zmH(r:zbD v u):PySem.W.handedIn u=true:=by
 cases v with
 |non=>cases (show u=Value.none from r);rfl|bl b=>cases (show u=Value.bool b from r);rfl|int i=>obtain⟨t,e⟩:=(show ∃t,u=Value.int i t from r);cases e;rfl|str x=>obtain⟨t,e⟩:=(show ∃t,u=Value.str x t from r);cases e;rfl|byt b=>obtain⟨t,e⟩:=(show ∃t,u=Value.bytes b t from r);cases e;rfl|flt b=>obtain⟨t,e⟩:=(show ∃t,u=Value.float b t from r);cases e;rfl|ref a=>cases (show u=Value.ref a from r);rfl|ty n=>cases (show u=Value.type n from r);rfl
section
variable{P:Program}{w:World}{H H':Hp}{h h':Heap}{a C dx:Addr}{fs fs':List (Str×V)}
def zho(hok:HOk P w H h)(e:H a=some (.ins C dx fs)):∃mA,ObjM h a dx C mA/\(∀f,znh (fs.lookup f) (mA f))/\PySem.Within mA (fs.map (·.1))/\fs.length<=1000/\H dx=some (.own a):=by
 obtain⟨d,z,ne,ob,mA,n,r,q⟩:=(show zb8 P w H h a (.ins C dx fs)from hok a _ e);exact⟨mA,⟨ob,n,ne⟩,r,q,z,d⟩
end
structure Cls(K:PySem.W.Frag)(C:Addr):Prop where
 pg:PySem.W.plainGet K C Str.empty=true
 hd:PySem.W.hasDictIn K C=true
 po:PySem.W.plainOver K C=true
 sa:PySem.W.findIn K (.ref C) "__setattr__"=some (some (.builtin "object.__setattr__"))
def Cls.get{K:PySem.W.Frag}(c:Cls K C)(f:Str):PySem.W.plainGet K C f=true:=c.pg
noncomputable def zdR(K:PySem.W.Frag)(C:Addr)(f:Str):Prop:=PySem.W.findIn K (.ref C) f=some none
def zdR.taker{K:PySem.W.Frag}(n:zdR K C f):PySem.W.takerIn K C f=some none:=by
 unfold PySem.W.takerIn;rw[show PySem.W.findIn K (.ref C) f=some none from n];rfl
structure Meth(K:PySem.W.Frag)(C:Addr)(m:Str)(f:Addr):Prop where
 at_:PySem.W.findIn K (.ref C) m=some (some (.ref f))
 fn:PySem.W.isFn K (.ref f)=true
 kp:PySem.W.keepIn K (.ref f)=true
section
variable{X:Cx}{pins:Z3}{σ:St}{H:Hp}{s:Shared}{a C dx:Addr}{fs:List (Str×V)}{f:Str}{v:V}{A:Around}{E:Z5}
def zkE(I:Inv X pins σ H s)(e:H a=some (.ins C dx fs))(c:Cls X.K C)(n:zdR X.K C f)(l:fs.lookup f=some v)
  (h:∀u s',Inv X pins σ H s'->zbD v u->Q u s'):wpAny (model X.prog X.w) A (getAttr (.ref a) f b) Q E s:=by
 obtain⟨mA,O,r,_,_,_⟩:=zho I.hok e;obtain⟨u,g,d⟩:=znh.some_of (v:=v) (o:=mA f) (by rw[<-l];exact r f);exact zrv I.kIn O (c.get f) c.hd n g (zmH d) (h u _ (I.tok _) d)
def zgX(I:Inv X pins σ H s)(e:H a=some (.ins C dx fs))(c:Cls X.K C)(k:Meth X.K C m g)(l:fs.lookup m=none)
  (h:Q (.ref g,[.ref a]) s):wpAny (model X.prog X.w) A (getMethod (.ref a) m pl) Q E s:=by
 obtain⟨mA,O,r,_,_,_⟩:=zho I.hok e;have b:mA m=none:=znh.none_of (by rw[<-l];exact r m);exact zoL I.kIn O (c.get m) k.at_ k.fn b h
def zkl(I:Inv X pins σ H s)(e:H a=some (.ins C dx fs))(c:Cls X.K C)(n:zdR X.K C f)(U:fs.length<1000)(J:zbD y u)
  (h:∀s',Inv X pins σ (upd H a (.ins C dx (zdy f y fs))) s'->Q () s'):wpAny (model X.prog X.w) A (setAttr (.ref a) f u) Q E s:=by
 obtain⟨mA,O,r,wi,_,i⟩:=zho I.hok e
 have k:(fs.map (·.1)).length<=sizeLine:=by rw[yad,ybN];omega
 refine zqn I.kIn O c.sa c.po n.taker c.hd wi k fun h' d j=>h _ ?_
 have hd:∃o,h'.get? dx=some o:=let ⟨o,_,_,p,_⟩:=d.ns;⟨o,p⟩
 refine I.write (x:=a) (e:=dx) (by rw[e];exact True.intro) (.inr i) (fun b q m z=>(j.2 b m).trans z) hd ?_;refine⟨by rw[zam O.ne];exact i,?_,O.ne,d.obj,_,d.ns,fun g=>?_,fun g l=>?_⟩
 ·have:=zgd f y fs;omega
 ·show znh ((zdy f y fs).lookup g) (if g=f then some u else mA g);rw[zgc]
  by_cases q:g=f
  ·rw[if_pos q,if_pos q];exact J
  ·rw[if_neg q,if_neg q];exact r g
 ·by_cases q:g=f
  ·rw[q];exact(zge f y fs).1
  ·refine(zge f y fs).2 g (wi g fun z=>l ?_);show(if g=f then some u else mA g)=none;rw[if_neg q];exact z
def Inv.made(I:Inv X pins σ H s):Inv X pins σ (upd (upd H s.heap.objs.size (.own (s.heap.objs.size+1))) (s.heap.objs.size+1) (.ins C s.heap.objs.size []))
  {s with heap:=(s.heap.push PySem.W.emptyDict).push (PySem.W.instObj C s.heap.objs.size)}:=by
 have c:(s.heap.push PySem.W.emptyDict).get? s.heap.objs.size=some PySem.W.emptyDict:=yaq s.heap rfl
 have g:((s.heap.push PySem.W.emptyDict).push (PySem.W.instObj C s.heap.objs.size)).get? (s.heap.objs.size+1)=some (PySem.W.instObj C s.heap.objs.size):=by
  have:=yaq (s.heap.push PySem.W.emptyDict) (o:=PySem.W.instObj C s.heap.objs.size) rfl
  rwa[yba]at this
 have f:(s.heap.push PySem.W.emptyDict).Ns s.heap.objs.size (fun _=>none):=⟨PySem.W.emptyDict,#[],_,c,rfl,(fun e he=>absurd he (by simp)),fun _=>rfl⟩;have h:=I.laid (a:=s.heap.objs.size) (o:=.own (s.heap.objs.size+1)) (h':=s.heap.push PySem.W.emptyDict) (t':=s.toks) (fun b u q=>yae _ q) (yai _) ⟨_,c⟩;refine h.laid (a:=s.heap.objs.size+1) (o:=.ins C s.heap.objs.size []) (t':=s.toks) (fun b u q=>yae _ q) (yb7 (yba _ _)) ?_;have ne:s.heap.objs.size≠s.heap.objs.size+1:=yaA (ybY _);refine⟨by rw[zam ne,zaC],yaY _,ne,g,fun _=>none,(Heap.Ns1.of_empty f).at fun o q=>yae _ q,fun _=>True.intro,fun y d=>absurd rfl d⟩
def zrQ(J:attributeBase e f env (eval e env)=eval e env)
  (h:wpAny (model prog w) A (eval e env) (fun o I=>wpAny (model prog w) A (getAttr o f true) Q E I) E s):wpAny (model prog w) A (eval (.Attribute e f pos) env) Q E s:=
 Attribute_any_ h (by rw[arm_eval_Attribute,J])
end
noncomputable def zxx(K:PySem.W.Frag)(ta:TE)(f:Str):TE:=fun σ H Q=>ta σ H fun x H1=>∃a C dx fs v,x=.ref a/\H1 a=some (.ins C dx fs)/\Cls K C/\zdR K C f/\fs.lookup f=some v/\Q v H1
noncomputable def zzb(K:PySem.W.Frag)(ta tv:TE)(f:Str):TS:=fun D σ H=>tv σ H fun y H1=>ta σ H1 fun x H2=>∃a C dx fs,x=.ref a/\H2 a=some (.ins C dx fs)/\Cls K C/\zdR K C f/\fs.length<1000 ∧
 D.nx σ (upd H2 a (.ins C dx (zdy f y fs)))
noncomputable def zyv(X:Cx)(op:Operator)(I:V->V->Hp->VK->Prop):Prop:=
 ∀(pins:Z3) (s:Shared) (σ:St) (H:Hp) (x y:V) (u v:Value) (Q:VK),Inv X pins σ H s->zbD x u->zbD y v->I x y H Q->wpAny (model X.prog X.w) X.A (inplaceOp op u v) (EP X pins σ Q) X.xe s
section
variable{X:Cx}{o e value:Expr}{f:Str}{pos pos' tpos:Pos}{ta tv:TE}
def zeZ(he:PE X e ta)(J:attributeBase e f X.env (eval e X.env)=eval e X.env):PE X (.Attribute e f pos) (zxx X.K ta f):=by
 intro pins s σ H Q I h;refine zrQ J (thn (he pins s σ H _ I h) fun u s1 ⟨x,H1,j,b,a,C,dx,fs,v,ex,g,c,n,l,q⟩=>?_);subst ex;obtain rfl:u=Value.ref a:=b;exact zkE j g c n l fun k s2 i d=>⟨v,H1,i,d,q⟩
def zlL(U:PE X o ta)(J:PE X value tv)(hs:swapsWith value (some (.Attribute o f pos')) pos.line X.env=pure false):PS X (.Assign [.Attribute o f pos'] value pos) (zzb X.K ta tv f):=by
 intro pins s σ H D I h;refine plainObj_wpAny_Assign_Attribute (thn (J pins s σ H _ I h) fun u s1 ⟨y,H1,k,b,q⟩=>thn (U pins s1 σ H1 _ k q) fun ov s2 ⟨x,H2,j,d,a,C,dx,fs,ex,g,c,n,l,e⟩=>?_) hs;subst ex;obtain rfl:ov=Value.ref a:=d;exact zkl j g c n l b fun s3 i=>⟨σ,_,i,e⟩
noncomputable def zxA:V->V->Hp->VK->Prop:=fun x y H Q=>∃i j,x=.int i/\y=.int j/\Q (.int (i+j)) H
noncomputable def zxz:V->V->Hp->VK->Prop:=fun x y H Q=>∃i j,x=.int i/\y=.int j/\Q (.int (i-j)) H
def zuC:zyv X .Add zxA:=by
 rintro pins s σ H x y u v Q I b a ⟨i,j,rfl,rfl,q⟩;obtain⟨t,rfl⟩:=(show ∃t,u=Value.int i t from b);obtain⟨t',rfl⟩:=(show ∃t',v=Value.int j t' from a);exact PyProof.Rows.iadd_int ⟨.int (i+j),H,I.tok _,⟨_,rfl⟩,q⟩
def zuB:zyv X .Sub zxz:=by
 rintro pins s σ H x y u v Q I b a ⟨i,j,rfl,rfl,q⟩;obtain⟨t,rfl⟩:=(show ∃t,u=Value.int i t from b);obtain⟨t',rfl⟩:=(show ∃t',v=Value.int j t' from a);exact PyProof.Rows.isub_int ⟨.int (i-j),H,I.tok _,⟨_,rfl⟩,q⟩
end
section
variable{X:Cx}{pins:Z3}{σ:St}{H:Hp}{s:Shared}{A:Around}{E:Z5}{Q:Z5}{c:Value}{b:Bool}
inductive TyOf(K:PySem.W.Frag)(H:Hp):V->Value->Prop where
 |non:TyOf K H .non (.type "NoneType")
 |bl (x:Bool):TyOf K H (.bl x) (.type "bool")
 |int (i:Int):TyOf K H (.int i) (.type "int")
 |str (x:Str):TyOf K H (.str x) (.type "str")
 |flt (x:UInt64):TyOf K H (.flt x) (.type "float")
 |lst {a:Addr}{xs:List V} (e:H a=some (.lst xs)):TyOf K H (.ref a) (.type "list")
 |frz {a:Addr}{o:Obj}{xs:List V} (e:H a=some (.frz o (.lst xs))):TyOf K H (.ref a) (.type "list")
 |tup {a:Addr}{xs:List V} (e:H a=some (.tup xs)):TyOf K H (.ref a) (.type "tuple")
 |dK {a:Addr}{kvs:List (Key×V)} (e:H a=some (.dK kvs)):TyOf K H (.ref a) (.type "dict")
 |dT {a:Addr}{kvs:List (List Key×V)} (e:H a=some (.dT kvs)):TyOf K H (.ref a) (.type "dict")
 |ins {a C dx:Addr}{fs:List (Str×V)} (e:H a=some (.ins C dx fs)) (cl:Cls K C) (ha:PySem.W.findIn K (.ref C) "__class__"=some (some (.builtin "object.__class__")))
   (hn:PySem.W.specialIn K (.builtin "object.__class__") "__get__"=some (some (.builtin "getset_descriptor.__get__"))) (htk:PySem.W.takesIn K (.builtin "object.__class__")=some true)
   (hm:PySem.W.mroIn K C (.type "object")=some true):TyOf K H (.ref a) (.ref C)
def zmy{x:V}{u t:Value}(I:Inv X pins σ H s)(U:zbD x u)(ty:TyOf X.K H x t)(e:PySem.W.kitOne X.K t c=some b)(h:∀tk,Q (.bool b) {s with toks:=tk}):
  wpAny (model X.prog X.w) A (call (.builtin "isinstance") [u,c]) Q E s:=by
 cases ty with
 |non=>cases (show u=Value.none from U);exact ybe PySem.W.kitx_none I.kIn True.intro e (fun z=>nomatch z) h|bl y=>cases (show u=Value.bool y from U);exact ybe PySem.W.kitx_bool I.kIn True.intro e (fun z=>nomatch z) h|int i=>obtain⟨t,q⟩:=(show ∃t,u=Value.int i t from U);cases q;exact ybe PySem.W.kitx_int I.kIn True.intro e (fun z=>nomatch z) h|str y=>obtain⟨t,q⟩:=(show ∃t,u=Value.str y t from U);cases q;exact ybe PySem.W.kitx_str I.kIn True.intro e (fun z=>nomatch z) h|flt y=>obtain⟨t,q⟩:=(show ∃t,u=Value.float y t from U);cases q;exact ybe PySem.W.kitx_float I.kIn True.intro e (fun z=>nomatch z) h| @lst a xs d=>
  cases (show u=Value.ref a from U);obtain⟨_,_,n,_,h1⟩:=(show zb8 X.prog X.w H s.heap a (.lst xs)from I.hok a _ d);exact ybe PySem.W.kitx_list I.kIn ⟨_,h1,rfl⟩ e (fun z=>nomatch z) h
 | @frz a ob xs d=>
  cases (show u=Value.ref a from U);obtain⟨_,_,_,n,_,h1⟩:=(show zb8 X.prog X.w H s.heap a (.frz ob (.lst xs))from I.hok a _ d);exact ybe PySem.W.kitx_list I.kIn ⟨_,h1,rfl⟩ e (fun z=>nomatch z) h
 | @tup a xs d=>
  cases (show u=Value.ref a from U);obtain⟨_,_,_,p⟩:=(show zb8 X.prog X.w H s.heap a (.tup xs)from I.hok a _ d);obtain⟨o,h1,h2,_⟩:=p;exact ybe PySem.W.kitx_tuple I.kIn ⟨o,h1,h2⟩ e (fun z=>nomatch z) h
 | @dK a f d=>
  cases (show u=Value.ref a from U);obtain⟨_,_,vs,_,p⟩:=(show zb8 X.prog X.w H s.heap a (.dK f)from I.hok a _ d);obtain⟨o,es,ep,h1,h2,_⟩:=p;exact ybe PySem.W.kitx_dict I.kIn ⟨o,h1,h2.1⟩ e (fun z=>nomatch z) h
 | @dT a f d=>
  cases (show u=Value.ref a from U);obtain⟨_,_,xs,_,o,es,ep,h1,h2,_⟩:=(show zb8 X.prog X.w H s.heap a (.dT f)from I.hok a _ d);exact ybe PySem.W.kitx_dict I.kIn ⟨o,h1,h2.1⟩ e (fun z=>nomatch z) h
 | @ins a C dx fs d cl k j g hm=>
  cases (show u=Value.ref a from U);obtain⟨mA,O,_⟩:=zho I.hok d;obtain⟨od,J,_⟩:=O.look;exact ybe (PySem.W.kitx_own (cl.get _) cl.hd k j g hm) I.kIn J e (fun z=>nomatch z) h
end
structure Room(k:Nat)(A:Around):Prop where
 hd:A.handled=none
 dp:A.depth+3*k+5<recursionLimit
 un:A.units+16*k+200<cLine
theorem Room.mono(r:Room k A)(h:j<=k):Room j A:=⟨r.hd,by have:=r.dp;omega,by have:=r.un;omega⟩
theorem Room.deeper(r:Room (k+1) A)(env:Env):Room k (A.deeper env):=
 ⟨r.hd,by have:=r.dp;show A.depth+1+3*k+5<_;omega,by have:=r.un;show A.units+3+16*k+200<_;omega⟩
def zkA{A:Around}:(A.under (.builtin "type.__call__" ⟨.ref C::us,kw⟩)).depth=A.depth+1:=by
 first|rfl|simp[Around.under,Code.weight,Code.isCreation,Code.isGuard,Code.isCaller,Code.frames,Code.isFrame,guardIds]
def zkz{A:Around}:(A.under (.builtin "type.__call__" ⟨.ref C::us,kw⟩)).units=A.units+1:=by
 first|rfl|simp[Around.under,Code.cUnits,Code.frames,Code.isFrame]
theorem Room.make(r:Room (k+1) A)(C:Addr)(us:List Value)(kw:List (Str×Value)):Room k (A.under (.builtin "type.__call__" ⟨.ref C::us,kw⟩)):=
 ⟨r.hd,by have:=r.dp;rw[zkA];omega,by have:=r.un;rw[zkz];omega⟩
theorem Room.depth(r:Room k A):A.depth<recursionLimit:=by have:=r.dp;omega
theorem Room.units(r:Room k A):A.units+64<cLine:=by have:=r.un;omega
noncomputable def zvc:TA:=fun _ H Q=>Q [] H
noncomputable def zp3(ta:TE)(I:TA):TA:=fun σ H Q=>ta σ H fun x H1=>I σ H1 fun xs H2=>Q (x::xs) H2
section
variable{X:Cx}{e:Expr}{es:List Expr}{te:TE}{t:TA}{pos:Pos}
def zdp:PA X [] zvc:=fun _ _ _ _ H Q I h=>Calls.spliced_nil ⟨[],H,I,.nil,h⟩
def zbH(U:PE X e te)(J:PA X es t)(hs:autoParam (starEach (e::es) X.env=(false,eval e X.env)::starEach es X.env) yAW):PA X (e::es) (zp3 te t):=by
 intro pos pins s σ H Q I h;rw[hs];show wpAny _ _ (spliced ((false,eval e X.env)::backTo pos (starEach es X.env))) _ _ s;refine Calls.spliced_cons (thn (U pins s σ H _ I h) fun u s1 ⟨x,H1,f,r1,c⟩=>?_);exact thn (J pos pins s1 σ H1 _ f c) fun us s2 ⟨xs,H2,d,a,b⟩=>⟨x::xs,H2,d,.cons r1 a,b⟩
noncomputable def zy0(t:TA):TE:=fun σ H Q=>t σ H fun xs H1=>xs.length<=sizeLine/\∀p,H1 p=none->Q (.ref p) (upd H1 p (.tup xs))
noncomputable def zy5(t:TA):TE:=fun σ H Q=>t σ H fun xs H1=>xs.length<=sizeLine/\∀p,H1 p=none->Q (.ref p) (upd H1 p (.lst xs))
def ztv{x1}(h:PA X es t):PE X (.Tuple es x1 pos) (zy0 t):=by
 intro pins s σ H Q I c;refine wpAny_Tuple_spliced (thn (h pos pins s σ H _ I c) fun us s1 ⟨xs,H1,a,r,z,q⟩=>⟨by rw[<-r.length];exact z,?_⟩);have hf:H1 s1.heap.objs.size=none:=a.hok.fresh (yai _);refine⟨.ref s1.heap.objs.size,upd H1 s1.heap.objs.size (.tup xs),a.laid (t':=s1.toks) (fun b u e=>yae _ e) (yai _) ?_,rfl,q _ hf⟩;exact⟨z,us,r,⟨_,yaq _ rfl,rfl,_,rfl⟩⟩
def zpp(h:PA X es t):PE X (.List es pos) (zy5 t):=by
 intro pins s σ H Q I c;refine wpAny_List_spliced (thn (h pos pins s σ H _ I c) fun us s1 ⟨xs,H1,a,r,z,q⟩=>⟨by rw[<-r.length];exact z,?_⟩);have hf:H1 s1.heap.objs.size=none:=a.hok.fresh (yai _);refine⟨.ref s1.heap.objs.size,upd H1 s1.heap.objs.size (.lst xs),a.laid (t':=s1.toks) (fun b u e=>yae _ e) (yai _) ?_,rfl,q _ hf⟩;exact⟨z,us,0,r,yaq _ rfl⟩
end
noncomputable abbrev Sp:=List V->Hp->VK->XK->Prop
noncomputable abbrev CXT:=List Env->Hp->Shared->XK->Value->Shared->Prop
structure Env0(P:Program)(w:World)(K:PySem.W.Frag)(mg:Z6)(base:Heap)(A:Around)(outer:List Env)(s:Shared)(H:Hp):Prop where
 frames:A.frames=some outer
 mod:Mod K mg base
 bs:∀b o,base.get? b=some o->s.heap.get? b=some o/\H b=none
 bsz:base.objs.size<=s.heap.objs.size
 funs:s.heap.FunFrames base outer
 frf:∀b∈frs outer,H b=none
 hok:HOk P w H s.heap
 bare:AllBare s.gens
noncomputable def CE(outer:List Env)(P:Program)(w:World)(H:Hp)(s:Shared)(Q:VK)(u:Value)(s':Shared):Prop:=
 ∃v H',s'.os=s.os/\AllBare s'.gens/\Un (frs outer) [] H H' s.heap s'.heap/\HOk P w H' s'.heap/\zbD v u/\Q v H'
noncomputable def CR(CX:CXT)(outer:List Env)(P:Program)(w:World)(H:Hp)(s:Shared)(Q:VK)(E:XK)(r:Result)(s':Shared):Prop:=
 match r with
 |.ok (.ret u)=>CE outer P w H s Q u s'|.ok _=>False|.error e=>CX outer H s E e s'
structure FnOk(P:Program)(w:World)(K:PySem.W.Frag)(mg:Z6)(base:Heap)(CX:CXT)(k:Nat)(f:Addr)(fd:FuncData)(ps:List Str)(sp:Sp):Prop where
 len:∀vs H Q E,sp vs H Q E->vs.length=ps.length
 run:∀(A:Around) (outer:List Env) (s:Shared) (H:Hp) (args:Args) (us:List Value) (vs:List V) (Q:VK) (E:XK),Room k A->Env0 P w K mg base A outer s H->BindsTo s fd args (ps.zip us)->Vals vs us->sp vs H Q E →
  codeAny (model P w) A (.call (.ref f) args) (CR CX outer P w H s Q E) s
theorem FnOk.mono{P:Program}{K:PySem.W.Frag}{j k:Nat}(F:FnOk P w K mg base CX j f fd ps sp)(h:j<=k):
  FnOk P w K mg base CX k f fd ps sp:=⟨F.len,fun A outer s H args us vs Q E a=>F.run A outer s H args us vs Q E (a.mono h)⟩
def FnOk.imp{P:Program}{K:PySem.W.Frag}{k:Nat}(F:FnOk P w K mg base CX k f fd ps sp)
  (h:∀vs H Q E,I vs H Q E->sp vs H Q E):FnOk P w K mg base CX k f fd ps I:=
 ⟨fun vs H Q E q=>F.len vs H Q E (h _ _ _ _ q),fun A outer s H args us vs Q E b he c a hs=>F.run A outer s H args us vs Q E b he c a (h _ _ _ _ hs)⟩
def Env0.make{P:Program}{K:PySem.W.Frag}{A:Around}(e:Env0 P w K mg base A outer s H)(C:Addr)(us:List Value)(kw:List (Str×Value)):
  Env0 P w K mg base (A.under (.builtin "type.__call__" ⟨.ref C::us,kw⟩)) outer s H:=⟨by first|exact e.frames|(simpa[Around.under,Code.envs,Code.isFrame,pushEnvs]using e.frames),e.mod,e.bs,e.bsz,e.funs,e.frf,e.hok,e.bare⟩
section
variable{X:Cx}{pins:Z3}{σ:St}{H:Hp}{s s':Shared}
def Inv.env0(I:Inv X pins σ H s):Env0 X.prog X.w X.K X.mg X.base X.A X.stack s H:=
 ⟨I.ok.frames,I.ok.mod,I.bs,yal I.ok.bsz I.sz,I.stack,I.stkFree,I.hok,I.bare⟩
def Inv.after(I:Inv X pins σ H s)(h:CE X.stack X.prog X.w H s Q u s'):EP X pins σ Q u s':=by
 obtain⟨v,H',os,bare,un,hok,r,q⟩:=h;obtain⟨c,g,d,t,a⟩:=s';obtain rfl:a=s.os:=os;exact⟨v,H',I.call (h':=c) (g':=g) (d':=d) (t':=t) (ch:=[]) un hok bare (fun b z=>absurd z (by simp)),r,q⟩
end
noncomputable def zcW(K:PySem.W.Frag)(fd:FuncData)(ps:List Str)(ds:List Value):Prop:=
 ∀(s:Shared) (us:List Value),K.In s.heap->(us++ds).length=ps.length->BindsTo s fd ⟨us,[]⟩ (ps.zip (us++ds))
def zcW.all{K:PySem.W.Frag}{ps:List Str}(h:∀us:List Value,us.length=ps.length->bindArgs fd ⟨us,[]⟩=pure (ps.zip us)):zcW K fd ps []:=fun s us _ a=>by
 rw[yaS]at a ⊢;exact .of_eq (h us a)
noncomputable def zu3(CX:CXT)(X:Cx)(E:XK):Prop:=∀(pins:Z3) (σ:St) (H:Hp) (s:Shared) (e:Value) (s':Shared),Inv X pins σ H s->CX X.stack H s E e s'->X.xe e s'
section
variable{X:Cx}{CX:CXT}{k:Nat}{f C:Addr}{fd:FuncData}{ps:List Str}{sp:Sp}{dvs:List V}{ds:List Value}{E:XK}{x m:Str}{p pos apos:Pos}{e o:Expr}{es:List Expr}{ta:TE}{t:TA}
structure Mk(K:PySem.W.Frag)(C f:Addr):Prop where
 makes:PySem.W.makesIn K C=true
 init:PySem.W.findIn K (.ref C) "__init__"=some (some (.ref f))
 fn:PySem.W.isFn K (.ref f)=true
 kp:PySem.W.keepIn K (.ref C)=true
end
structure FnScope(N P:List Str)(sc:Scope):Prop where
 kind:sc.kind=.function
 co:sc.isCoroutine=false
 gen:sc.isGenerator=false
 nd:N.Nodup
 pre:N.take P.length=P
 par:∀x∈P,sc.names.lookup x=some .local\/sc.names.lookup x=some .cell
 nofree:∀y∈sc.names,y.2≠.free
theorem ziz{kindOf:Str->Option NameKind}:∀{binds:List (Str×Value)}{m:Z6},(∀v,(x,v) ∉ binds)->bindL kindOf binds m x=m x
 |[],_,_=>rfl|(n,v)::r,m,h=>by
  unfold bindL;rw[ziz fun w a=>h w (yas _ a)];split
  ·have:x≠n:=by rintro rfl;exact h v yay
   simp[this]
  ·rfl
theorem ziB{kindOf:Str->Option NameKind}:∀{binds:List (Str×Value)}{m:Z6},(∀v,(x,v) ∉ binds)->bindC kindOf binds m x=m x
 |[],_,_=>rfl|(n,v)::r,m,h=>by
  unfold bindC;rw[ziB fun w a=>h w (yas _ a)];split
  ·rfl
  ·have:x≠n:=by rintro rfl;exact h v yay
   simp[this]
theorem ziA{kindOf:Str->Option NameKind}:∀{P:List Str}{vs:List Value}{i:Nat}{m:Z6},P.Nodup->P[i]?=some x->vs[i]?=some v->kindOf x=some .local →
  bindL kindOf (P.zip vs) m x=some v
 |[],_,_,_,_,h,_,_=>by simp at h
 |_::_,[],_,_,_,_,h,_=>by simp at h
 |p::P,w::vs,0,m,nd,h1,h2,a=>by
  simp at h1 h2;subst h1;subst h2;show bindL kindOf ((p,w)::P.zip vs) m p=_;unfold bindL;rw[ziz fun v b=>(ybw.mp nd).1 (List.of_mem_zip b).1,if_pos a];simp
 |p::P,w::vs,i+1,m,nd,h1,h2,a=>by
  show bindL kindOf ((p,w)::P.zip vs) m x=_;unfold bindL;exact ziA (i:=i) (ybw.mp nd).2 (by simpa using h1) (by simpa using h2) a
theorem ziC{kindOf:Str->Option NameKind}:∀{P:List Str}{vs:List Value}{i:Nat}{m:Z6},P.Nodup->P[i]?=some x->vs[i]?=some v->kindOf x≠some .local →
  bindC kindOf (P.zip vs) m x=some v
 |[],_,_,_,_,h,_,_=>by simp at h
 |_::_,[],_,_,_,_,h,_=>by simp at h
 |p::P,w::vs,0,m,nd,h1,h2,a=>by
  simp at h1 h2;subst h1;subst h2;show bindC kindOf ((p,w)::P.zip vs) m p=_;unfold bindC;rw[ziB fun v b=>(ybw.mp nd).1 (List.of_mem_zip b).1,if_neg a];simp
 |p::P,w::vs,i+1,m,nd,h1,h2,a=>by
  show bindC kindOf ((p,w)::P.zip vs) m x=_;unfold bindC;exact ziC (i:=i) (ybw.mp nd).2 (by simpa using h1) (by simpa using h2) a
noncomputable def zgz(N:List Str)(vs:List V):St:=vs.map some++List.replicate (N.length-vs.length) none
noncomputable def zoX(CX:CXT)(P:Program)(w:World)(K:PySem.W.Frag)(mg:Z6)(base:Heap)(N:List Str)(qual:Str)(scope:Scope)(f:Addr)(cd:Value)(A:Around)(outer:List Env)(s:Shared)(H:Hp)(E:XK):Cx where
 prog:=P
 w:=w
 K:=K
 mg:=mg
 base:=base
 A:=A.deeper (envOfC qual scope s.heap.objs.size f cd)
 N:=N
 s₀:=s
 H₀:=H
 env:=envOfC qual scope s.heap.objs.size f cd
 outer:=outer
 stack:=envOfC qual scope s.heap.objs.size f cd::outer
 ex:=[]
 calm:=true
 fn:=fun _=>true
 pn:=[]
 xe:=fun e s'=>wpAny (model P w) (A.deeper (envOfC qual scope s.heap.objs.size f cd)) (leaving (envOfC qual scope s.heap.objs.size f cd) e) (fun _ a=>CX outer H s E e a) (fun b a=>CX outer H s E b a) s'
def zka{sc:Scope}(h:sc.names.lookup x=some .cell):∃c,(cellsFrom n sc.names []).lookup x=some c:=by
 have q:=PySem.W.cellsFrom_some sc.names n [] (.inl h);exact Option.isSome_iff_exists.mp q
theorem zmB{P:Program}{K:PySem.W.Frag}{N ps:List Str}{scope:Scope}{A:Around}{s s1:Shared}{vs:List V}
  (S:FnScope N ps scope) (hd:A.handled=none) (I:Env0 P w K mg base A outer s H) (J:vs.length=ps.length) (r:Vals vs us)
  (x:InCallC s s.heap.objs.size (bindL (envOfC qual scope s.heap.objs.size f cd).kindOf (ps.zip us) fun _=>none) (cellsFrom (s.heap.objs.size+1) scope.names []) (bindC (envOfC qual scope s.heap.objs.size f cd).kindOf (ps.zip us) fun _=>none) s1):
  Inv (zoX CX P w K mg base N qual scope f cd A outer s H E) [] (zgz N vs) H s1:=by
 have ae:ps.length<=N.length:=by have:=congrArg List.length S.pre;rw[ybZ]at this;omega
 obtain⟨h1,tk,rfl,o⟩:=x.done;have d:∀b:Addr,b ∉ (zoX CX P w K mg base N qual scope f cd A outer s H E).ex:=fun b z=>absurd (show b∈([]:List Addr)from z) (by simp)
 refine⟨⟨I.mod,S.kind,rfl,rfl,yai _,fun y z c h1 h2=>?_,fun y g=>?_,fun y c _ h=>?_,fun _=>hd,Around.frames_deeper I.frames,.inr ⟨rfl,rfl⟩,fun b z=>absurd z (d b),I.bs,I.bsz,fun b _ _=>d b,fun b z=>absurd z (d b),I.funs,I.frf⟩,
  rfl,I.bare,Un.kept o,⟨_,x.toInCall.ns,fun i y v h1 h2 C=>?_⟩,fun y c h=>⟨_,x.cell y c h⟩,I.hok.fresh (yai _),fun y c h=>?_,fun p l=>absurd (show p∈([]:Z3)from l) (by simp),I.hok.kept o,?_⟩
 ·exact name_of_addr x.apart (yaL h1) (yaL h2)
 ·have g:scope.names.lookup y=some .cell\/scope.names.lookup y=some .free:=g
  rcases g with g|g
  ·exact zka g
  ·exact absurd rfl (S.nofree _ (yaL g))
 ·exact ycq (x.above y c (yaL h))
 ·have hi:i<vs.length:=by
   unfold zgz at h2
   by_cases hi:i<vs.length
   ·exact hi
   ·rw[yaG (by simpa using hi)]at h2;rw[ybW]at h2
    split at h2<;>cases h2
  have B:vs[i]?=some v:=by
   unfold zgz at h2;rw[yaZ (by simpa using hi),yao]at h2
   cases e:vs[i]? with
   |none=>rw[e]at h2;cases h2|some a=>rw[e]at h2;cases h2;rfl
  obtain⟨u,m,t⟩:=r.get B
  have l:ps[i]?=some y:=by
   rw[<-S.pre,List.getElem?_take_of_lt (by omega)];exact h1
  have j:ps.Nodup:=by rw[<-S.pre];exact S.nd.sublist (List.take_sublist _ _)
  refine⟨u,t,?_⟩
  rcases S.par y (ybj l)with k|k
  ·exact .inl ⟨k,ziA j l m k⟩
  ·obtain⟨c,e⟩:=zka (n:=s.heap.objs.size+1) k;refine .inr ⟨.inl k,c,e,?_⟩;have q:=x.cell y c e;rw[ziC j l m (by show scope.names.lookup y≠_;rw[k];decide)]at q;exact q
 ·exact I.hok.fresh (ycq (x.above y c (yaL h)))
 ·unfold zgz;show _=N.length;rw[yak,yad,yaM];omega
def zuF{CX:CXT}{P:Program}{w:World}{K:PySem.W.Frag}{mg:Z6}{base:Heap}{k:Nat}{f:Addr}{name qual:Str}{params:Arguments}{body:List Stmt}{scope:Scope}{dV kV doc pm U ct oc:Value}{an od:Option Addr}
  {a4:Array (Option Value)}{N ps:List Str}{sp:Sp} (lk:K.lookup f=some ⟨oc,od,.func (PySem.W.fnOf name qual params body scope dV kV doc pm an U ct),a4⟩) (a5:PySem.W.codeIn K U qual=true) (S:FnScope N ps scope)
  (len:∀vs H Q E,sp vs H Q E->vs.length=ps.length)
  (a3:∀(A:Around) (outer:List Env) (s:Shared) (H:Hp) (vs:List V) (Q:VK) (E:XK),Room k (A.deeper (envOfC qual scope s.heap.objs.size f U))->sp vs H Q E →
   ∃t,PSs (zoX CX P w K mg base N qual scope f U A outer s H E) body t/\t {nx:=fun _ H'=>Q .non H',rt:=Q} (zgz N vs) H):
  FnOk P w K mg base CX (k+1) f (PySem.W.fnOf name qual params body scope dV kV doc pm an U ct) ps sp:=by
 refine⟨len,fun A outer s H args us vs Q E i g z r d=>?_⟩;have p:=len _ _ _ _ d;have j:K.In s.heap:=g.mod.kin.keeps fun b o e=>(g.bs b o e).1
 have lim:s.heap.NoLimit:=g.mod.nolimit.keeps fun b o e=>(g.bs b o e).1
 have c:∀y∈ps.zip us,scope.names.lookup y.1=some .local\/(scope.names.lookup y.1=some .cell/\((cellsFrom (s.heap.objs.size+1) scope.names []).lookup y.1).isSome=true):=fun⟨n,v⟩ l=>by
  rcases S.par n (List.of_mem_zip l).1 with q|q
  ·exact .inl q
  ·exact .inr ⟨q,PySem.W.cellsFrom_some _ _ _ (.inl q)⟩
 refine codeAny_call_function i.depth (j _ _ lk) rfl S.co S.gen rfl (PySem.W.codeRec_of j a5) (z _ _ _ _ ?_);refine wpAny_newFunctionEnv_cells S.kind c fun env he s1 x=>?_
 subst he;refine⟨lim.keeps x.toInCall.keep,codeAny_func ?_⟩;obtain⟨t,ht,m⟩:=a3 A outer s H vs Q E (i.deeper _) d;have I:Inv (zoX CX P w K mg base N qual scope f U A outer s H E) [] (zgz N vs) H s1:=zmB S i.hd g p r x;refine ybr (ht [] s1 (zgz N vs) H _ I m) (fun fl s' hs=>?_) fun e s' hs=>hs
 have fin:∀{a:St}{H':Hp}{v:V}{u:Value},Inv (zoX CX P w K mg base N qual scope f U A outer s H E) [] a H' s'->zbD v u->Q v H'->CE outer P w H s Q u s':=
  fun {a H' v u} J h q=>⟨v,H',J.os,J.bare,J.base,J.hok,h,q⟩
 cases fl with
 |ret u=>
  obtain⟨v,a,H',J,h,q⟩:=hs;exact fin J h q
 |next=>
  obtain⟨a,H',J,q⟩:=hs;exact fin (v:=V.non) (u:=Value.none) J rfl q
 |brk=>
  obtain⟨_,_,_,q⟩:=hs;exact False.elim q
 |cont=>
  obtain⟨_,_,_,q⟩:=hs;exact False.elim q
section
variable{X:Cx}{x:Str}{p pos:Pos}{e:Expr}{es:List Expr}{t:TA}{id T:String}{r:List V->Hp->VK->Prop}
noncomputable def tCB(r:List V->Hp->VK->Prop)(t:TA):TE:=fun σ H Q=>t σ H fun vs H1=>r vs H1 Q
def zed(hc:zfi X (.builtin id) r)(hg:Gl X x)(hm:X.mg x=none)(U:bootBuiltins x=some (.builtin id))(ha:PA X (e::es) t)(hn:autoParam (x ≠ "__name__") yAR)(J:autoParam ((x==("__debug__":Str))=false) yAR)
  (he:autoParam (starEach (e::es) X.env=(false,eval e X.env)::starEach es X.env) yAW) (ae:autoParam ((backTo pos (starEach es X.env)).any (·.1)=false) yAW):PE X (.Call (.Name x p) (e::es) [] pos) (tCB r t):=by
 intro pins s σ H Q I h;refine yb5 (ze4 I hg hm U ?_ hn J);exact PyProof.Rows.callWith_builtin1 (thn (ha pos pins s σ H _ I h) fun us s1 ⟨vs,H1,b,r1,a⟩=>hc pins s1 σ H1 vs us Q b r1 a) he ae
def zf5(hc:zfi X (.type T) r)(hg:Gl X x)(hm:X.mg x=none)(U:bootBuiltins x=some (.type T))(ha:PA X (e::es) t)(hn:autoParam (x ≠ "__name__") yAR)(J:autoParam ((x==("__debug__":Str))=false) yAR)
  (he:autoParam (starEach (e::es) X.env=(false,eval e X.env)::starEach es X.env) yAW) (ae:autoParam ((backTo pos (starEach es X.env)).any (·.1)=false) yAW):PE X (.Call (.Name x p) (e::es) [] pos) (tCB r t):=by
 intro pins s σ H Q I h;refine yb5 (ze4 I hg hm U ?_ hn J);exact ya3 (thn (ha pos pins s σ H _ I h) fun us s1 ⟨vs,H1,b,r1,a⟩=>hc pins s1 σ H1 vs us Q b r1 a) he ae
end
end L2
namespace HT
open PySem PyProof.Rows
section
open PySem.SeqAt
open PySem.AutoSeq1 (wpAny_loadPart')
open PySem.MeetsSeq PySem.MeetsSeq2 PySem.MeetsSeq3
end
section
variable{prog:Program}{w:World}{A:Around}{E:Z5}{s:Shared}
def zrN{t b:Addr}{vs I:List Value}{Q:Z5}(ht:IsTup s.heap t vs.toArray)(U:IsTup s.heap b I.toArray)(J:vs≠[])
  (h1:I=[]->Q (.ref t) s) (h2:I≠[]->Q (.ref s.heap.objs.size) {s with heap:=s.heap.push {cls:=.type "tuple",data:=.seq (vs++I).toArray}})
  (hsz:vs.length+I.length<=sizeLine):wpAny (model prog w) A (binaryOp .Add (.ref t) (.ref b)) Q E s:=by
 obtain⟨⟨cls,dd,data,i⟩,h,k,n,hd⟩:=id ht;obtain⟨⟨l,g,data2,c⟩,a,f,j,d⟩:=id U;simp only at k hd f d;subst k hd f d
 have e:vs.toArray++I.toArray=(vs++I).toArray:=by simp
 by_cases hw:I=[]
 ·exact concat_meets ⟨_,h,rfl⟩ ⟨_,a,rfl⟩ noFill_tuple_add seq_tuple_add ycK ycA (ycr _ _)
   (tuple_addW1 t b vs.toArray I.toArray n j dd g i c (by simpa using J) (by simp[hw])) ⟨h,a,h1 hw⟩
 ·refine concat_meets ⟨_,h,rfl⟩ ⟨_,a,rfl⟩ noFill_tuple_add seq_tuple_add ycK ycA (ycr _ _)
   (tuple_addW2 t b vs.toArray I.toArray n j dd g i c (by simpa using J) (by simpa using hw) (by rw[yag,yag];exact hsz)) ⟨h,a,?_⟩
  rw[e];exact h2 hw
noncomputable def sIx(n d:Nat):Option Int->Nat
 |none=>d|some v=>if v<0 then(v+(n:Int)).toNat else min v.toNat n
theorem zfk(n d k:Nat):sIx n d (some (k:Int))=min k n:=by
 show(if(k:Int)<0 then((k:Int)+(n:Int)).toNat else min (k:Int).toNat n)=min k n;rw[if_neg (by omega),yaI]
theorem zs6(n d:Nat)(hd:d<=n)(o:Option Int):sIx n d o<=n:=by
 cases o with
 |none=>exact hd|some v=>
  show(if v<0 then(v+(n:Int)).toNat else min v.toNat n)<=n
  by_cases a:v<0
  ·rw[if_pos a];omega
  ·rw[if_neg a];exact Nat.min_le_right _ _
theorem zm0(v:Int)(n d:Nat):(if v<0 then max (v+(n:Int)) 0 else min v (n:Int))=((sIx n d (some v):Nat):Int):=by
 show(if v<0 then max (v+(n:Int)) 0 else min v (n:Int))=(((if v<0 then(v+(n:Int)).toNat else min v.toNat n):Nat):Int)
 by_cases a:v<0
 ·simp only[if_pos a];omega
 ·simp only[if_neg a];omega
theorem zkW(lo hi:Option Int)(n:Nat):Builtin.Slice.sliceAdjust lo hi 1 (n:Int)=(((sIx n 0 lo:Nat):Int),((sIx n n hi:Nat):Int)):=by
 have h1:¬ ((1:Int)<0):=by omega
 unfold Builtin.Slice.sliceAdjust;simp only[h1,yby];refine Prod.ext ?_ ?_
 ·cases lo with
  |none=>rfl|some v=>exact zm0 v n 0
 ·cases hi with
  |none=>rfl|some v=>exact zm0 v n n
theorem zkt(i j:Nat):Builtin.Slice.slicePlaces (i:Int) (j:Int) 1=j-i:=by
 unfold Builtin.Slice.slicePlaces
 have h1:(1:Int) > 0:=by omega
 simp only[h1,ycM,Int.ediv_one]
 split<;>omega
def zgI(p:IsPart v o)(h:Q o s):wpAny (model prog w) A (Builtin.Slice.slicePartIndex v) Q E s:=by
 cases p with
 |none=>exact slicePart_none h|int i t=>exact slicePart_int h
def zdP{sl:Addr}{J I:Value}{lo hi:Option Int}{n:Nat}{Q:Int×Int×Nat->Shared->Prop}(hs:s.heap.IsSliceOf sl J I .none)(pl:IsPart J lo)(pu:IsPart I hi)
  (h:Q (((sIx n 0 lo:Nat):Int),1,sIx n n hi-sIx n 0 lo) s):wpAny (model prog w) A (Builtin.Slice.sliceApplied (.ref sl) (pure (n:Int))) Q E s:=by
 obtain⟨os,a,c,b⟩:=id hs;unfold Builtin.Slice.sliceApplied Builtin.Slice.sliceFields;refine yaa (yaa (ybG a b (x:=J) rfl (yaa (ybG a b (x:=I) rfl (yaa (ybG a b (x:=.none) rfl (yaf ?_)))))));refine yaa (slicePart_none ?_);show wpAny _ _ (if((1:Int)==0)=true then _ else _) _ _ s;rw[if_neg (by decide)];refine yaa (zgI pl (yaa (zgI pu (yaa (yaf ?_)))));show wpAny _ _ (match Builtin.Slice.sliceAdjust lo hi 1 (n:Int)with|(lo,hi)=>pure (lo,(1:Int),Builtin.Slice.slicePlaces lo hi 1)) _ _ s;rw[zkW lo hi n];show wpAny _ _ (pure (((sIx n 0 lo:Nat):Int),(1:Int),Builtin.Slice.slicePlaces ((sIx n 0 lo:Nat):Int) ((sIx n n hi:Nat):Int) 1)) _ _ s;rw[zkt];exact yaf h
theorem znZ(xs:Array Value)(i k:Nat):((List.range k).filterMap fun(m:Nat)=>xs[((i:Int)+(m:Int)*1).toNat]?).toArray=((xs.toList.drop i).take k).toArray:=by
 have e:(fun(m:Nat)=>xs[((i:Int)+(m:Int)*1).toNat]?)=fun m=>xs[i+m]?:=by
  funext m
  have:((i:Int)+(m:Int)*1).toNat=i+m:=by omega
  rw[this]
 rw[e];have:=pick_run xs i k;rw[List.filterMap_map]at this;have a:((fun x=>xs[x]?)∘fun x=>i+x)=fun m=>xs[i+m]?:=rfl
 rw[a]at this;rw[this]
theorem zfo{t sl:Addr}{items:Array Value}{J I:Value}{lo hi:Option Int}{Q:Z5}(ht:IsTup s.heap t items)(hs:s.heap.IsSliceOf sl J I .none)(pl:IsPart J lo)(pu:IsPart I hi)
  (hw:¬ (sIx items.size 0 lo=0/\sIx items.size items.size hi=items.size))
  (h:Q (.ref s.heap.objs.size) {s with heap:=s.heap.push {cls:=.type "tuple",data:=.seq ((items.toList.drop (sIx items.size 0 lo)).take (sIx items.size items.size hi-sIx items.size 0 lo)).toArray}})
  (hsz:items.size<=sizeLine):wpAny (model prog w) A (getItem (.ref t) (.ref sl)) Q E s:=by
 have a:sizeOk (.seq ((items.toList.drop (sIx items.size 0 lo)).take (sIx items.size items.size hi-sIx items.size 0 lo)).toArray):=by
  show((items.toList.drop (sIx items.size 0 lo)).take (sIx items.size items.size hi-sIx items.size 0 lo)).toArray.size<=sizeLine;rw[yag,ybZ,ycm,ybd];omega
 have j:sIx items.size items.size hi<=items.size:=zs6 _ _ (yai _) hi;obtain⟨os,b,d,f⟩:=id hs;have e:s.TypeIs (.ref sl) "slice":=⟨os,b,d⟩;unfold getItem
 try with_reducible refine ybC ?_
 first|refine yaa (yaf ?_)|skip
 refine yaa (wpAny_sequenceKey ht.typeIs (by decide) ?_)
 refine yaa (yaW (name:=Str.ofString "__getitem__") ht.typeIs ya4
  (ya0 ya4 ht.typeIs entry_tuple_getitem ?_ (args_tuple_getitem _ _)))
 show wpAny _ _ (Builtin.Tuple.tupleItemsOf (.ref t) >>= _) _ _ s;refine yaa (tupleItemsOf_ ht ?_);refine yaa (wpAny_typeOf e ?_);rw[if_pos (by decide)];refine yaa (zdP hs pl pu ?_)
 have c:¬ ((((sIx items.size 0 lo:Nat):Int)==0&&(1:Int)==1&&(sIx items.size items.size hi-sIx items.size 0 lo)==items.size)=true):=by
  intro q;rw[yac,yac]at q;have i:((sIx items.size 0 lo:Nat):Int)=0:=eq_of_beq q.1.1;have g:sIx items.size items.size hi-sIx items.size 0 lo=items.size:=eq_of_beq q.2;exact hw ⟨by omega,by omega⟩
 show wpAny _ _ (if(((sIx items.size 0 lo:Nat):Int)==0&&(1:Int)==1&&(sIx items.size items.size hi-sIx items.size 0 lo)==items.size)=true then _ else _) _ _ s;rw[if_neg c,znZ]
 first
  |exact yaa (m:=Builtin.Tuple.tupleExact _) (yaU (yaf ⟨_,rfl,yaf h⟩) a)
  |exact yaa (m:=Builtin.Tuple.tupleExact _) (yaU (yaa (yaf (yaf ⟨_,rfl,yaf h⟩))) a)
  |exact yaa (yaa (m:=Builtin.Tuple.tupleExact _) (yaU (yaf (yaf ⟨_,rfl,yaf h⟩)) a))
  |exact yaa (yaa (m:=Builtin.Tuple.tupleExact _) (yaU (yaf ⟨_,rfl,yaf h⟩) a))
end
end HT
namespace L2
open PySem PySem.Spec PyProof.Rows
noncomputable abbrev TO:=St->Hp->(Option Int->Hp->Prop)->Prop
noncomputable def PO(X:Cx)(e:Option Expr)(t:TO):Prop:=
 ∀(pins:Z3) (s:Shared) (σ:St) (H:Hp) (Q:Option Int->Hp->Prop),Inv X pins σ H s->t σ H Q →
  wpAny (model X.prog X.w) X.A (evalPart e X.env) (fun u s'=>∃o H',Inv X pins σ H' s'/\IsPart u o/\Q o H') X.xe s
noncomputable def zlh:TO:=fun _ H Q=>Q none H
noncomputable def zsj(t:TE):TO:=fun σ H Q=>t σ H fun x H1=>∃i,x=.int i/\Q (some i) H1
section
variable{X:Cx}{e:Expr}{te:TE}{lo hi:Option Expr}{tl th:TO}{pos p2:Pos}
def zqH:PO X none zlh:=by
 intro pins s σ H Q I h;rw[evalPart_none];exact yaf ⟨none,H,I,.none,h⟩
def zqG(h:PE X e te):PO X (some e) (zsj te):=by
 intro pins s σ H Q I b;rw[evalPart_some];refine thn (h pins s σ H _ I b) fun u s1 ⟨x,H1,c,r1,a⟩=>?_
 obtain⟨i,rfl,q⟩:=a;obtain⟨t,rfl⟩:=r1;exact⟨some i,H1,c,.int i t,q⟩
noncomputable def SlR(X:Cx)(r:V->Option Int->Option Int->Hp->VK->Prop):Prop:=
 ∀(pins:Z3) (s:Shared) (σ:St) (H:Hp) (x:V) (v b a:Value) (lo hi:Option Int) (c:Addr) (Q:VK),Inv X pins σ H s->zbD x v->s.heap.IsSliceOf c b a .none->IsPart b lo->IsPart a hi->r x lo hi H Q →
  ∃T id,typeLookup (.type T) "__getitem__"=pure (some (.builtin id))/\s.TypeIs v T/\wpAny (model X.prog X.w) X.A (getItem v (.ref c)) (EP X pins σ Q) X.xe s
noncomputable def tSl(r:V->Option Int->Option Int->Hp->VK->Prop)(te:TE)(tl th:TO):TE:=fun σ H Q=>te σ H fun x H1=>tl σ H1 fun l H2=>th σ H2 fun u a=>r x l u a Q
def zn7(U:SlR X r)(he:PE X e te)(hl:PO X lo tl)(J:PO X hi th):PE X (.Subscript e (.Slice lo hi none p2) pos) (tSl r te tl th):=by
 intro pins s σ H Q I h;refine Subscript_ (thn (he pins s σ H _ I h) fun v s1 ⟨x,H1,p,r1,i⟩=>?_);refine wpAny_Slice (thn (hl pins s1 σ H1 _ p i) fun c s2 ⟨l,H2,o,pl,g⟩=>thn (J pins s2 σ H2 _ o g) fun a s3 ⟨u,d,n,pu,f⟩=>?_);rw[evalPart_none];refine yaf ?_;have m:Inv X pins σ d {s3 with heap:=s3.heap.push {cls:=.type "slice",data:=.fields #[c,a,.none]}}:=n.kept (t':=s3.toks) fun b ob q=>yae _ q
 obtain⟨T,id,k,ht,j⟩:=U pins {s3 with heap:=s3.heap.push {cls:=.type "slice",data:=.fields #[c,a,.none]}} σ d x v c a l u s3.heap.objs.size Q m r1 (Heap.IsSliceOf.new ..) pl pu f;show wpAny (model X.prog X.w) X.A (subscriptTail e (.Slice lo hi none p2) v (.ref s3.heap.objs.size)) (EP X pins σ Q) X.xe {s3 with heap:=s3.heap.push {cls:=.type "slice",data:=.fields #[c,a,.none]}};exact tail_any (ops:=[.ref s3.heap.objs.size,v]) ht k j (by with_unfolding_all rfl)
def zpI(xs:List V)(lo hi:Option Int):List V:=(xs.drop (HT.sIx xs.length 0 lo)).take (HT.sIx xs.length xs.length hi-HT.sIx xs.length 0 lo)
theorem zgw(xs:List V)(lo hi:Option Int):(zpI xs lo hi).length<=xs.length:=by
 unfold zpI;rw[ybZ,ycm];omega
noncomputable def zzg(K:PySem.W.Frag):V->Option Int->Option Int->Hp->VK->Prop:=fun x lo hi H Q=>∃a xs,x=.ref a/\SqT K H a xs ∧
 ¬ (HT.sIx xs.length 0 lo=0/\HT.sIx xs.length xs.length hi=xs.length)/\∀p,H p=none->Q (.ref p) (upd H p (.tup (zpI xs lo hi)))
def zsK:SlR X (zzg X.K):=by
 intro pins s σ H x v j i lo hi k Q I e hs pl pu h;obtain⟨a,xs,rfl,f,g,q⟩:=h;cases e;obtain⟨c,r,ht,d⟩:=I.tuple f
 have hlen:c.toArray.size=xs.length:=by rw[yag];exact r.length.symm
 refine⟨"tuple",_,ya4.lookup,ht.typeIs,?_⟩;refine HT.zfo ht hs pl pu (by rw[hlen];exact g) ?_ (by rw[hlen];exact d);rw[hlen];refine⟨.ref s.heap.objs.size,_,I.laid (t':=s.toks) (o:=.tup (zpI xs lo hi)) (fun b ob q=>yae _ q) (yai _) ?_,rfl,q _ (I.hok.fresh (yai _))⟩;exact⟨yal (zgw xs lo hi) d,_,(r.drop (HT.sIx xs.length 0 lo)).take (HT.sIx xs.length xs.length hi-HT.sIx xs.length 0 lo),IsTup.new _ _⟩
noncomputable def zvY(K:PySem.W.Frag):R2:=fun x y H Q=>∃a b xs ys,x=.ref a/\y=.ref b/\SqT K H a xs/\SqT K H b ys/\xs≠[]/\xs.length+ys.length<=sizeLine ∧
 (ys=[]->Q (.ref a) H)/\(ys≠[]->∀p,H p=none->Q (.ref p) (upd H p (.tup (xs++ys))))
def Vals.nil_iff(r:Vals xs us):us=[]↔xs=[]:=by
 cases r with
 |nil=>simp|cons _ _=>simp
def zqX:OpR X (binaryOp .Add) (zvY X.K):=by
 intro pins s σ H x y v u Q I g f h;obtain⟨a,b,xs,ys,rfl,rfl,p,n,m,e,j,i⟩:=h;cases g;cases f;obtain⟨l,r1,k,_⟩:=I.tuple p;obtain⟨d,c,p2,_⟩:=I.tuple n;refine HT.zrN k p2 (fun z=>m (r1.nil_iff.mp z)) (fun z=>⟨.ref a,H,I,rfl,j (c.nil_iff.mp z)⟩) (fun z=>?_) (by rw[<-r1.length,<-c.length];exact e);refine⟨.ref s.heap.objs.size,_,I.laid (t':=s.toks) (o:=.tup (xs++ys)) (fun b ob q=>yae _ q) (yai _) ?_,rfl,i (fun w=>z (c.nil_iff.mpr w)) _ (I.hok.fresh (yai _))⟩;exact⟨by rw[yak];exact e,_,r1.append c,IsTup.new _ _⟩
end
noncomputable def ixN(n:Nat)(i:Int):Option Nat:=if 0<=i then(if i<n then some i.toNat else none)else if -(n:Int)<=i then some (i+n).toNat else none
def atI{α:Type}(xs:List α)(i:Int):Option α:=(ixN xs.length i).bind fun j=>xs[j]?
theorem zro(h:ixN n i=some j):seqIndex? i n=some j/\j<n/\-(n:Int)<=i/\i<n:=by
 unfold ixN at h
 by_cases h0:0<=i
 ·rw[if_pos h0]at h
  by_cases h1:i<n
  ·rw[if_pos h1]at h;have e:i.toNat=j:=Option.some.inj h;exact⟨by rw[seqIndex_of h0 h1,e],by omega,by omega,h1⟩
  ·rw[if_neg h1]at h;cases h
 ·rw[if_neg h0]at h
  by_cases h1:-(n:Int)<=i
  ·rw[if_pos h1]at h;have e:(i+n).toNat=j:=Option.some.inj h;exact⟨by rw[seqIndex_neg (by omega) h1,e],by omega,h1,by omega⟩
  ·rw[if_neg h1]at h;cases h
def zm9{α:Type}{xs:List α}{v:α}(h:atI xs i=some v):∃j,seqIndex? i xs.length=some j/\xs[j]?=some v/\j<xs.length/\-(xs.length:Int)<=i/\i<xs.length:=by
 unfold atI at h
 cases e:ixN xs.length i with
 |none=>rw[e]at h;cases h|some j=>
  rw[e]at h;obtain⟨h1,h2,a,h4⟩:=zro e;exact⟨j,h1,h,h2,a,h4⟩
theorem zkb{α:Type}(xs:List α)(v:α):atI (xs++[v]) (-1)=some v:=by
 have a:(xs++[v]).length=xs.length+1:=by simp
 have e:ixN (xs++[v]).length (-1)=some xs.length:=by
  unfold ixN;rw[a,if_neg (by decide),if_pos (by omega)];congr 1;omega
 unfold atI;rw[e];show(xs++[v])[xs.length]?=some v;simp
noncomputable def zhF(b:Expr):Prop:=∀o i,subscripted b false o i=operate [o,i] (getItem o i)
noncomputable def IxR(X:Cx)(r:R2):Prop:=
 ∀(value slice:Expr) (pins:Z3) (s:Shared) (σ:St) (H:Hp) (x y:V) (v u:Value) (Q:VK),Inv X pins σ H s->zbD x v->zbD y u->r x y H Q →
  subscripted slice false v u=operate [v,u] (getItem v u)->wpAny (model X.prog X.w) X.A (subscriptTail value slice v u) (EP X pins σ Q) X.xe s
noncomputable def MtR(X:Cx)(id:String)(r:V->List V->Hp->VK->Prop):Prop:=
 ∀(pins:Z3) (s:Shared) (σ:St) (H:Hp) (x:V) (xs:List V) (v:Value) (us:List Value) (Q:VK),Inv X pins σ H s->zbD x v->Vals xs us->r x xs H Q →
  wpAny (model X.prog X.w) X.A (call (.builtin id) (v::us)) (EP X pins σ Q) X.xe s
section
variable{X:Cx}{a b:Expr}{ta tb:TE}{pos:Pos}
def ztB(J:IxR X r)(ha:PE X a ta)(U:PE X b tb)(hs:zhF b):PE X (.Subscript a b pos) (tOp r ta tb):=by
 intro pins s σ H Q I h;exact Subscript_ (zwP ha U I h fun v u s2 x y H2 e d c q=>J a b pins s2 σ H2 x y v u Q e d c q (hs _ _))
noncomputable def zzl(K:PySem.W.Frag):R2:=fun x y H Q=>∃p xs i v,x=.ref p/\y=.int i/\SqL K H p xs/\atI xs i=some v/\Q v H
noncomputable def zzk(K:PySem.W.Frag):R2:=fun x y H Q=>∃p xs i v,x=.ref p/\y=.int i/\SqT K H p xs/\atI xs i=some v/\Q v H
theorem zmw:IxR X (zzl X.K):=by
 intro value slice pins s σ H x y v u Q I f e h hs;obtain⟨p,xs,i,z,rfl,rfl,g,he,q⟩:=h;cases f;obtain⟨t,rfl⟩:=e;obtain⟨b,r,pl,m⟩:=I.list g;obtain⟨j,h1,h2,o,h4,l⟩:=zm9 he;obtain⟨w,d,a⟩:=r.get h2;have k:=r.length;have n:=zjP;have fin:EP X pins σ Q w s:=⟨z,H,I,a,q⟩
 by_cases h0:0<=i
 ·have c:i.toNat=j:=by
   rw[seqIndex_of h0 l]at h1;exact Option.some.inj h1
  exact item_listR pl.isList h0 (by omega) (by rw[c];simpa using d) fin hs
 ·have c:(i+(b.toArray.size:Int)).toNat=j:=by
   rw[seqIndex_neg (by omega) h4]at h1;rw[yag,<-k];exact Option.some.inj h1
  exact ycL (x:=w) pl.isList.typeIs slot_list_getitem.lookup
   (wpAny_getItem_list_neg (Q:=fun r s'=>r=w/\EP X pins σ Q r s') pl.isList (by omega) (by rw[yag]<;>omega) (by omega) (by rw[c];simpa using d) ⟨rfl,fin⟩) hs
theorem zuu:IxR X (zzk X.K):=by
 intro value slice pins s σ H x y v u Q I c b h hs;obtain⟨p,xs,i,z,rfl,rfl,e,he,q⟩:=h;cases c;obtain⟨t,rfl⟩:=b;obtain⟨d,r,pl,k⟩:=I.tuple e;obtain⟨j,h1,h2,n,h4,m⟩:=zm9 he;obtain⟨w,g,a⟩:=r.get h2;have f:=r.length;have l:=zjP;have fin:EP X pins σ Q w s:=⟨z,H,I,a,q⟩
 exact ycL (x:=w) pl.typeIs slot_tuple_getitem.lookup
  (getItem_tuple (j:=j) (Q:=fun r s'=>r=w/\EP X pins σ Q r s') pl (by omega) (by omega) (by rw[yag,<-f];exact h1) (by simpa using g) ⟨rfl,fin⟩) hs
theorem zhU(lo hi:Option Int)(n:Nat):(sliceBounds lo hi none n).1=((HT.sIx n 0 lo:Nat):Int)/\(sliceBounds lo hi none n).2.1=((HT.sIx n n hi:Nat):Int)/\(sliceBounds lo hi none n).2.2=1:=by
 refine⟨?_,?_,rfl⟩
 ·cases lo with
  |none=>simp[sliceBounds,HT.sIx]|some i=>
   simp only[sliceBounds,HT.sIx,Option.getD_none,show(1:Int) > 0 by decide,ycM]
   by_cases h:i<0
   ·simp only[h,ycM]<;>omega
   ·simp only[h,yby]<;>omega
 ·cases hi with
  |none=>simp[sliceBounds,HT.sIx]|some i=>
   simp only[sliceBounds,HT.sIx,Option.getD_none,show(1:Int) > 0 by decide,ycM]
   by_cases h:i<0
   ·simp only[h,ycM]<;>omega
   ·simp only[h,yby]<;>omega
def zhb(I:List Value)(lo hi:Option Int):slicePick I.toArray lo hi none=((I.drop (HT.sIx I.length 0 lo)).take (HT.sIx I.length I.length hi-HT.sIx I.length 0 lo)).toArray:=by
 obtain⟨h1,h2,a⟩:=zhU lo hi I.toArray.size;unfold slicePick;rw[h1,h2,a]
 simp only[sliceRange_one,pick_run,yag]<;>rfl
noncomputable def zzh(K:PySem.W.Frag):V->Option Int->Option Int->Hp->VK->Prop:=fun x lo hi H Q=>∃a xs,x=.ref a/\SqL K H a xs/\∀p,H p=none->Q (.ref p) (upd H p (.lst (zpI xs lo hi)))
theorem zqh:SlR X (zzh X.K):=by
 intro pins s σ H x v i g lo hi j Q I c hs pl pu h;obtain⟨a,xs,rfl,f,q⟩:=h;cases c;obtain⟨d,r,ht,e⟩:=I.list f;have hlen:=r.length;refine⟨"list",_,slot_list_getitem.lookup,ht.isList.typeIs,?_⟩;refine wpAny_getItem_list_slice ht.isList hs pl pu .none (by simp) ?_ (by rw[yag]<;>omega);rw[zhb,<-hlen];refine⟨.ref s.heap.objs.size,_,I.laid (t':=s.toks) (o:=.lst (zpI xs lo hi)) (fun b ob q=>yae _ q) (yai _) ?_,rfl,q _ (I.hok.fresh (yai _))⟩;exact⟨yal (zgw xs lo hi) e,_,0,(r.drop (HT.sIx xs.length 0 lo)).take (HT.sIx xs.length xs.length hi-HT.sIx xs.length 0 lo),yaq _ rfl⟩
theorem zc6:zfi X (.builtin "len") (fun xs H Q=>∃p ys,xs=[.ref p]/\(SqL X.K H p ys\/SqT X.K H p ys)/\Q (.int ys.length) H):=by
 intro pins s σ H xs us Q I r h;obtain⟨p,ys,rfl,a,q⟩:=h;obtain⟨u,rfl,c⟩:=zhN r;cases c;have e:=zjP
 rcases a with a|a
 ·obtain⟨b,r',pl,d⟩:=I.list a;have hlen:=r'.length;exact Calls.call_len_list pl.isList (by simp only[yag]<;>omega) ⟨.int ys.length,H,I.tok _,⟨s.toks+1,by rw[yag,hlen]⟩,q⟩
 ·obtain⟨b,r',pl,d⟩:=I.tuple a;have hlen:=r'.length;exact len_tuple pl (by simp only[yag]<;>omega) ⟨.int ys.length,H,I.tok _,⟨s.toks+1,by rw[yag,hlen]⟩,q⟩
theorem ziv:zfi X (.builtin "len") (fun xs H Q=>∃z,xs=[.str z]/\z.length<=sizeLine/\Q (.int z.length) H):=by
 intro pins s σ H xs us Q I r h;obtain⟨z,rfl,a,q⟩:=h;obtain⟨u,rfl,t,rfl⟩:=zhN r;have b:=zjP;exact len_str (by omega) ⟨.int z.length,H,I.tok _,⟨_,rfl⟩,q⟩
def zfC:zfi X (.type "list") (fun xs H Q=>∃p ys,xs=[.ref p]/\(SqL X.K H p ys\/SqT X.K H p ys)/\∀l,H l=none->Q (.ref l) (upd H l (.lst ys))):=by
 intro pins s σ H xs us Q I r h;obtain⟨p,ys,rfl,d,q⟩:=h;obtain⟨u,rfl,i⟩:=zhN r;cases i
 have fin:∀(a:List Value),Vals ys a->ys.length<=sizeLine->∀(h':Heap) (c':Nat),(∀b o',s.heap.get? b=some o'->h'.get? b=some o') →
   h'.get? s.heap.objs.size=some {cls:=.type "list",dict:=none,data:=.seq a.toArray c',slots:=#[]}->EP X pins σ Q (.ref s.heap.objs.size) {s with heap:=h'}:=fun a r' c h' c' kp e=>
  ⟨.ref s.heap.objs.size,_,I.laid (t':=s.toks) kp (yai _) (show zb8 X.prog X.w _ h' _ (.lst ys)from⟨c,a,c',r',e⟩),rfl,q _ (I.hok.fresh (yai _))⟩
 rcases d with d|d
 ·obtain⟨a,r',pl,c⟩:=I.list d;have hlen:=r'.length;obtain⟨o,f,g,n,hd⟩:=pl.isList;exact call_list_seq p (.inl rfl) f g hd (fun h' c' kp e=>fin a r' c h' c' kp e) (by simp only[yag]<;>omega)
 ·obtain⟨a,r',pl,c⟩:=I.tuple d;have hlen:=r'.length;obtain⟨o,f,g,n,hd⟩:=pl;exact call_list_seq p (.inr rfl) f g hd (fun h' c' kp e=>fin a r' c h' c' kp e) (by simp only[yag]<;>omega)
theorem zfg:zfi X (.type "tuple") (fun xs H Q=>∃p ys,xs=[.ref p]/\((SqL X.K H p ys/\∀l,H l=none->Q (.ref l) (upd H l (.tup ys)))\/(SqT X.K H p ys/\Q (.ref p) H))):=by
 intro pins s σ H xs us Q I r h;obtain⟨p,ys,rfl,h⟩:=h;obtain⟨u,rfl,g⟩:=zhN r;cases g
 rcases h with⟨c,q⟩|⟨c,q⟩
 ·obtain⟨a,r',pl,d⟩:=I.list c;have hlen:=r'.length;refine call_tuple_list pl.isList (fun h' kp=>?_) (by simp only[yag]<;>omega);have f:Inv X pins σ H {s with heap:=h'}:=I.kept (t':=s.toks) kp
  have i:Inv X pins σ (upd H h'.objs.size (.tup ys)) {s with heap:=h'.push {cls:=.type "tuple",data:=.seq a.toArray}}:=
   f.laid (t':=s.toks) (fun b o e=>yae _ e) (yai _) (show zb8 X.prog X.w _ _ _ (.tup ys)from⟨d,a,r',IsTup.new _ _⟩)
  exact⟨.ref h'.objs.size,_,i,rfl,q _ (f.hok.fresh (yai _))⟩
 ·obtain⟨a,r',pl,d⟩:=I.tuple c;exact call_tuple_same pl ⟨.ref p,H,I,rfl,q⟩
noncomputable def tyV(K:PySem.W.Frag)(T:String)(x:V)(H:Hp):Prop:=match x with
 |.str _=>T="str"|.int _=>T="int"|.ref p=>(T="list" /\ ∃xs,SqL K H p xs)\/(T="tuple" /\ ∃o,K.lookup p=some o/\o.cls=.type "tuple" /\ o.dict=none) ∨
   (T="dict" /\ ((∃a,H p=some (.dK a))\/∃a,H p=some (.dT a)))\/(T="set" /\ ∃S n,H p=some (.set S n))
 |_=>False
def zpe(I:Inv X pins σ H s)(r:zbD x v)(ty:tyV X.K T x H):
  s.TypeIs v T/\∀a,v=.ref a->∃ob,s.heap.get? a=some ob/\ob.dict=none:=by
 cases x with
 |str z=>
  obtain⟨t,rfl⟩:=r;cases (show T="str"from ty);exact⟨typeIs_str s z t,fun _ e=>nomatch e⟩
 |int i=>
  obtain⟨t,rfl⟩:=r;cases (show T="int"from ty);exact⟨yc5 s i t,fun _ e=>nomatch e⟩
 |ref p=>
  cases r
  rcases ty with⟨rfl,xs,h⟩|⟨rfl,o,b,j,hd⟩|⟨rfl,b⟩|⟨rfl,S,n,b⟩
  ·obtain⟨g,_,pl,_⟩:=I.list h;refine⟨pl.isList.typeIs,fun a e=>?_⟩;cases e;obtain⟨o,n,e,c,hd,_⟩:=pl;exact⟨o,e,hd⟩
  ·refine⟨⟨o,I.kIn p o b,j⟩,fun a e=>?_⟩;cases e;exact⟨o,I.kIn _ o b,hd⟩
  ·have z:∃o,s.heap.get? p=some o/\o.ExactDict:=by
    rcases b with⟨d,b⟩|⟨d,b⟩
    ·obtain⟨_,_,_,_,o,_,_,e,ex,_⟩:=I.hok p _ b;exact⟨o,e,ex⟩
    ·obtain⟨_,_,_,_,o,_,_,e,ex,_⟩:=I.hok p _ b;exact⟨o,e,ex⟩
   obtain⟨o,e,ex⟩:=z;refine⟨⟨o,e,ex.1⟩,fun a f=>?_⟩;cases f;exact⟨o,e,ex.2.1⟩
  ·obtain⟨o,_,_,_,e,ex,_⟩:=I.hok p _ b;refine⟨⟨o,e,ex.1⟩,fun a f=>?_⟩;cases f;exact⟨o,e,ex.2.1⟩
 |_=>exact False.elim ty
noncomputable def zy8(K:PySem.W.Frag)(T:String)(r:V->List V->Hp->VK->Prop)(to:TE):TE:=fun σ H Q=>to σ H fun x H1=>tyV K T x H1/\r x [] H1 Q
noncomputable def tBM(K:PySem.W.Frag)(T:String)(r:V->List V->Hp->VK->Prop)(to:TE)(t:TA):TE:=fun σ H Q=>to σ H fun x H1=>tyV K T x H1/\t σ H1 fun xs H2=>r x xs H2 Q
variable{o e:Expr}{es:List Expr}{to:TE}{t:TA}{name:Str}{apos cpos:Pos}{T id:String}{r:V->List V->Hp->VK->Prop}
def zl3(pa:PlainAttrs T)(slot:Slot T name id)(J:typeOf (.builtin id)=pure (.type "method_descriptor"))(hm:MtR X id r)(ho:PE X o to)
  (ag:autoParam (attributeBase o name X.env (eval o X.env)=eval o X.env) yAW) (aa:autoParam ((apos.endLine==cpos.line)=true) yAW):PE X (.Call (.Attribute o name apos) [] [] cpos) (zy8 X.K T r to):=by
 intro pins s σ H Q I h;refine wpAny_Call_method0_late ag aa (thn (ho pins s σ H _ I h) fun v s1 ⟨x,H1,a,r1,ty,b⟩=>?_);obtain⟨h1,h2⟩:=zpe a r1 ty;exact⟨T,id,pa,slot,J,h1,h2,Calls.callWith_builtin rfl (PySem.evalArgs_none (hm pins s1 σ H1 x [] v [] Q a r1 .nil b))⟩
def zl4(pa:PlainAttrs T)(slot:Slot T name id)(J:typeOf (.builtin id)=pure (.type "method_descriptor"))(hm:MtR X id r)(ho:PE X o to)(U:PA X (e::es) t)
  (ag:autoParam (attributeBase o name X.env (eval o X.env)=eval o X.env) yAW)
  (hfew:autoParam (((backTo cpos (starEach (e::es) X.env)).all (fun x=>!x.1)&&(backToKw cpos (keywordEach [] X.env)).all (fun x=>x.1.isSome)
   && decide ((e::es).length+([]:List Keyword).length+(if([]:List Keyword).isEmpty then 0 else 1)<30))=true) yAW)
  (aa:autoParam ((apos.endLine==cpos.line)=true) yAW) (hs:autoParam (starEach (e::es) X.env=(false,eval e X.env)::starEach es X.env) yAW) (ah:autoParam ((backTo cpos (starEach es X.env)).any (·.1)=false) yAW):
  PE X (.Call (.Attribute o name apos) (e::es) [] cpos) (tBM X.K T r to t):=by
 intro pins s σ H Q I h;refine wpAny_Call_method_late ag hfew aa rfl (thn (ho pins s σ H _ I h) fun v s1 ⟨x,H1,b,r1,ty,f⟩=>?_);obtain⟨h1,h2⟩:=zpe b r1 ty;refine⟨T,id,pa,slot,J,h1,h2,?_⟩;have a:=U cpos pins s1 σ H1 _ b f;rw[hs]at a ⊢;refine Calls.callWith_builtin (by show(false||(backTo cpos (starEach es X.env)).any (·.1))=false;rw[ah]<;>rfl) (Calls.evalArgs_plain ?_);exact thn a fun us s2 ⟨vs,H2,g,c,d⟩=>hm pins s2 σ H2 x vs v us Q g r1 c d
end
noncomputable def MtM(X:Cx)(id:String)(r:V->List V->Hp->VK->Prop):Prop:=
 ∀(pins:Z3) (s:Shared) (σ:St) (H:Hp) (x:V) (xs:List V) (v:Value) (us:List Value) (Q:VK),Inv X pins σ H s->zbD x v->Vals xs us->r x xs H Q →
  wpAny (model X.prog X.w) X.A (call (.builtin id) (v::us)) (EP X pins σ Q) X.xe s
theorem Vals.one:∀{x:V}{us:List Value},Vals [x] us->∃u,us=[u]/\zbD x u
 |_,_,.cons r .nil=>⟨_,rfl,r⟩
theorem Vals.zero:∀{us:List Value},Vals [] us->us=[]
 |_,.nil=>rfl
theorem Vals.dropLast(h:Vals xs us):Vals xs.dropLast us.dropLast:=by
 induction h with
 |nil=>exact .nil|cons r t a=>
  cases t with
  |nil=>exact .nil|cons q t'=>exact .cons r a
theorem Vals.rep(h:Vals xs us):∀k:Nat,Vals (List.replicate k xs).flatten (List.replicate k us).flatten
 |0=>.nil|k+1=>by
  rw[ybf,ybf,ybE,ybE];exact Vals.append h (Vals.rep h k)
def zkK{α:Type}(l:List α):l.eraseIdx (l.length-1)=l.dropLast:=by
 induction l with
 |nil=>rfl|cons a r c=>
  cases r with
  |nil=>rfl|cons b r=>
   have e:(a::b::r).length-1=((b::r).length-1)+1:=by
    have h1:(a::b::r).length=r.length+2:=rfl;have h2:(b::r).length=r.length+1:=rfl;omega
   rw[e,List.eraseIdx_cons_succ,c]
   all_goals rfl
theorem zgn(I:List Value):∀(k:Nat) (acc:List Value),
  List.foldl (fun x1 x2=>x1++x2) acc.toArray (List.replicate k I.toArray)=(acc++(List.replicate k I).flatten).toArray
 |0,acc=>by simp
 |k+1,acc=>by
  have e:acc.toArray++I.toArray=(acc++I).toArray:=by simp
  have a:(acc++I)++(List.replicate k I).flatten=acc++(List.replicate (k+1) I).flatten:=by
   rw[ybf,ybE,ybP]
  rw[<-a,<-zgn I k (acc++I),<-e,ybf,List.foldl_cons]
section
variable{X:Cx}{pins:Z3}{σ:St}{H:Hp}{s:Shared}{l b:Addr}{xs ys zs:List V}
def Inv.lset{J ai:List Value}{n:Nat}{f:Array Value->Array Value}{t':Nat}(I:Inv X pins σ H s)(hH:H l=some (.lst xs))
  (e:s.heap.get? l=some {cls:=.type "list",data:=.seq J.toArray n}) (hf:f J.toArray=ai.toArray) (hv:Vals ys ai) (U:ys.length<=sizeLine):
  Inv X pins σ (upd H l (.lst ys)) {s with heap:=s.heap.update l (Obj.mapSeq f),toks:=t'}:=by
 have q:=PySem.IsL.update e f;rw[hf]at q;refine I.write (x:=l) (e:=l) (by rw[hH];exact trivial) (.inl rfl) (fun c u b a=>(Heap.get?_update_other s.heap (Obj.mapSeq f) (Ne.symm b)).trans a) ⟨_,q⟩ ?_;exact⟨U,ai,_,hv,q⟩
def Inv.lnew(I:Inv X pins σ H s)(hv:Vals ys J)(U:ys.length<=sizeLine):
  Inv X pins σ (upd H s.heap.objs.size (.lst ys)) {s with heap:=s.heap.push {cls:=.type "list",data:=.seq J.toArray},toks:=t'}:=
 I.laid (fun _ _ q=>yae _ q) (yai _) ⟨U,J,0,hv,yaq _ rfl⟩
theorem Inv.fresh(I:Inv X pins σ H s):H s.heap.objs.size=none:=I.hok.fresh (yai _)
def Inv.lstM(I:Inv X pins σ H s)(U:H l=some (.lst xs)):xs.length<=sizeLine/\∃(J:List Value) (n:Nat),Vals xs J/\xs.length=J.length/\s.heap.get? l=some {cls:=.type "list",data:=.seq J.toArray n}:=by
 obtain⟨z,J,n,r,e⟩:=I.hok l _ U;exact⟨z,J,n,r,r.length,e⟩
theorem zjK(h:n<=sizeLine):Builtin.List.listTooLong n=false:=by
 unfold Builtin.List.listTooLong;exact yaE (by omega)
end
section
variable{X:Cx}
noncomputable def zqA:V->List V->Hp->VK->Prop:=fun x vs H Q=>∃l xs y,x=.ref l/\vs=[y]/\H l=some (.lst xs)/\xs.length<sizeLine/\Q .non (upd H l (.lst (xs++[y])))
theorem zgb:MtM X "list.append" zqA:=by
 intro pins s σ H x vs v us Q I c d h;obtain⟨l,xs,y,rfl,rfl,b,g,q⟩:=h;cases c;obtain⟨u,rfl,f⟩:=d.one;obtain⟨z,a,n,r,i,e⟩:=I.lstM b;refine ycs F.slot_list_append ⟨_,e,rfl⟩ F.entry_list_append (F.args_list_append_2 _ _) (PySem.list_append l a.toArray n u (by rw[yag];omega)) ⟨e,?_⟩;refine⟨.non,_,I.lset (ai:=a++[u]) b e (by simp) (r.append (.cons f .nil)) ?_,rfl,q⟩;rw[yak,yaH];omega
noncomputable def zqz:V->List V->Hp->VK->Prop:=fun x vs H Q=>∃l b xs zs,x=.ref l/\vs=[.ref b]/\H l=some (.lst xs)/\H b=some (.lst zs)/\xs.length+zs.length<=sizeLine/\Q .non (upd H l (.lst (xs++zs)))
theorem zmh:MtM X "list.extend" zqz:=by
 intro pins s σ H x vs v us Q I g i h;obtain⟨l,b,xs,zs,rfl,rfl,f,p,y,q⟩:=h;cases g;obtain⟨u,rfl,j⟩:=i.one;cases j;obtain⟨z,c,n,r,A,e⟩:=I.lstM f;obtain⟨w,a,m,k,o,t⟩:=I.lstM p
 have hsz:c.toArray.size+a.toArray.size<=sizeLine:=by rw[yag,yag];omega
 have d:¬ (!c.toArray.isEmpty&&Builtin.List.listTooLong (c.toArray.size+a.toArray.size))=true:=by
  rw[zjK hsz,Bool.and_false];exact yaR
 refine ycs F.slot_list_extend ⟨_,e,rfl⟩ F.entry_list_extend (F.args_list_extend_2 _ _)
  (AutoSeq1.list_extend_list_list_0 l c.toArray n b a.toArray m d (by rw[yag];omega) (by omega)) ⟨e,t,?_⟩
 refine⟨.non,_,I.lset (ai:=c++a) f e (by simp) (r.append k) ?_,rfl,q⟩;rw[yak];omega
noncomputable def zzj:V->List V->Hp->VK->Prop:=fun x vs H Q=>∃l xs y,x=.ref l/\vs=[]/\H l=some (.lst xs)/\xs[xs.length-1]?=some y/\Q y (upd H l (.lst xs.dropLast))
theorem zmg:MtM X "list.pop" zzj:=by
 intro pins s σ H x vs v us Q I f g h;obtain⟨l,xs,y,rfl,rfl,d,j,q⟩:=h;cases f;have c:=g.zero;subst c;obtain⟨z,a,n,r,m,e⟩:=I.lstM d;obtain⟨u,k,i⟩:=r.get j
 have b:a.toArray[a.toArray.size-1]?=some u:=by
  show a.toArray[a.length-1]?=some u;rw[<-ycR,<-m];exact k
 refine ycs F.slot_list_pop ⟨_,e,rfl⟩ F.entry_list_pop (F.args_list_pop_1 _) (MeetsSeq.list_pop_last l a.toArray n u b (by rw[yag];omega)) ⟨e,?_⟩;refine⟨y,_,I.lset (ai:=a.dropLast) d e ?_ r.dropLast ?_,i,q⟩
 ·show a.toArray.eraseIdxIfInBounds (a.toArray.size-1)=a.dropLast.toArray;rw[yag,List.eraseIdxIfInBounds_toArray,zkK]
 ·rw[yc1];omega
noncomputable def zzm:R2:=fun x y H Q=>∃l b xs zs,x=.ref l/\y=.ref b/\H l=some (.lst xs)/\H b=some (.lst zs)/\xs.length+zs.length<=sizeLine/\∀p,H p=none->Q (.ref p) (upd H p (.lst (xs++zs)))
theorem ztN:OpR X (binaryOp .Add) zzm:=by
 intro pins s σ H x y v u Q I f d h;obtain⟨l,b,xs,zs,rfl,rfl,j,k,w,q⟩:=h;cases f;cases d;obtain⟨z,c,n,r,A,e⟩:=I.lstM j;obtain⟨p,a,t,g,i,o⟩:=I.lstM k;refine PySem.P.add_list e o ?_ (by rw[yag,yag];omega)
 have m:c.toArray++a.toArray=(c++a).toArray:=by simp
 rw[m];exact⟨.ref _,_,I.lnew (t':=s.toks) (r.append g) (by rw[yak];omega),rfl,q _ I.fresh⟩
noncomputable def zzi:R2:=fun x y H Q=>∃l k xs,x=.ref l/\y=.int k/\H l=some (.lst xs)/\-(2 ^ 63)<=k/\k<2 ^ 63/\xs.length*k.toNat<=sizeLine ∧
 ∀p,H p=none->Q (.ref p) (upd H p (.lst (List.replicate k.toNat xs).flatten))
def zi0{α:Type}(xs:List α)(k:Nat):(List.replicate k xs).flatten.length=k*xs.length:=by
 induction k with
 |zero=>simp|succ k a=>rw[ybf,ybE,yak,a,yb8,Nat.add_comm]
theorem ztI:OpR X (binaryOp .Mult) zzi:=by
 intro pins s σ H x y v u Q I p o h;obtain⟨l,k,xs,rfl,rfl,A,h1,h2,j,q⟩:=h;cases p;obtain⟨t,rfl⟩:=o;obtain⟨z,b,n,r,w,e⟩:=I.lstM A
 have hlen:b.toArray.size*k.toNat<=sizeLine:=by rw[yag,<-w];exact j
 have g:¬ b.toArray.size*k.toNat > (2 ^ 63-1) / 8:=by
  have:(sizeLine:Nat)<=(2 ^ 63-1) / 8:=by decide
  omega
 have f:¬ (!Builtin.List.listFitsIndex k)=true:=by
  rw[fitsIndex_both h1 h2];exact yaR
 have c:¬ Builtin.List.listTooLong (b.toArray.size*k.toNat)=true:=by
  rw[zjK hlen];exact yaR
 have d:List.foldl (fun x1 i=>x1++i) #[] (List.replicate (if b.toArray.isEmpty=true then 0 else k.toNat) b.toArray)=(List.replicate k.toNat b).flatten.toArray:=by
  have B:∀m:Nat,List.foldl (fun x1 i=>x1++i) #[] (List.replicate m b.toArray)=(List.replicate m b).flatten.toArray:=fun m=>by
   have:=zgn b m [];rwa[ybQ]at this
  rw[B]
  cases b with
  |nil=>simp|cons a r'=>rw[if_neg (by simp)]
 refine ycj (T:="list") (U:="int") (by decide) ⟨_,e,rfl⟩ (fun s'=>yc5 s' k t) noFill_list_mul F.fills_int_mul yb9 repeat_list F.slot_int_index.lookup
  (ycs yb9 (yc5 s k t) F.entry_int_rmul (ydq _ _) (int___rmul___int_list k t l b.toArray n)
   ⟨e,rfl,⟨_,e,rfl⟩,ycs F.slot_list_mul ⟨_,e,rfl⟩ F.entry_list_mul (F.args_list_mul_2 _ _) (AutoListH.list___mul___list_int_3 l b.toArray n k t f g c) ⟨e,?_⟩⟩)
 rw[d];exact⟨.ref _,_,I.lnew (t':=s.toks) (r.rep k.toNat) (by rw[zi0,Nat.mul_comm];exact j),rfl,q _ I.fresh⟩
end
end L2
namespace Att
open PySem PySem.W PySem.Calls PyProof.Rows
def zgi:∀(ns:List Int) (vs:List Value),WellAll P h vs (ns.map WData.int)->IntsAre vs ns:=by
 intro ns
 induction ns with
 |nil=>
  intro vs w;rw[ydg]at w;cases w;exact .nil
 |cons n ns c=>
  intro vs w;rw[yau]at w
  cases w with
  |cons a b=>
   cases a;exact .cons _ _ (c _ b)
theorem zlt{l:OpenLaw}(U:l.most=some n){P:Params}{h:Heap}
  (I:l.row.toRowW.claim.pre args=true) (J:WellAll P h vals args):
  ∃a vs ns,vals=[Value.ref a]/\args=[WData.list (ns.map WData.int)]/\h.get? a=some {cls:=.type "list",data:=.seq vs.toArray}/\IntsAre vs ns/\ns.length<=n:=by
 have e:WShape.hasAll [] args [.list .int]=true:=(pre_splitW I).1;have f:l.pre.holds [] {args:=args}=true:=(pre_splitW I).2;obtain⟨d,r,rfl,h1,h2⟩:=hasAllW_cons e;obtain rfl:=hasAllW_nil h2;obtain⟨xs,rfl,m⟩:=hasW_list h1;obtain⟨ns,rfl⟩:=items_int m
 have hlen:ns.length<=n:=by
  unfold OpenLaw.pre at f
  have h4:(WTm.not (.lt (.lit (.int (n:Int))) (.len (.arg 0)))).holds [] {args:=[.list (ns.map .int)]}=true:=by
   have h4:=(holds_andW f).1;rwa[U]at h4
  have c:=condW_of h4 (w_not (w_lt w_lit (w_len_list (w_arg rfl))));rw[yad]at c;refine Nat.le_of_not_lt fun q=>?_
  have j:(n:Int)<((ns.length:Nat):Int):=by omega
  first
   |(rw[yax j]at c;exact absurd c (by decide))
   |(simp at c;omega)
 cases J with
 |cons i g=>
  cases g
  cases i with
  |list k b=>exact⟨_,_,ns,rfl,rfl,k,zgi ns _ b,hlen⟩
def zlN(l:OpenLaw)(args:List WData):l.row.toRowW.claim.post args (.bool true) args=true:=
 postW_of (r:=l.row.toRowW) (X:=(true==true))
  (show WShape.has [] (.bool true) .bool=true by first|rfl|decide|simp[WShape.has,WShape.arms,WShape.armsAll])
  (show(WTm.eq .res (.lit (.bool true))).value [] {args:=args,res:=some (.bool true),after:=args}=some (.bool (true==true))from w_eq_bool (w_res rfl) w_lit) rfl
def zjf{l:OpenLaw}{n:Nat}{q:Program}{loose:List Str}{XP:(Str->Option Value)->Heap->Prop}{YP:World->Heap->Prop}{d:DefRec}
  (hn:l.most=some n) (U:d.params.defaults=[])
  (call:∀(w:World) (s₀ I:Shared) (mg J:Z6) (fa:Addr) (o:Obj) (pm cd doc:Value) (a:Addr) (vs:List Value) (ns:List Int),
   Ground q loose [] XP w s₀ mg J I.heap->YP w I.heap →
   I.heap.get? fa=some o->o.data=.func (docDef d.name d.params d.body d.scope pm cd doc)->I.heap.CodeRec cd d.name->mg d.name=some (.ref fa) →
   I.heap.get? a=some {cls:=.type "list",data:=.seq vs.toArray}->IntsAre vs ns->ns.length<=n->I.gens=#[] →
   codeAny (model l.prog w) callerA (.call (.ref fa) ⟨[.ref a],[]⟩) (fun r s'=>r=.ok (.ret (.bool true))/\OldK I.heap s'.heap/\s'.os=I.os/\AllBare s'.gens) I):
  WalkO q loose XP YP l.row.toRowW d [] (fun f vs=>PySem.call f vs):=by
 intro w s₀ I mg J G Y fa o pm cd doc v kV p hd h j g t args vals as b i k e s;obtain rfl:v=.none:=Dflts.none j U;obtain rfl:kV=.none:=Dflts.noKw j;obtain⟨a,vs,ns,rfl,rfl,c,hints,hlen⟩:=zlt hn b e;refine enter_call (ydh (call w s₀ I mg J fa o pm cd doc a vs ns G Y p (fd_plain hd) h g c hints hlen t) fun r s' m=>?_);obtain⟨rfl,h2,u,h4⟩:=m;exact⟨.inl ⟨.bool true,.bool true,[],rfl,fun _=>rfl,.bool true,zlN l _,fun _=>⟨List.Pairwise.nil,fun _ hm=>(nomatch hm)⟩⟩,h2,u,h4⟩
end Att
namespace L2
open PySem PySem.Spec PyProof.Rows
theorem zhM:∀{vs:List Value}{ns:List Int},IntsAre vs ns->Vals (ns.map V.int) vs
 |_,_,.nil=>.nil|_,_,.cons n t h=>.cons ⟨t,rfl⟩ (zhM h)
noncomputable def zvo(H:Hp):Prop:=∀b,H b=none\/∃o xs,H b=some (.frz o (.lst xs))
def zoy{P:Program}{w:World}{K:PySem.W.Frag}{mg mb:Z6}{CX:CXT}{k:Nat}{fa a:Addr}{fd:FuncData}{x:Str}{sp:Sp}{I:Shared}{vs:List Value}{ns:List Int}
  (KX:K.In I.heap) (a3:I.heap.Ns mainGlobals mg) (J:I.heap.Ns builtinsNs mb) (a6:∀x:Str,x ≠ "__name__" -> mb x=bootBuiltins x) (a4:I.heap.NoLimit) (hg:I.gens=#[])
  (ha:I.heap.get? a=some {cls:=.type "list",data:=.seq vs.toArray}) (hi:IntsAre vs ns) (hl:ns.length<=sizeLine) (hr:Room k callerA)
  (F:∀base:Heap,K.In base->base.Ns mainGlobals mg->FnOk P w K mg base CX k fa fd [x] sp) (U:∀(s:Shared) (u:Value),BindsTo s fd ⟨[u],[]⟩ [(x,u)])
  (a5:∀H:Hp,zvo H->SqL K H a (ns.map V.int)->sp [.ref a] H (fun v _=>v=.bl true) fun _ _ _=>False)
  (a7:∀H e s',CX [] H I (fun _ _ _=>False) e s'->False):
  codeAny (model P w) callerA (.call (.ref fa) ⟨[.ref a],[]⟩) (fun r s'=>r=.ok (.ret (.bool true))/\OldK I.heap s'.heap/\s'.os=I.os/\AllBare s'.gens) I:=by
 have y:=zhM hi;have g:=hi.length
 have core:∀H:Hp,zvo H->SqL K H a (ns.map V.int)->HOk P w H I.heap->(∀b,H b≠none->b=a)->(H a≠none->K.lookup a=none) →
   codeAny (model P w) callerA (.call (.ref fa) ⟨[.ref a],[]⟩) (fun r s'=>r=.ok (.ret (.bool true))/\OldK I.heap s'.heap/\s'.os=I.os/\AllBare s'.gens) I:=by
  intro H A L hok B N;have zeM:∀{b:Addr}{o:Obj},I.heap.get? b=some o->H b=none->(zoJ I.heap H).get? b=some o:=fun e n=>zoI e n
  have l:∀{b:Addr}{o:Obj}{es:Array DictEntry}{ep:Nat},I.heap.get? b=some o->o.data=.dict es ep->H b=none:=fun {b o es ep} e d=>by
   cases q:H b with
   |none=>rfl|some u=>
    have t:b=a:=B b (by rw[q];simp);subst t;rw[ha]at e;cases e;have d':Data.seq vs.toArray _=Data.dict es ep:=d;cases d'
  have c:∀{b:Addr}{m:Z6},I.heap.Ns b m->(zoJ I.heap H).Ns b m:=fun {b m} ⟨o,es,ep,e,d,r⟩=>⟨o,es,ep,zeM e (l e d),d,r⟩
  have j:K.In (zoJ I.heap H):=fun b o e=>zeM (KX b o e) (by
   cases q:H b with
   |none=>rfl|some u=>
    have t:b=a:=B b (by rw[q];simp);subst t
    rw[N (by rw[q];simp)]at e;cases e)
  have M:Mod K mg (zoJ I.heap H):=⟨j,c a3,⟨mb,c J,a6⟩,let ⟨G,h1,h2⟩:=a4;⟨G,c h1,h2⟩⟩;have Q:Env0 P w K mg (zoJ I.heap H) callerA [] I H:=⟨rfl,M,fun b o e=>zqY e,yb7 (zmF _ _),trivial,fun b J=>absurd (show b∈([]:List Addr)from J) (by simp),hok,.of_eq hg⟩;refine ydh ((F _ j (c a3)).run callerA [] I H ⟨[.ref a],[]⟩ [.ref a] [.ref a] _ _ hr Q (U I (.ref a)) (.cons rfl .nil) (a5 H A L)) fun r s' h=>?_
  cases r with
  |error e=>exact(a7 H e s' h).elim|ok fl=>
   cases fl with
   |next=>exact False.elim h|brk=>exact False.elim h|cont=>exact False.elim h|ret u=>
    obtain⟨v,H',os,bare,un,i,r',q⟩:=h;have E:v=.bl true:=q;subst E;obtain rfl:u=Value.bool true:=r';refine⟨rfl,OldK.of_keep fun b o e=>?_,os,bare⟩
    cases q:H b with
    |none=>exact un.keep b o e q (by intro z;exact absurd (show b∈([]:List Addr)from z) (by simp)) (by simp)
    |some u=>
     rcases A b with z|⟨ob,xs,z⟩
     ·rw[q]at z;cases z
     ·have D:=un.frzs b ob _ z;obtain⟨C,_⟩:=hok b _ z;obtain⟨O,_⟩:=i b _ D;rw[e]at C;cases C;exact O
 cases p:K.lookup a with
 |some o=>
  have e:=KX a o p;rw[ha]at e;cases e;refine core (fun _=>none) (fun _=>.inl rfl) (.inr ⟨_,vs.toArray,_,p,rfl,rfl,rfl,by rw[yag,g];exact hl,by simpa using y⟩) (fun b u z=>by have f:(none:Option HO)=some u:=z;cases f) (fun b z=>absurd rfl z) fun z=>absurd rfl z
 |none=>
  refine core (fun b=>if b=a then some (.frz {cls:=.type "list",data:=.seq vs.toArray} (.lst (ns.map V.int)))else none) (fun b=>?_) (.inl (.inr ⟨{cls:=.type "list",data:=.seq vs.toArray},if_pos rfl⟩)) (fun b u z=>?_) (fun b z=>?_) fun _=>p
  ·by_cases J:b=a
   ·exact .inr ⟨_,_,if_pos J⟩
   ·exact .inl (if_neg J)
  ·by_cases J:b=a
   ·have f:=(if_pos J).symm.trans z;cases f;subst J;exact⟨ha,by rw[yad];exact hl,vs,_,y,ha⟩
   ·have f:=(if_neg J).symm.trans z;cases f
  ·by_cases J:b=a
   ·exact J
   ·exact absurd (if_neg J) z
def zpT{l:PySem.W.OpenLaw}{n k:Nat}{d:DefRec}{K:Params->PySem.W.Frag}{CX:World->CXT}{sp:World->Sp}
  (hn:l.most=some n) (J:n<=sizeLine) (U:d.params.defaults=[]) (hr:Room k callerA)
  (hY:∀(w:World) (h:Heap),YP w h->(K w.params).In h)
  (F:∀(w:World) (mg:Z6) (fa:Addr) (h:Heap),(K w.params).In h->h.Ns mainGlobals mg->mg d.name=some (.ref fa) →
   ∃fd:FuncData,(∀(s:Shared) (u:Value),BindsTo s fd ⟨[u],[]⟩ [(x,u)]) ∧
    ∀base:Heap,(K w.params).In base->base.Ns mainGlobals mg->FnOk l.prog w (K w.params) mg base (CX w) k fa fd [x] (sp w))
  (I:∀(w:World) (H:Hp) (a:Addr) (ns:List Int),ns.length<=n->zvo H->SqL (K w.params) H a (ns.map V.int)->sp w [.ref a] H (fun v _=>v=.bl true) fun _ _ _=>False)
  (a3:∀(w:World) (H:Hp) (s:Shared) (e:Value) (s':Shared),CX w [] H s (fun _ _ _=>False) e s'->False):
  PySem.W.WalkO q loose XP YP l.row.toRowW d [] (fun f vs=>PySem.call f vs):=by
 refine Att.zjf hn U fun w s₀ c mg B fa o pm cd doc a vs ns G Y C hd r j i hints hlen p=>?_
 have m:=hY w _ Y;obtain⟨fd,t,A⟩:=F w mg fa _ m G.T.g j;exact zoy m G.T.g G.T.b G.T.builtins G.T.nolimit p i hints (yal hlen J) hr A t (fun H z y=>I w H a ns hlen z y) fun H e s'=>a3 w H c e s'
noncomputable def zbY(s:Stmt):Arguments:=match s with
 |.FunctionDef _ a _ _ _ _ _ _ _ _=>a|_=>{posonlyargs:=[],args:=[],vararg:=none,kwonlyargs:=[],kw_defaults:=[],kwarg:=none,defaults:=[]}
noncomputable def zby(s:Stmt):List Stmt:=match s with
 |.FunctionDef _ _ b _ _ _ _ _ _ _=>b|_=>[]
noncomputable def zaa(s:Stmt):Scope:=match s with
 |.FunctionDef _ _ _ _ _ _ sc _ _ _=>sc|_=>{kind:=.function,names:=[],isGenerator:=false,isCoroutine:=false}
structure Fun(K:PySem.W.Frag)(x qual:Str)(st:Stmt)(f:Addr)(fd:FuncData):Prop where
 ex:∃(oc:Value) (od:Option Addr) (kV doc pm:Value) (an:Option Addr) (cdv ct:Value) (osl:Array (Option Value)),
  fd=PySem.W.fnOf x qual (zbY st) (zby st) (zaa st) .none kV doc pm an cdv ct/\K.lookup f=some ⟨oc,od,.func fd,osl⟩/\PySem.W.codeIn K cdv qual=true
 kp:PySem.W.keepIn K (.ref f)=true
section
variable{P:Program}{w:World}{K:PySem.W.Frag}{mg:Z6}{base:Heap}
def Fun.binds{x qual:Str}{st:Stmt}{f:Addr}{fd:FuncData}{ps:List Str}(F:Fun K x qual st f fd)
  (h:∀(kV doc pm:Value) (an:Option Addr) (I ct:Value) (us:List Value),us.length=ps.length->bindArgs (PySem.W.fnOf x qual (zbY st) (zby st) (zaa st) .none kV doc pm an I ct) ⟨us,[]⟩=pure (ps.zip us)):zcW K fd ps []:=by
 obtain⟨c,od,kV,doc,pm,an,I,ct,a,rfl,d,b⟩:=F.ex;exact .all (h kV doc pm an I ct)
def zpz{x qual:Str}{st:Stmt}{f:Addr}{U:Value}{od an:Option Addr}{J:Array (Option Value)}{kV doc pm I ct:Value}(l:K.lookup f=some ⟨U,od,.func (PySem.W.fnOf x qual (zbY st) (zby st) (zaa st) .none kV doc pm an I ct),J⟩)
  (c:PySem.W.codeIn K I qual=true) (k:PySem.W.keepIn K (.ref f)=true):Fun K x qual st f (PySem.W.fnOf x qual (zbY st) (zby st) (zaa st) .none kV doc pm an I ct):=⟨⟨U,od,kV,doc,pm,an,I,ct,J,rfl,l,c⟩,k⟩
end
def zoE{A B:Prop}(h:B):if false=true then A else B:=by
 rw[if_neg yaR];exact h
def zoD{A B:Prop}(h:A):if true=true then A else B:=by
 rw[if_pos rfl];exact h
def zkR(h:∀y∈scope.names,y.2=.free->∃c,env.cells.lookup y.1=some c):
  ∃cl,closureFor scope env=pure cl/\(∀y c,cl.lookup y=some c->env.cells.lookup y=some c)/\∀y,(y,NameKind.free)∈scope.names->∃c,cl.lookup y=some c:=by
 unfold closureFor
 have key:∀(l:List (Str×NameKind)) (cs:List (Str×Addr)),(∀y∈l,y.2=.free->∃c,env.cells.lookup y.1=some c)->(∀y c,cs.lookup y=some c->env.cells.lookup y=some c) →
   ∃cl,(forIn l cs fun(x:Str×NameKind) (r:List (Str×Addr))=>(if(x.2==NameKind.free)=true then(do let c ← cellOf env x.1;pure (ForInStep.yield ((x.1,c)::r)))else pure (ForInStep.yield r):Sem (ForInStep (List (Str×Addr)))))=pure cl ∧
    (∀y c,cl.lookup y=some c->env.cells.lookup y=some c)/\(∀y,(y,NameKind.free)∈l->∃c,cl.lookup y=some c)/\(∀y c,cs.lookup y=some c->∃c',cl.lookup y=some c'):=by
  intro l
  induction l with
  |nil=>intro cs _ q;exact⟨cs,rfl,q,fun y a=>by simp at a,fun y c e=>⟨c,e⟩⟩
  |cons p l t=>
   intro cs s q;obtain⟨n,k⟩:=p
   by_cases o:(k==NameKind.free)=true
   ·have v:k=.free:=eq_of_beq o;obtain⟨c,u⟩:=s (n,k) yay v
    obtain⟨cl,f,j,i,g⟩:=t ((n,c)::cs) (fun y a=>s y (yas _ a)) (fun y c' e=>by
     rw[yaz]at e
     cases d:y==n with
     |true=>rw[d]at e;cases e;rw[eq_of_beq d];exact u|false=>rw[d]at e;exact q y c' e)
    refine⟨cl,?_,j,fun y a=>?_,fun y c' e=>?_⟩
    ·rw[ycB];show((if(k==NameKind.free)=true then _ else _) >>= _)=_;rw[if_pos o]
     have b:cellOf env n=pure c:=by unfold cellOf;rw[u]
     show(cellOf env n >>= _) >>= _=_;rw[b];simpa using f
    ·rcases yat.mp a with z|a
     ·cases z;exact g n c (by rw[yaz];simp)
     ·exact i y a
    ·cases d:y==n with
     |true=>exact g y c (by rw[yaz,d])
     |false=>exact g y c' (by rw[yaz,d];exact e)
   ·obtain⟨cl,f,j,i,g⟩:=t cs (fun y a=>s y (yas _ a)) q;refine⟨cl,?_,j,fun y a=>?_,g⟩
    ·rw[ycB];show((if(k==NameKind.free)=true then _ else _) >>= _)=_;rw[if_neg o];simpa using f
    ·rcases yat.mp a with z|a
     ·cases z;exact absurd rfl o
     ·exact i y a
 obtain⟨cl,f,j,i,_⟩:=key scope.names [] h (fun y c e=>by simp at e);refine⟨cl,?_,j,i⟩;show((forIn scope.names [] _:Sem (List (Str×Addr))) >>= _)=_;have w:=congrArg (fun m=>m >>= (pure:List (Str×Addr)->Sem (List (Str×Addr)))) f;simpa using f
noncomputable def PIf(X:Cx)(ifs:List Expr)(t:TT):Prop:=
 ∀(pins:Z3) (s:Shared) (σ:St) (H:Hp) (Q:Bool->Hp->Prop),Inv X pins σ H s->t σ H Q →
  wpAny (model X.prog X.w) X.A (forIn ifs true fun c r=>if r=true then do let ok ← isTrue c X.env (eval c X.env);pure (ForInStep.yield ok)else pure (ForInStep.yield r)) (TP X pins σ Q) X.xe s
noncomputable def zyZ:TT:=fun _ H Q=>Q true H
def zqM:PIf X [] zyZ:=fun _ _ _ H _ I h=>wpAny_tests_nil ⟨H,I,h⟩
def zqL(h:PT X c t):PIf X [c] t:=fun pins s σ H Q I a=>wpAny_tests_one (h pins s σ H Q I a)
theorem zfv{scope:Scope}{env:Env}:∀{names:List (Str×NameKind)}{y:Str},(y,NameKind.free)∈names->(∀z∈names,z.1=y->z.2=.free) →
  (names.map fun(n,k)=>if(k==NameKind.free&&env.scope.kind==.function&&env.kindOf n==some .cell)then(n,NameKind.cell)else(n,k)).lookup y=some .cell ∨
  (names.map fun(n,k)=>if(k==NameKind.free&&env.scope.kind==.function&&env.kindOf n==some .cell)then(n,NameKind.cell)else(n,k)).lookup y=some .free
 |[],_,h,_=>by simp at h
 |(n,k)::r,y,h,u=>by
  rw[yau];show List.lookup y ((if(k==NameKind.free&&env.scope.kind==.function&&env.kindOf n==some .cell)=true then(n,NameKind.cell)else(n,k))::_)=_\/List.lookup y ((if(k==NameKind.free&&env.scope.kind==.function&&env.kindOf n==some .cell)=true then(n,NameKind.cell)else(n,k))::_)=_
  cases a:y==n with
  |true=>
   have e:n=y:=(eq_of_beq a).symm;have g:k=.free:=u (n,k) yay e
   by_cases b:(k==NameKind.free&&env.scope.kind==.function&&env.kindOf n==some .cell)=true
   ·rw[if_pos b];left;simp[yaz,a]
   ·rw[if_neg b];right;simp[yaz,a,g]
  |false=>
   have f:(y,NameKind.free)∈r:=by
    rcases yat.mp h with z|z
    ·cases z;simp at a
    ·exact z
   have c:=zfv (scope:=scope) (env:=env) f fun z d=>u z (yas _ d)
   by_cases b:(k==NameKind.free&&env.scope.kind==.function&&env.kindOf n==some .cell)=true
   ·rw[if_pos b];simpa[yaz,a]using c
   ·rw[if_neg b];simpa[yaz,a]using c
def Inv.track(I:Inv X pins σ H s)(J:H D=none)(h1:X.s₀.heap.objs.size<=D)(h2:D≠X.env.locals)(U:∀x c,X.env.cells.lookup x=some c->c≠D)(h4:∀p∈X.pn++pins,p.1≠D)
  (new:zb8 X.prog X.w (upd H D o) s.heap D o):Inv X pins σ (upd H D o) s:=by
 have a:∀b u,H b=some u->b≠D:=fun b u e=>zar e J
 obtain⟨h',g',d',t',o'⟩:=s;refine I.step (h':=h') (g':=g') (d':=d') (t':=t') (ch:=[D]) (fun b d=>?_) (fun b o _ _ _ e _=>e) (fun b o _ _ _ e _=>⟨o.slots,e⟩) (fun b o f e n=>?_) (fun b o _ e=>⟨o,e⟩) (fun b xs e=>?_) (fun b o u e=>?_) (fun b ps e=>?_) (fun m hm=>hm) (fun b u e=>?_) I.bare
 ·have e:b=D:=by simpa using d
  subst e;exact⟨.inr h1,h2,U,h4⟩
 ·rw[zam (fun z=>f (by simp[z]))];exact n
 ·rw[zam (a _ _ e)];exact e
 ·rw[zam (a _ _ e)];exact e
 ·exact⟨#[],by rw[zam (a _ _ e),e];simp⟩
 ·by_cases d:b=D
  ·subst d;rw[zaC]at e;cases e;exact new
  ·rw[zam d]at e
   exact(I.hok b u e).stay (fun _ _ _ q=>q) (fun c q=>by rw[zam (a _ _ q)];exact q) fun c xs q=>by rw[zam (a _ _ q)];exact q
section
variable{X:Cx}{elt iter:Expr}{x:Str}{px pos:Pos}{ifs:List Expr}{scope:Scope}{caps:List (Str×Nat)}{wi:TI}{tt:TT}{te:TE}
noncomputable abbrev lob(I:List Value)(k:Nat):Obj:={cls:=.type "list",data:=.seq I.toArray k}
end
section
variable{prog:Program}{w:World}{A:Around}{R:Result->Shared->Prop}{s:Shared}
theorem zot(I:Nat->Shared->Prop)
  (a6:∀n s,I n s->wpAny (model prog w) A (pyNext it) (fun r U=>match r with
   |none=>R (.ok .next) U|some v=>wpAny (model prog w) A (letOwnedTupleGo target it v) (fun _ s₀=>wpAny (model prog w) A (assign target env v) (fun _ a5=>
     wpAny (model prog w) A (forIn ifs true fun c r=>if r=true then do let ok ← isTrue c env (eval c env);pure (ForInStep.yield ok)else pure (ForInStep.yield r)) (fun ok J=>
      if ok=true then wpAny (model prog w) A (eval elt env) (fun x a4=>
       wpAny (model prog w) A (call (.builtin "list.append") [acc,x]) (fun _ a3=>∃m,m<n/\I m a3) (notedBy (model prog w) A env fun e s'=>R (.error e) s') a4) (notedBy (model prog w) A env fun e s'=>R (.error e) s') J
      else ∃m,m<n/\I m J) (notedBy (model prog w) A env fun e s'=>R (.error e) s') a5) (notedBy (model prog w) A env fun e s'=>R (.error e) s') s₀) (notedBy (model prog w) A env fun e s'=>R (.error e) s') U) (notedBy (model prog w) A env fun e s'=>R (.error e) s') s)
  (n:Nat) (h:I n s):codeAny (model prog w) A (.compLoop (.ListComp elt [⟨target,iter,ifs,0⟩] scope pos) 0 it acc env) R s:=by
 refine codeAny_loop rfl I (fun n s g=>?_) n h;show wpAny _ A ((compTurn (.ListComp elt [⟨target,iter,ifs,0⟩] scope pos) 0 it acc env).onRaise (fun x=>do noteFrame x env;theTreesLotGoes x)) _ _ s;refine wpAny_noted ?_;rw[compTurn_list];refine yaa (ydu (yaa (ybr (a6 n s g) (fun r U h₁=>?_) fun _ _ h'=>h')))
 cases r with
 |none=>exact yaf h₁|some v=>
  refine yaa (ybr h₁ (fun _ s₀ h₀=>?_) fun _ _ h'=>h');refine yaa (ybr h₀ (fun _ a5 f=>yaa (ybr f (fun ok J a=>?_) fun _ _ h'=>h')) fun _ _ h'=>h')
  cases ok with
  |false=>exact yaf ⟨rfl,a⟩|true=>
   exact yaa (yaa (ybr a (fun x a4 d=>yaa (ybr d (fun _ a3 b=>yaf (yaf ⟨rfl,b⟩)) fun _ _ h'=>h')) fun _ _ h'=>h'))
end
theorem zbu:∀(names:List (Str×NameKind)) (n:Nat) (acc:List (Str×Addr)),cellsFrom n names acc=cellsFrom n names []++acc
 |[],_,_=>rfl|(x,k)::r,n,acc=>by
  unfold cellsFrom;split
  ·rw[zbu r (n+1) ((x,n)::acc),zbu r (n+1) [(x,n)]];simp
  ·exact zbu r n acc
theorem zdL:∀(names:List (Str×NameKind)) (n:Nat) {x:Str}{c:Addr},(x,c)∈cellsFrom n names []->(x,NameKind.cell)∈names
 |[],_,_,_,h=>by cases h
 |(y,k)::r,n,x,c,h=>by
  unfold cellsFrom at h;split at h
  ·rename_i a;rw[zbu]at h
   rcases ya8.mp h with h|h
   ·exact yas _ (zdL r _ h)
   ·rw[yaB]at h;cases h;rw[yb1.mp a];exact yay
  ·exact yas _ (zdL r _ h)
theorem zcB{α:Type}:∀{l m:List (Str×α)},(l++m).lookup x=(l.lookup x).or (m.lookup x)
 |[],m=>rfl|(y,a)::l,m=>by
  rw[ycZ,yaz,yaz]
  cases x==y with
  |true=>rfl|false=>exact zcB
theorem zcz:∀(names:List (Str×NameKind)) (n:Nat) {x:Str},(x,NameKind.cell)∈names->∃c,(cellsFrom n names []).lookup x=some c
 |[],_,_,h=>by cases h
 |(y,k)::r,n,x,h=>by
  unfold cellsFrom;split
  ·rename_i a;rw[zbu,zcB]
   rcases yat.mp h with e|h
   ·cases e
    cases b:(cellsFrom (n+1) r []).lookup y with
    |some c=>exact⟨c,rfl⟩|none=>exact⟨n,by simp[yaz]⟩
   ·obtain⟨c,e⟩:=zcz r (n+1) h;rw[e];exact⟨c,rfl⟩
  ·rename_i a
   rcases yat.mp h with e|h
   ·cases e;exact absurd rfl a
   ·exact zcz r n h
def zc8{M:Model}{A:Around}{E:Z5}{s:Shared}{scope:Scope}{globals:Addr}{closure:List (Str×Addr)}{qual:Str}{func:Option Addr}{code:Value}{outer:Env}{builtins:Addr}{Q:Env->Shared->Prop}
  (I:∀h',h'.Ns s.heap.objs.size (fun _=>none)->(∀b o,s.heap.get? b=some o->h'.get? b=some o)->CellsOk h' (s.heap.objs.size+1) (cellsFrom (s.heap.objs.size+1) scope.names []) →
   Q (newEnv scope s.heap.objs.size globals (cellsFrom (s.heap.objs.size+1) scope.names []++closure) qual func code (some outer) builtins) {s with heap:=h'}):
  wpAny M A (newFunctionEnv scope globals closure [] qual func code (some outer) builtins) Q E s:=by
 simp only[newFunctionEnv,Option.isSome_some,ycM];refine yaa (wpAny_alloc ?_);refine yaa (wpAny_layCells _ (fun name kind cells=>by cases a:kind==NameKind.cell<;>simp[a]) _ _ _ _ ?_);have ok:=cellsFrom_ok scope.names (s.heap.push {cls:=.type "dict",data:=.dict #[]}) (s.heap.objs.size+1) [] ⟨fun _ _ hm=>(nomatch hm),List.Pairwise.nil⟩ (by rw[yba];exact yai _);rw[yba]at ok;rw[show({s with heap:=s.heap.push {cls:=.type "dict",data:=.dict #[]}}:Shared).heap.objs.size=s.heap.objs.size+1 from yba ..];rw[zbu];simp only[List.forIn_nil];refine yaa (yaf (yaf ?_));exact I _ ((Heap.Ns.new s.heap (.type "dict")).keeps (pushCells_keeps _ _)) (fun b o e=>pushCells_keeps _ _ b o (yae _ e)) ok
structure CompScopeG(sc scope:Scope)(N:List Str)(xs:List Str)(caps:List (Str×Nat)):Prop where
 nd:(scope.names.map (·.1)).Nodup
 kind:scope.kind=.function
 names:∀y∈scope.names,y.2=.local->scope.names.lookup y.1=some .local
 free:∀y∈scope.names,y.2=.free->sc.names.lookup y.1=some .cell\/sc.names.lookup y.1=some .free
 cap:∀p∈caps,N[p.2]?=some p.1/\(p.1,NameKind.free)∈scope.names/\sc.names.lookup p.1≠some .local
 uniq:∀p∈caps,∀z∈scope.names,z.1=p.1->z.2=.free
noncomputable def zbz(X:Cx)(xs:List Str)(caps:List (Str×Nat))(scope:Scope)(cl:List (Str×Addr))(C:Addr)(s:Shared)(H:Hp)(ex:List Addr):Cx:=
 {X with N:=xs++caps.map (·.1),s₀:=s,H₀:=H,env:=compEnvC scope cl C X.env,outer:=X.stack,ex:=ex,fn:=fun x=>decide (scope.names.lookup x=some .cell),pn:=[],xe:=fun _ _=>False}
noncomputable abbrev capσ(σ:St)(n:Nat)(caps:List (Str×Nat)):St:=List.replicate n none++caps.map fun p=>(σ[p.2]?).join
noncomputable def zjo(wi:TI)(g:TG)(tt:TT)(te:TE)(n:Nat)(caps:List (Str×Nat)):TE:=fun σ H Q=>wi σ H fun J H1=>∃W:Nat->Nat->List V->St->Hp->Prop,(∃m,W 0 m [] (capσ σ n caps) H1)/\∀i m ys b H,W i m ys b H →
 ys.length<=sizeLine/\((J.stop i H/\∀p,H p=none->Q (.ref p) (upd H p (.lst ys))) ∨
 (J.go i H/\∀x H',J.yld i H x H'->g x b H' fun a H2=>tt a H2 fun ok d=>if ok=true then te a d fun y e=>∃c,c<m/\W (i+1) c (ys++[y]) a e else ∃c,c<m/\W (i+1) c ys a d))
section
variable{X:Cx}{elt iter tg:Expr}{xs:List Str}{pos:Pos}{ifs:List Expr}{scope:Scope}{caps:List (Str×Nat)}{wi:TI}{g:TG}{tt:TT}{te:TE}
structure OwnC(X:Cx)(scope:Scope)(lo:Nat)(h:Heap)(cl:List (Str×Addr)):Prop where
 sort:∀y c,cl.lookup y=some c->X.env.cells.lookup y=some c\/(h.IsCell c none/\lo<=c)
 inj:∀y z c,cl.lookup y=some c->cl.lookup z=some c->y=z
 has:∀y,((y,NameKind.free)∈scope.names\/(y,NameKind.cell)∈scope.names)->∃c,cl.lookup y=some c
 own:∀y c,scope.names.lookup y=some .cell->cl.lookup y=some c->lo<=c
 free:∀y,(y,NameKind.free)∈scope.names->∃c,cl.lookup y=some c/\X.env.cells.lookup y=some c
def zh4(h:(relabel scope env).names.lookup y=some .cell\/(relabel scope env).names.lookup y=some .free):(y,NameKind.free)∈scope.names\/(y,NameKind.cell)∈scope.names:=by
 have go:∀k,(relabel scope env).names.lookup y=some k->(k=.cell\/k=.free)->(y,NameKind.free)∈scope.names\/(y,NameKind.cell)∈scope.names:=fun k e f=>by
  have hm:=yaL e;obtain⟨⟨n,k0⟩,b,d⟩:=yar.mp hm
  by_cases a:(k0==.free&&env.scope.kind==.function&&env.kindOf n==some .cell)=true
  ·have c:(n,NameKind.cell)=(y,k):=by rw[<-d];show _=if _ then _ else _;rw[if_pos a]
   cases c
   have:k0=.free:=by simp only[yac]at a;exact eq_of_beq a.1.1
   subst this;exact .inl b
  ·have c:(n,k0)=(y,k):=by rw[<-d];show _=if _ then _ else _;rw[if_neg a]
   cases c
   rcases f with rfl|rfl
   ·exact .inr b
   ·exact .inl b
 rcases h with h|h
 ·exact go _ h (.inl rfl)
 ·exact go _ h (.inr rfl)
theorem zid:∀{l:List (Str×NameKind)},(l.map (·.1)).Nodup->∀{x:Str}{a b:NameKind},(x,a)∈l->(x,b)∈l->a=b
 |[],_,_,_,_,h,_=>by cases h
 |p::l,nd,x,a,b,h,h'=>by
  rw[yau,ybw]at nd
  rcases yat.mp h with h|h<;>rcases yat.mp h' with h'|h'
  ·rw[<-h']at h;exact(Prod.mk.inj h).2
  ·exact absurd (yar.mpr ⟨_,h',by rw[<-h]⟩) nd.1
  ·exact absurd (yar.mpr ⟨_,h,by rw[<-h']⟩) nd.1
  ·exact zid nd.2 h h'
def zl6{X:Cx}{scope:Scope}{lo n:Nat}{h:Heap}{cl:List (Str×Addr)}(nd:(scope.names.map (·.1)).Nodup)(hn:lo<=n)(a3:∀x y c,X.env.cells.lookup x=some c->X.env.cells.lookup y=some c->x=y)
  (I:∀y c,cl.lookup y=some c->X.env.cells.lookup y=some c) (U:∀y c,X.env.cells.lookup y=some c->c<lo) (J:∀y,(y,NameKind.free)∈scope.names->∃c,cl.lookup y=some c) (ok:CellsOk h n (cellsFrom n scope.names [])):
  OwnC X scope lo h (cellsFrom n scope.names []++cl):=by
 have sort:∀y c,(cellsFrom n scope.names []++cl).lookup y=some c->((cellsFrom n scope.names []).lookup y=some c)\/((cellsFrom n scope.names []).lookup y=none/\cl.lookup y=some c):=fun y c e=>by
  rw[zcB]at e
  cases f:(cellsFrom n scope.names []).lookup y with
  |some c'=>rw[f]at e;exact .inl e|none=>rw[f]at e;exact .inr ⟨rfl,e⟩
 refine⟨fun y c e=>?_,fun y z c e g=>?_,fun y d=>?_,fun y c d e=>?_,fun y d=>?_⟩
 ·rcases sort y c e with z|⟨_,z⟩
  ·have:=ok.empty y c (yaL z);exact .inr ⟨this.1,yal hn this.2⟩
  ·exact .inl (I y c z)
 ·rcases sort y c e with a|⟨_,a⟩<;>rcases sort z c g with b|⟨_,b⟩
  ·exact name_of_addr ok.apart (yaL a) (yaL b)
  ·have h1:=(ok.empty y c (yaL a)).2;have h2:=U z c (I z c b);exact absurd (yam h2 (yal hn h1)) (ya6 _)
  ·have h1:=(ok.empty z c (yaL b)).2;have h2:=U y c (I y c a);exact absurd (yam h2 (yal hn h1)) (ya6 _)
  ·exact a3 y z c (I y c a) (I z c b)
 ·rw[zcB]
  cases f:(cellsFrom n scope.names []).lookup y with
  |some c=>exact⟨c,rfl⟩|none=>
   rcases d with d|d
   ·exact J y d
   ·obtain⟨c,e⟩:=zcz scope.names n d;rw[f]at e;cases e
 ·obtain⟨c',g⟩:=zcz scope.names n (yaL d);rw[zcB,g]at e;have:c'=c:=Option.some.inj e;subst this;exact yal hn (ok.empty y c' (yaL g)).2
 ·obtain⟨c,e⟩:=J y d;refine⟨c,?_,I y c e⟩;rw[zcB]
  cases f:(cellsFrom n scope.names []).lookup y with
  |some c'=>
   have:=zdL scope.names n (yaL f);cases zid nd d this
  |none=>exact e
theorem zmY(S:CompScopeG X.env.scope scope X.N xs caps)(hu:∀p∈caps,∀z∈scope.names,z.1=p.1->z.2=.free)
  (I:Inv X pins σ H s) (J:OwnC X scope s.heap.objs.size s'.heap cl)
  (hf:∀b∈fp,zne X pins H b) (U:∀b∈fp,b<s.heap.objs.size) (hC:s.heap.objs.size<=C) (ho:s'.os=s.os) (hg:s'.gens=s.gens) (hk:∀b o,s.heap.get? b=some o->s'.heap.get? b=some o) (hn:s'.heap.Ns C (fun _=>none)):
  Inv (zbz X xs caps scope cl C s H fp) [] (capσ σ xs.length caps) H s':=by
 have k:∀y c,cl.lookup y=some c->∃v,s'.heap.IsCell c v:=fun y c e=>by
  rcases J.sort y c e with z|z
  ·obtain⟨v,o,q,d⟩:=I.cell y c z;exact⟨v,o,hk _ _ q,d⟩
  ·exact⟨none,z.1⟩
 refine⟨⟨I.ok.mod,S.kind,I.ok.glob,I.ok.blt,hC,J.inj,fun y E=>J.has y (zh4 E),fun y c z e=>J.own y c (yah z) e,I.ok.hd,I.ok.frames,.inl rfl,fun b h=>⟨yaA (yam (U b h) hC),fun y c e=>(J.sort y c e).elim (fun z=>(hf b h).2.2.2.2.1 y c z) fun z=>yaO (yam (U b h) z.2)⟩,
  I.bs,yal I.ok.bsz I.sz,fun b o e h=>?_,fun b h hm=>?_,I.stack,I.stkFree⟩,ho,by rw[hg];exact I.bare,Un.kept hk,⟨_,hn,fun i y v h1 h2 O=>?_⟩,fun y c e=>k y c e,I.hok.fresh hC,fun y c e=>(J.sort y c e).elim (I.freeC y c) fun z=>I.hok.fresh z.2,fun p n=>absurd (show p∈([]:Z3)from n) (by simp),I.hok.kept hk,?_⟩
 ·rcases(hf b h).2.2.2.1 with z|z
  ·exact I.ok.noex b o e z
  ·exact absurd (yam (yap e) (yal I.ok.bsz z)) (ya6 _)
 ·rcases yat.mp (I.stkSub b hm)with z|z
  ·exact(hf b h).2.1 z
  ·exact(hf b h).2.2.1 z
 ·have hi:¬ i<xs.length:=fun hi=>by
   have a:(capσ σ xs.length caps)[i]?=some (some v):=h2;rw[yaZ (by rw[yaM];exact hi),ybW]at a
   split at a<;>cases a
  ·have f:(caps.map (·.1))[i-xs.length]?=some y:=by
    have f:(xs++caps.map (·.1))[i]?=some y:=h1;rwa[yaG (by omega)]at f
   rw[yao]at f
   have a:(caps.map fun p=>(σ[p.2]?).join)[i-xs.length]?=some (some v):=by
    have a:(capσ σ xs.length caps)[i]?=some (some v):=h2;rw[yaG (by rw[yaM];omega),yaM]at a;exact a
   rw[yao]at a
   cases n:caps[i-xs.length]? with
   |none=>rw[n]at f;cases f|some p=>
    rw[n]at f a;have K:p.1=y:=Option.some.inj f;have ev:(σ[p.2]?).join=some v:=Option.some.inj a;subst K;have g:p∈caps:=ybj n;obtain⟨c1,D,M⟩:=S.cap p g
    have A:σ[p.2]?=some (some v):=by
     cases q:σ[p.2]? with
     |none=>rw[q]at ev;cases ev|some w=>rw[q]at ev;have:w=some v:=ev;rw[this]
    have x:=S.free _ D rfl;have F:Vis X.env.scope p.1:=x.elim (fun z=>.inr (.inl z)) (fun z=>.inr (.inr z));obtain⟨m,_,G⟩:=I.loc;obtain⟨u,r,l⟩:=G p.2 p.1 v c1 A F;refine⟨u,r,.inr ⟨zfv (scope:=scope) (env:=X.env) D (hu p g),?_⟩⟩;obtain⟨c,L,B⟩:=J.free p.1 D;refine⟨c,L,?_⟩
    rcases l with⟨z,_⟩|⟨_,c',t,j⟩
    ·exact absurd z M
    ·have:c'=c:=by rw[B]at t;exact(Option.some.inj t).symm
     subst this;obtain⟨o,q,d⟩:=j;exact⟨o,hk _ _ q,d⟩
 ·simp[zbz,capσ]
theorem zit{use:Option (Value->Sem Unit)}{Qf:Z5}{R:VK}{pins:Z3}{s:Shared}{σ:St}{H:Hp}(hc:X.calm=true)(S:CompScopeG X.env.scope scope X.N xs caps)(hi:PI X tg iter wi)(hg:∀cl C s H fp,PG (zbz X xs caps scope cl C s H fp) tg g)
  (ht:∀cl C s H fp,PIf (zbz X xs caps scope cl C s H fp) ifs tt) (he:∀cl C s H fp,PE (zbz X xs caps scope cl C s H fp) elt te)
  (hs:∀v,foldedSetIterable iter X.env v=pure v) (I:Inv X pins σ H s) (h:zjo wi g tt te xs.length caps σ H R)
  (fin:∀(D C:Addr) (s4:Shared) (m4:Z6) (H6:Hp) (r:Flow),s4.heap.Ns C m4->(∀{U:St}{H7:Hp}{s5:Shared}{h':Heap},Inv X pins U H7 s5->Heap.SameBut C s5.heap h'->H7 C=none->Inv X pins U H7 {s5 with heap:=h'})->H6 C=none->C≠X.env.locals->(∀y c,X.env.cells.lookup y=some c->C≠c)->Inv X pins σ H6 s4->R (.ref D) H6->compPost (model X.prog X.w) X.A X.xe use Qf (.ref D) C (.ok r) s4):
  wpAny (model X.prog X.w) X.A (comprehension (.ListComp elt [⟨tg,iter,ifs,0⟩] scope pos) scope X.env (firstIterPos [⟨tg,iter,ifs,0⟩] pos) (newList []) false (eval iter X.env) use) Qf X.xe s:=by
 obtain⟨cl,ak,aR,aD⟩:=zkR (scope:=scope) (env:=X.env) fun y hy hf=>I.ok.has y.1 (S.free y hy hf)
 refine wpAny_comprehension_free (use:=use) rfl hs ak S.kind S.names (thn (hi pins s σ H _ I h) fun v s1 h1=>thn h1 fun b4 s2 h2=>?_);obtain⟨it,fp,tn,J,H2,rfl,V,T,ag,f2,W,⟨m0,w0⟩,ay⟩:=h2;refine yaU (zc8 (fun h₁ F m E=>?_));dsimp only at F m E ⊢;generalize aq:s2.heap.push {cls:=.type "list",dict:=none,data:=.seq ([]:List Value).toArray}=G at F m E ⊢
 have av:G.objs.size=s2.heap.objs.size+1:=by rw[<-aq,yba]
 have au:s2.heap.objs.size≠G.objs.size:=by rw[av];exact yaA (ybY _)
 have hC:s2.heap.objs.size<=G.objs.size:=by rw[av];exact ycN _
 have old:∀b o,s2.heap.get? b=some o->h₁.get? b=some o:=fun b o e=>m b o (aq ▸ yae _ e)
 have aF:h₁.get? s2.heap.objs.size=some (lob [] 0):=m _ _ (aq ▸ yaq _ rfl)
 have B:∀y c,X.env.cells.lookup y=some c->c<s2.heap.objs.size:=fun y c e=>by obtain⟨v,q⟩:=V.cell y c e;exact q.lt
 have oc:=zl6 (X:=X) (lo:=s2.heap.objs.size+1) S.nd (by rw[av];exact ycN _) I.ok.inj aR (fun y c e=>ydr (B y c e)) aD E;generalize b3:cellsFrom (G.objs.size+1) scope.names []++cl=cl2 at oc ⊢;have aN:OwnC X scope s2.heap.objs.size h₁ cl2:=⟨fun y c e=>(oc.sort y c e).imp id fun z=>⟨z.1,ybR z.2⟩,oc.inj,oc.has,fun y c a e=>ybR (oc.own y c a e),oc.free⟩
 have a3:∀b∈fp,b<s2.heap.objs.size:=fun b l=>by obtain⟨o,e,_⟩:=T.obj 0 _ ag b l;exact yap e
 generalize L:zbz X xs caps scope cl2 G.objs.size s2 H2 fp=Y;have aZ:PE Y elt te:=L ▸ he cl2 _ s2 H2 fp;have aX:PIf Y ifs tt:=L ▸ ht cl2 _ s2 H2 fp;have aY:PG Y tg g:=L ▸ hg cl2 _ s2 H2 fp
 have I3:Inv Y [] (capσ σ xs.length caps) H2 {s2 with heap:=h₁}:=by
  rw[<-L];exact zmY S S.uniq V aN f2 a3 hC rfl rfl old F
 have x:Y.env=compEnvC scope cl2 G.objs.size X.env:=by rw[<-L];rfl
 have t:Y.env.locals=G.objs.size:=by rw[x];rfl
 have a6:Y.fs=frs X.stack:=by rw[<-L];rfl
 have j:Y.prog=X.prog:=by rw[<-L];rfl
 have Q:Y.w=X.w:=by rw[<-L];rfl
 have aJ:Y.K=X.K:=by rw[<-L];rfl
 have a7:Y.A=X.A:=by rw[<-L];rfl
 have aI:Y.calm=true:=by rw[<-L];exact hc
 have ab:Y.ex=fp:=by rw[<-L];rfl
 have ax:Y.s₀=s2:=by rw[<-L];rfl
 have aW:Y.H₀=H2:=by rw[<-L];rfl
 have aa:Y.pn=[]:=by rw[<-L];rfl
 have O:∀y c,Y.env.cells.lookup y=some c->X.env.cells.lookup y=some c\/s2.heap.objs.size+1<=c:=fun y c e=>(oc.sort y c (by rwa[x]at e)).imp id (·.2)
 have a5:∀e s',¬ Y.xe e s':=fun e s' z=>by rwa[<-L]at z
 have az:∀b∈frs X.stack,b<s2.heap.objs.size:=fun b l=>by
  rcases yat.mp (V.stkSub b l)with z|z
  ·rw[z];exact V.lt
  ·refine Nat.not_le.mp fun hle=>V.nofs hle z
 have a8:∀p∈X.pn++pins,p.1<s2.heap.objs.size:=fun p M=>yap (V.pin p M).1
 have aw:∀{H':Hp}{f:List Value}{k:Nat},(∀b∈fp,H' b=none)->∀b∈fp,zne Y [(s2.heap.objs.size,lob f k)] H' b:=fun {H' f k} hn b l=>by
  refine⟨hn b l,by rw[t];exact yaA (yam (a3 b l) hC),?_,.inl (by rw[ab];exact l),fun y c e=>(O y c e).elim (fun z=>(f2 b l).2.2.2.2.1 y c z) fun z=>yaO (yam (a3 b l) (ybR z)),fun p M=>?_⟩
  ·rw[a6];intro hm
   rcases yat.mp (V.stkSub b hm)with z|z
   ·exact(f2 b l).2.1 z
   ·exact(f2 b l).2.2.1 z
  ·rw[aa]at M
   have e:p=(s2.heap.objs.size,lob f k):=by simpa using M
   rw[e];exact yaO (a3 b l)
 have a9:∀{H':Hp}{U:St}{s':Shared}{f:List Value}{k:Nat},Inv Y [] U H' s'->s'.heap.get? s2.heap.objs.size=some (lob f k)->H' s2.heap.objs.size=none->Inv Y [(s2.heap.objs.size,lob f k)] U H' s':=fun {H' U s' f k} I' e n=>
  I'.pins_of fun p M=>by
   have ep:p=(s2.heap.objs.size,lob f k):=by simpa using M
   subst ep;refine⟨e,n,by rw[t];exact au,?_,fun v z=>?_⟩
   ·rw[a6];exact fun hm=>ya6 _ (az _ hm)
   ·have z':Data.seq f.toArray k=Data.cell v:=z;cases z'
 have loop:codeAny (model X.prog X.w) X.A (.compLoop (.ListComp elt [⟨tg,iter,ifs,0⟩] scope pos) 0 (.ref it) (.ref s2.heap.objs.size) (compEnvC scope cl2 G.objs.size X.env))
   (compPost (model X.prog X.w) X.A X.xe use Qf (.ref s2.heap.objs.size) G.objs.size) {s2 with heap:=h₁}:=by
  refine zot (fun n s'=>∃i Z H' ys f k,Inv Y [(s2.heap.objs.size,lob f k)] Z H' s'/\tn i s'.heap/\(∀b∈fp,H' b=none)/\Vals ys f/\W i n ys Z H') ?_ m0
   ⟨0,capσ σ xs.length caps,H2,[],[],0,a9 I3 aF (V.hok.fresh (yai _)),T.keep _ _ _ ag fun b l o e=>old b o e,fun b l=>(f2 b l).1,.nil,w0⟩
  rintro n s3 ⟨i,Z,H3,ys,f,k,J3,aA,aH,rv,w3⟩;obtain⟨hz,ao⟩:=ay i n ys Z H3 w3
  rcases ao with⟨stop,q⟩|⟨go,step⟩
  ·have hd:=T.done Y j Q aJ aI i _ s3 _ H3 (notedBy (model X.prog X.w) X.A (compEnvC scope cl2 G.objs.size X.env) fun e s'=>compPost (model X.prog X.w) X.A X.xe use Qf (.ref s2.heap.objs.size) G.objs.size (.error e) s') J3 (aw aH) aA stop;rw[a7]at hd;refine thn hd fun r s4 ⟨hr,J4⟩=>?_
   subst hr;obtain⟨m4,aP,_⟩:=J4.loc
   have aC:s4.heap.Ns G.objs.size m4:=by rw[<-t];exact aP
   have aO:H3 G.objs.size=none:=by rw[<-t];exact J4.free
   have aQ:HOk X.prog X.w H3 s4.heap:=by rw[<-j,<-Q];exact J4.hok
   have u5:Un (frs X.stack) fp H2 H3 s2.heap s4.heap:=by
    have ub:=J4.base;rwa[a6,ab,aW,ax]at ub
   have J5:Inv X pins σ H3 s4:=V.call' (s':=s4) (ch:=fp) (by have:=J4.os;rwa[ax]at this) u5 aQ J4.bare fun b l=>⟨(f2 b l).2.2.2.1,(f2 b l).2.1,(f2 b l).2.2.2.2.1,(f2 b l).2.2.2.2.2⟩
   have ai:=J4.pin (s2.heap.objs.size,lob f k) (yaF _ yay);have aT:s4.heap.get? s2.heap.objs.size=some (lob f k):=ai.1;have J6:Inv X pins σ (upd H3 s2.heap.objs.size (.lst ys)) s4:=J5.track ai.2.1 V.sz (yaO V.lt) (fun y c e=>yaA (B y c e)) (fun p M=>yaA (a8 p M)) (show zb8 X.prog X.w _ s4.heap _ (.lst ys)from⟨hz,f,k,rv,aT⟩);have a4:G.objs.size≠X.env.locals:=yaO (yam V.lt hC);exact fin _ G.objs.size s4 m4 _ _ aC (fun {U}{H7}{s5}{h'} J aL hn=>J.turned (t':=s5.toks) (it:=G.objs.size) (fun b o l e=>(aL.2 b l).trans e) hn a4 (.inr (yal V.sz hC)) (fun y c e=>yaA (yam (B y c e) hC)) (fun p M=>yaA (yam (a8 p M) hC))) (by rw[zam (Ne.symm au)];exact aO) a4 (fun y c e=>yaO (yam (B y c e) hC)) J6 (q _ ai.2.1)
  ·have hd:=T.item Y j Q aJ aI i _ s3 _ H3 (notedBy (model X.prog X.w) X.A (compEnvC scope cl2 G.objs.size X.env) fun e s'=>compPost (model X.prog X.w) X.A X.xe use Qf (.ref s2.heap.objs.size) G.objs.size (.error e) s') J3 (aw aH) aA go;rw[a7]at hd;refine thn hd fun r s4 ⟨u,hr,h4⟩=>?_
   subst hr;refine thn h4 fun _ s5 ⟨v4,H4,J4,r4,y4,ae,aV⟩=>?_
   have b2:=J4.pinned (fp:=fp) (aw aV) (T.obj _ _ ae);have ha:=aY _ s5 Z H4 v4 u _ b2 r4 (step v4 H4 y4);rw[j,Q,a7,x]at ha;refine ybr ha (fun _ aM ⟨P,H5,b1,q5⟩=>?_) fun e s' z=>(a5 _ _ z).elim
   have aB:=aX _ aM P H5 _ b1 q5;rw[j,Q,a7,x]at aB;refine ybr aB (fun ok s6 ⟨H6,J6,q6⟩=>?_) fun e s' z=>(a5 _ _ z).elim
   have back:∀{H7:Hp}{s7:Shared},Inv Y ([(s2.heap.objs.size,lob f k)]++zia fp s5.heap) P H7 s7->tn (i+1) s7.heap/\∀b∈fp,H7 b=none:=fun {H7 s7} J7=>
    ⟨T.keep _ _ _ ae fun b l o e=>(J7.pin (b,o) (yaF _ (yaF _ (zef l e)))).1,fun b l=>by
     obtain⟨o,e,d⟩:=T.obj _ _ ae b l
     exact(J7.pin (b,o) (yaF _ (yaF _ (zef l e)))).2.1⟩
   cases ok with
   |false=>
    rw[if_neg yaR]at q6;rw[if_neg yaR];obtain⟨m',aj,w6⟩:=q6;exact⟨m',aj,i+1,P,H6,ys,f,k,J6.unpinned,(back J6).1,(back J6).2,rv,w6⟩
   |true=>
    rw[if_pos rfl]at q6;rw[if_pos rfl];have aE:=aZ _ s6 _ H6 _ J6 q6;rw[j,Q,a7,x]at aE;refine ybr aE (fun u7 s7 ⟨v7,H7,J7,r7,m',aj,w7⟩=>?_) fun e s' z=>(a5 _ _ z).elim
    obtain⟨aK,aU⟩:=back J7;have ah:=(J7.unpinned).pin (s2.heap.objs.size,lob f k) (yaF _ yay);have hl:=rv.length;refine append_at (hsz:=by show f.toArray.size<=sizeLine;rw[yag];omega) ah.1 fun h8 sb8 aS=>?_
    have b0:Inv Y [] P H7 s7:=J7.unpinned.pins_of fun p M=>absurd M (by simp)
    have J8:Inv Y [] P H7 {s7 with heap:=h8}:=b0.turned (t':=s7.toks) (it:=s2.heap.objs.size) (fun b o l e=>(sb8.2 b l).trans e) ah.2.1 (by rw[t];exact au) (.inr (by rw[ax];exact yai _)) (fun y c e=>(O y c e).elim (fun z=>yaA (B y c z)) fun z=>yaO z) (fun p M=>by rw[aa]at M;simp at M)
    have aG:h8.get? s2.heap.objs.size=some (lob (f++[u7]) (k+1)):=by rw[aS];simp[lob]
    exact⟨m',aj,i+1,P,H7,ys++[v7],f++[u7],k+1,a9 J8 aG ah.2.1,T.keep _ _ _ aK fun b l o e=>(sb8.2 b (yaA (a3 b l))).trans e,aU,rv.append (.cons r7 .nil),w7⟩
 exact codeAny_compStart_list loop (T.self X.A 0 _ _ _ (T.keep _ _ _ ag fun b l o e=>old b o e) loop)
def zoc(U:X.calm=true)(S:CompScopeG X.env.scope scope X.N xs caps)(hi:PI X tg iter wi)(J:∀cl C s H fp,PG (zbz X xs caps scope cl C s H fp) tg g)
  (ht:∀cl C s H fp,PIf (zbz X xs caps scope cl C s H fp) ifs tt) (he:∀cl C s H fp,PE (zbz X xs caps scope cl C s H fp) elt te)
  (hs:autoParam (∀v,foldedSetIterable iter X.env v=pure v) yAU):PE X (.ListComp elt [⟨tg,iter,ifs,0⟩] scope pos) (zjo wi g tt te xs.length caps):=by
 intro pins s σ H Q I h;rw[eval_ListComp];exact zit (use:=none) U S hi J ht he hs I h fun D C s4 c i r d a e _ _ f q=>⟨c,d,fun j b=>⟨.ref D,i,a f b e,rfl,q⟩⟩
def znT(hc:X.calm=true)(S:CompScopeG X.env.scope scope X.N xs caps)(a7:X.N.Nodup)(a5:X.N[k0]?=some J)(a3:Loc X.env.scope J)(hi:PI X tg iter wi)(hg:∀cl C s H fp,PG (zbz X xs caps scope cl C s H fp) tg g)
  (ht:∀cl C s H fp,PIf (zbz X xs caps scope cl C s H fp) ifs tt) (he:∀cl C s H fp,PE (zbz X xs caps scope cl C s H fp) elt te)
  (a4:swapsWith (.ListComp elt [⟨tg,iter,ifs,0⟩] scope pos) (some (.Name J py)) U.line X.env=pure true)
  (a6:X.fn J=true\/X.env.scope.names.lookup J=some .local)
  (hs:∀v,foldedSetIterable iter X.env v=pure v):PS X (.Assign [.Name J py] (.ListComp elt [⟨tg,iter,ifs,0⟩] scope pos) U) (zp4 (zjo wi g tt te xs.length caps) (zkF k0)):=by
 intro pins s σ H w I h;rw[exec_Assign_Name_used _ _ _ _ a4];refine yaa (ydu (yaa ?_));show wpAny _ X.A (do let _ ← comprehension (.ListComp elt [⟨tg,iter,ifs,0⟩] scope pos) scope X.env _ (newList []) false (eval iter X.env) (some (assign (.Name J py) X.env))) _ _ s;refine yaa (ybr (zit (use:=some (assign (.Name J py) X.env)) (Qf:=fun _ s'=>SP X pins w .next s') hc S hi hg ht he hs I h fun D C s4 k x r m f p n c u q=>?_) (fun _ s' l=>yaf (yaf l)) fun _ _ e=>e);show wpAny _ X.A (assign (.Name J py) X.env (.ref D)) _ X.xe s4;refine wpAny_assign_Name (zhT (i:=k0) u a7 a5 a3 (v:=.ref D) rfl (fun s5 t ⟨a,j,o⟩=>?_) a6);have d:C≠a:=o.elim (fun z=>by rw[z];exact n) fun z=>c _ _ z
 exact⟨k,m.sameBut j d,fun h' b=>⟨_,_,f t b p,q⟩⟩
end
end L2
namespace ST
open PySem PySem.SetTable
noncomputable def stp(mask:Nat)(p:Probe):Probe:=
 if p.more > 0 then {p with j:=p.j+1,more:=p.more-1} else
 {p with j:=(leap mask p.i p.perturb).1,more:=runEnd mask (leap mask p.i p.perturb).1-(leap mask p.i p.perturb).1,i:=(leap mask p.i p.perturb).1,perturb:=(leap mask p.i p.perturb).2}
def itr(mask:Nat):Nat->Probe->Probe
 |0,p=>p|n+1,p=>itr mask n (stp mask p)
noncomputable def zwS(mask i I:Nat):Probe:={j:=i,more:=runEnd mask i-i,i:=i,perturb:=I,dummy:=none}
def st(mask:Nat)(h:Int)(n:Nat):Probe:=itr mask n (zwS mask (bits h % (mask+1)) (bits h))
open PySem PySem.Spec PyProof.Rows
end ST
namespace PySem
end PySem
namespace L2
open PySem PySem.Spec PyProof.Rows
section
variable{X:Cx}{a b c:Expr}{ta tb tc:TE}{pos:Pos}
def zi9:zfi X (.builtin "isinstance") (fun xs H Q=>∃x t c k,xs=[x,.ty c]/\TyOf X.K H x t/\PySem.W.kitOne X.K t (.type c)=some k/\Q (.bl k) H):=by
 intro pins s σ H xs us Q I r h;obtain⟨x,t,c,k,rfl,ty,e,q⟩:=h
 cases r with
 |cons r1 a=>
  cases a with
  |cons d b=>
   cases b;cases (show _=Value.type c from d);exact zmy I r1 ty e fun tk=>⟨.bl k,H,I.tok tk,rfl,q⟩
def zhf(bs:List Bool):((List.range bs.length).all fun i=>(bs[i]?).getD true)=bs.all id:=by
 rw[ybH,ybs,ybs];constructor
 ·intro h b c;obtain⟨i,hi,e⟩:=List.mem_iff_getElem.mp c;have:=h i (yaX.mpr hi);rwa[yab hi,e]at this
 ·intro h i hi;have a:=yaX.mp hi;rw[yab a];exact h _ (ya1 a)
def zja(J:X.calm=true):zfi X (.builtin "all") (fun xs H Q=>∃(p:Addr) (bs:List Bool),xs=[.ref p]/\SqL X.K H p (bs.map V.bl)/\Q (.bl (bs.all id)) H):=by
 intro pins s σ H xs us Q I r h;obtain⟨p,bs,rfl,t,q⟩:=h;obtain⟨u,rfl,m⟩:=zhN r;cases m;obtain⟨a,g,pl,C⟩:=I.list t;have d:=pl.isList
 have c:p<s.heap.objs.size:=by obtain⟨_,e,_⟩:=d;exact yap e
 have l:a.length=bs.length:=by have:=g.length;rw[yad]at this;exact this.symm
 refine call_all_walk (ydp d ?_);refine⟨s.heap.objs.size,[s.heap.objs.size,p],[s.heap.objs.size],a.toArray.size,_,_,fun i=>(bs[i]?).getD true,rfl,Walks.list (A:=X.A.in1) (I.ok.hd J) _ p (yaA c) a.toArray,⟨⟨_,yaq _ rfl,rfl,rfl⟩,d.push _⟩,fun i v s' B D z y=>?_,fun h' tk w=>?_⟩
 ·have j:a[i]?=some v:=by simpa using z
  have hi:i<bs.length:=by rw[<-l];exact(yaj.mp j).1
  obtain⟨u,k,n⟩:=g.get (i:=i) (x:=.bl bs[i]) (by rw[yao,yab hi];rfl);rw[j]at k;cases k;cases (show v=Value.bool bs[i]from n);refine ybm ?_;have f:B ((bs[i]?).getD true) s':=y;rwa[yab hi]at f
 ·rw[yag,l,zhf];refine⟨.bl _,H,I.kept (t':=tk) fun b o e=>?_,rfl,q⟩;exact w b o (fun hm=>by rw[yaB.mp hm]at e;exact ya6 _ (yap e)) (yae _ e)
def zok:OpR X (binaryOp .Add) (fun x y H Q=>∃(a b:Addr) (ys:List V),x=.ref a/\y=.ref b/\SqT X.K H a []/\SqT X.K H b ys/\Q (.ref b) H):=by
 intro pins s σ H x y v u Q I p o h;obtain⟨a,b,ys,rfl,rfl,A,z,q⟩:=h;cases p;cases o;obtain⟨w,r1,r,_⟩:=I.tuple A;obtain⟨c,B,p2,_⟩:=I.tuple z;cases r1;obtain⟨⟨cls,dd,data,m⟩,j,k,n,hd⟩:=id r;obtain⟨⟨l,i,data2,g⟩,d,f,t,e⟩:=id p2;simp only at k hd f e;subst k hd f e
 exact concat_meets ⟨_,j,rfl⟩ ⟨_,d,rfl⟩ noFill_tuple_add seq_tuple_add ycK ycA (ycr _ _)
  (tuple_addW0 a b ([]:List Value).toArray c.toArray n t dd i m g (by rfl)) ⟨j,d,⟨.ref b,H,I,rfl,q⟩⟩
end
end L2
namespace PySem
open PySem.Spec PyProof.Rows
theorem zew:fillsNumberSlot (.type "tuple") "mul"=pure false:=
 fillsNumberSlot_seq (id:="tuple.__mul__") (r:=some (.builtin "tuple.__rmul__")) yc0.lookup (by decide +kernel) F.slot_tuple_rmul.lookup (by decide +kernel)
theorem zgL:seqRepeat? (.type "tuple")=pure (some (.builtin "tuple.__mul__")):=by
 have b:=seqSlot_of (T:="tuple") (name:="__mul__") (id:="tuple.__mul__") yc0.lookup (by decide +kernel);have a:=seqSlot_of (T:="tuple") (name:="__rmul__") (id:="tuple.__rmul__") F.slot_tuple_rmul.lookup (by decide +kernel);unfold seqRepeat?;rw[b,a];rfl
def zfz(a:Int)(t:Tok)(l:Addr)(o:Obj)(J:o.cls=.type "tuple")(I:o.data=.seq U n):
  Meets (Builtin.«int.__rmul__» ⟨[.int a t,.ref l],[]⟩) (fun _ R s=>s.heap.get? l=some o/\R (.ok (.ret Value.notImplemented)) s):=
 .of_wp fun prog w A R s h=>by
  obtain⟨c,d,i,b⟩:=o;simp only at J I;subst J I;obtain⟨e,g,j,tk,os⟩:=s;obtain⟨f,h⟩:=h
  wp_walk
  exact⟨_,rfl,h⟩
section
variable{prog:Program}{w:World}{A:Around}{E:Z5}{s:Shared}
theorem zhP{a:Addr}{o:Obj}{I:Array Value}{n:Nat}{k:Int}{t:Tok}{P:Fin->Shared->Prop}(ho:s.heap.get? a=some o)(hc:o.cls=.type "tuple")(hd:o.data=.seq I n)(J:I.isEmpty=false)(h2:2<=k)(U:(I.size:Int)*k<=1000000)(hk:k<=1000)
  (h:P (.done (.ret (.ref s.heap.objs.size))) {s with heap:=s.heap.push {cls:=.type "tuple",data:=.seq ((List.replicate k.toNat I).foldl (·++·) #[])}}) (hsz:((List.replicate k.toNat I).foldl (·++·) #[]).size<=sizeLine):
  wpAny (model prog w) A (Builtin.«tuple.__mul__» ⟨[.ref a,.int k t],[]⟩) P E s:=by
 show wpAny _ _ (asIndex (.int k t) >>= _) _ _ s;refine yaa ?_;unfold asIndex;refine yaa (yaf ?_);dsimp only;refine yaf ?_
 have e:(decide (k < -(2 ^ 63))||decide (k ≥ 2 ^ 63))=false:=by
  rw[Bool.or_eq_false_iff];refine⟨yaE ?_,yaE ?_⟩
  ·omega
  ·omega
 rw[e];simp only[yaK,yby];refine yaa (ydi ho hd ?_)
 have d:(I.isEmpty||k==1)=false:=by rw[J,Bool.false_or];simp;omega
 rw[d];simp only[yaK,yby]
 have c:(decide (k<=0)||I.isEmpty)=false:=by rw[J,Bool.or_false];exact yaE (by omega)
 rw[c];simp only[yaK,yby];rw[if_neg (by omega)]
 have b:Builtin.Tuple.tupleTooMany (I.size*k)=false:=by
  unfold Builtin.Tuple.tupleTooMany;refine yaE ?_
  have:(1000000:Int)<=(sizeLine:Int):=by decide
  omega
 rw[b];simp only[yaK,yby];unfold Builtin.Tuple.tupleExact;exact yaa (yaU (yaf h) hsz)
def zhO(ho:s.heap.get? a=some o)(J:o.cls=.type "tuple")(hd:o.data=.seq I n)(h:P (.done (.ret (.ref a))) s):
  wpAny (model prog w) A (Builtin.«tuple.__mul__» ⟨[.ref a,.int 1 t],[]⟩) P E s:=by
 show wpAny _ _ (asIndex (.int 1 t) >>= _) _ _ s;refine yaa ?_;unfold asIndex;refine yaa (yaf ?_);dsimp only;refine yaf ?_
 have c:(decide ((1:Int) < -(2 ^ 63))||decide ((1:Int) ≥ 2 ^ 63))=false:=by decide
 rw[c];simp only[yaK,yby];refine yaa (ydi ho hd ?_)
 have b:(I.isEmpty||(1:Int)==1)=true:=by simp
 rw[b];simp only[ycM];unfold Builtin.Tuple.tupleIsExact;refine yaa (yaa (wpAny_typeOf (T:="tuple") ⟨o,ho,J⟩ (yaf ?_)));simp only[ybt,ycM];exact yaa (ydo (yaf h))
def zq1{a:Addr}{o:Obj}{I:Array Value}{n:Nat}{k:Int}{t:Tok}{Q:Z5}(ho:s.heap.get? a=some o)(hc:o.cls=.type "tuple")(hd:o.data=.seq I n)(J:I.isEmpty=false)(h2:2<=k)(hz:(I.size:Int)*k<=1000000)(hk:k<=1000)
  (h:Q (.ref s.heap.objs.size) {s with heap:=s.heap.push {cls:=.type "tuple",data:=.seq ((List.replicate k.toNat I).foldl (·++·) #[])}}) (hsz:((List.replicate k.toNat I).foldl (·++·) #[]).size<=sizeLine):
  wpAny (model prog w) A (binaryOp .Mult (.ref a) (.int k t)) Q E s:=by
 have b:s.TypeIs (.ref a) "tuple":=⟨o,ho,hc⟩
 refine ycj (T:="tuple") (U:="int") (by decide) b (fun s'=>yc5 s' k t) zew F.fills_int_mul yb9 zgL F.slot_int_index.lookup
  (ycs yb9 (yc5 s k t) F.entry_int_rmul (ydq _ _) (zfz k t a o hc hd) ⟨ho,rfl,b,?_⟩)
 exact ya0 yc0 b F.entry_tuple_mul (zhP ho hc hd J h2 hz hk ⟨_,rfl,h⟩ hsz) (F.args_tuple_mul_2 _ _)
def zop(ho:s.heap.get? a=some o)(I:o.cls=.type "tuple")(hd:o.data=.seq J n)(h:Q (.ref a) s):wpAny (model prog w) A (binaryOp .Mult (.ref a) (.int 1 t)) Q E s:=by
 have b:s.TypeIs (.ref a) "tuple":=⟨o,ho,I⟩
 refine ycj (T:="tuple") (U:="int") (by decide) b (fun s'=>yc5 s' 1 t) zew F.fills_int_mul yb9 zgL F.slot_int_index.lookup
  (ycs yb9 (yc5 s 1 t) F.entry_int_rmul (ydq _ _) (zfz 1 t a o I hd) ⟨ho,rfl,b,?_⟩)
 exact ya0 yc0 b F.entry_tuple_mul (zhO ho I hd ⟨_,rfl,h⟩) (F.args_tuple_mul_2 _ _)
end
end PySem
namespace L2
open PySem PySem.Spec PyProof.Rows
set_option genInjectivity true in
inductive D where
 |non|bl (b:Bool)|int (i:Int)|str (x:Str)|tup (l:List D)|lst (l:List D)
section
variable{X:Cx}
theorem zqU:OpR X (binaryOp .Mult) (fun x y H Q=>∃(p:Addr) (k:Int) (xs:List V),x=.ref p/\y=.int k/\SqT X.K H p xs/\xs≠[]/\2<=k/\k<=1000/\xs.length<=1000/\∀l,H l=none->Q (.ref l) (upd H l (.tup (List.replicate k.toNat xs).flatten))):=by
 intro pins s σ H x y v u Q I m j h;obtain⟨p,k,xs,rfl,rfl,w,e,h2,i,C,q⟩:=h;cases m;obtain⟨t,rfl⟩:=j;obtain⟨c,g,⟨o,A,B,n,hd⟩,_⟩:=I.tuple w;have f:=g.length
 have d:(List.replicate k.toNat c.toArray).foldl (·++·) #[]=(List.replicate k.toNat c).flatten.toArray:=by
  have:=zgn c k.toNat [];rwa[ybQ]at this
 have hsz:(List.replicate k.toNat c).flatten.length<=1000000:=by
  rw[zi0];exact yal (ybv (show k.toNat<=1000 by omega) (show c.length<=1000 by omega)) (by decide)
 have aa:(1000000:Nat)<=sizeLine:=by decide
 refine zq1 A B hd ?_ h2 ?_ i ?_ ?_
 ·have:c≠[]:=fun z=>e (by cases xs with|nil=>rfl|cons a r=>rw[z]at f;cases f)
  simpa using this
 ·rw[yag];have:=Int.mul_le_mul (show(c.length:Int)<=1000 by omega) i (by omega) (by omega);omega
 ·rw[d];refine⟨.ref s.heap.objs.size,_,I.laid (t':=s.toks) (o:=.tup (List.replicate k.toNat xs).flatten) (fun b ob q=>yae _ q) (yai _) ?_,rfl,q _ (I.hok.fresh (yai _))⟩;refine⟨?_,_,g.rep k.toNat,IsTup.new _ _⟩;rw[zi0]at hsz ⊢;rw[<-f]at hsz;omega
 ·rw[d,yag];omega
end
end L2
namespace HT
open PySem PySem.Spec PyProof.Rows L2
section
variable{prog:Program}{w:World}{A:Around}{E:Z5}{s:Shared}
def zfp{t sl:Addr}{items:Array Value}{J I:Value}{lo hi:Option Int}{Q:Z5}(ht:IsTup s.heap t items)(hs:s.heap.IsSliceOf sl J I .none)(pl:IsPart J lo)(pu:IsPart I hi)
  (h1:sIx items.size 0 lo=0) (h2:sIx items.size items.size hi=items.size) (h:Q (.ref t) s):wpAny (model prog w) A (getItem (.ref t) (.ref sl)) Q E s:=by
 obtain⟨os,a,b,d⟩:=id hs;have c:s.TypeIs (.ref sl) "slice":=⟨os,a,b⟩;unfold getItem
 try with_reducible refine ybC ?_
 first|refine yaa (yaf ?_)|skip
 refine yaa (wpAny_sequenceKey ht.typeIs (by decide) ?_)
 refine yaa (yaW (name:=Str.ofString "__getitem__") ht.typeIs ya4
  (ya0 ya4 ht.typeIs entry_tuple_getitem ?_ (args_tuple_getitem _ _)))
 show wpAny _ _ (Builtin.Tuple.tupleItemsOf (.ref t) >>= _) _ _ s;refine yaa (tupleItemsOf_ ht ?_);refine yaa (wpAny_typeOf c ?_);rw[if_pos (by decide)];refine yaa (zdP hs pl pu ?_);rw[h1,h2];show wpAny _ _ (if((((0:Nat):Int)==0&&(1:Int)==1&&(items.size-0)==items.size)=true)then _ else _) _ _ s;rw[if_pos (by simp)];unfold Builtin.Tuple.tupleIsExact;refine yaa (yaa (wpAny_typeOf ht.typeIs (yaf ?_)));simp only[ybt,ycM];refine yaa (ydo ?_)
 first
  |exact yaf ⟨_,rfl,yaf h⟩
  |exact yaa (yaf (yaf ⟨_,rfl,yaf h⟩))
end
end HT
namespace L2
open PySem PySem.Spec PyProof.Rows
def zkk:SlR X (fun x lo hi H Q=>∃(a:Addr) (xs:List V),x=.ref a/\SqT X.K H a xs/\HT.sIx xs.length 0 lo=0/\HT.sIx xs.length xs.length hi=xs.length/\Q (.ref a) H):=by
 intro pins s σ H x v f e lo hi g Q I c hs pl pu h;obtain⟨a,xs,rfl,d,h1,h2,q⟩:=h;cases c;obtain⟨b,r,ht,i⟩:=I.tuple d
 have hlen:b.toArray.size=xs.length:=by rw[yag];exact r.length.symm
 refine⟨"tuple",_,ya4.lookup,ht.typeIs,?_⟩;exact HT.zfp ht hs pl pu (by rw[hlen];exact h1) (by rw[hlen];exact h2) ⟨.ref a,H,I,rfl,q⟩
mutual
noncomputable def D.py:D->PyData
 |.non=>.none|.bl b=>.bool b|.int i=>.int i|.str x=>.str x|.tup l=>.tuple (D.pys l)|.lst l=>.list (D.pys l)
noncomputable def D.pys:List D->List PyData
 |[]=>[]|d::l=>d.py::D.pys l
end
mutual
noncomputable def D.fit:Nat->D->Bool
 |_,.non=>true|_,.bl _=>false|_,.int _=>true|_,.str x=>PyData.strOk x|0,.tup _=>false|n+1,.tup l=>D.fits n l|0,.lst _=>false|n+1,.lst l=>D.fits n l
noncomputable def D.fits:Nat->List D->Bool
 |_,[]=>true|n,d::l=>d.fit n&&D.fits n l
end
theorem D.fits_iff:∀{l:List D},D.fits n l=true↔∀d∈l,d.fit n=true
 |[]=>by simp[D.fits]
 |d::l=>by simp[D.fits,D.fits_iff (l:=l)]
mutual
theorem D.lay:∀{n:Nat}{d:D},d.fit n=true->d.py.canLay0=true/\d.py.depth<=n
 |_,.non,_=>⟨rfl,yaY _⟩|_,.bl _,h=>by simp[D.fit]at h
 |_,.int _,_=>⟨rfl,yaY _⟩|_,.str x,h=>⟨by simpa[D.fit,D.py,PyData.canLay0]using h,yaY _⟩
 |0,.tup _,h=>by simp[D.fit]at h
 |0,.lst _,h=>by simp[D.fit]at h
 |n+1,.tup l,h=>by
  have h':D.fits n l=true:=by simpa[D.fit]using h
  obtain⟨a,b⟩:=D.lays h';exact⟨by simpa[D.py,PyData.canLay0]using a,by simp only[D.py,PyData.depth];omega⟩
 |n+1,.lst l,h=>by
  have h':D.fits n l=true:=by simpa[D.fit]using h
  obtain⟨a,b⟩:=D.lays h';exact⟨by simpa[D.py,PyData.canLay0]using a,by simp only[D.py,PyData.depth];omega⟩
theorem D.lays:∀{n:Nat}{l:List D},D.fits n l=true->PyData.canLayAll0 (D.pys l)=true/\PyData.depthAll (D.pys l)<=n
 |_,[],_=>⟨rfl,yaY _⟩|n,d::l,h=>by
  simp only[D.fits,yac]at h;obtain⟨a,b⟩:=D.lay h.1;obtain⟨c,e⟩:=D.lays h.2;exact⟨by simp[D.pys,PyData.canLayAll0,a,c],by simp only[D.pys,PyData.depthAll];omega⟩
end
section
variable{X:Cx}
def ziQ(I:d.canLay0=true)(r:Reads h v d as):SeqAt.readOf h v=d:=by
 have a:∃d as,Reads h v d as:=⟨d,as,r⟩;unfold SeqAt.readOf;rw[dif_pos a];obtain⟨bs,b⟩:=a.choose_spec;exact(SeqAt.Reads.unique _ _ _ _ _ I r b).symm
end
noncomputable def zl9:Option Int->Value->Bool
 |none,.none=>true|some i,v=>Value.isInt i v|_,_=>false
theorem zbn:∀{k:Option Int}{v:Value},zl9 k v=true->(k=none/\v=.none)\/∃i t,k=some i/\v=.int i t
 |none,v,h=>by
  cases v<;>simp[zl9]at h
  exact .inl ⟨rfl,rfl⟩
 |some i,v,h=>by
  obtain⟨t,e⟩:=Value.isInt_shape (k:=i) (v:=v) (by simpa[zl9]using h);exact .inr ⟨i,t,rfl,e⟩
noncomputable def zjL:Int:=reduceHash 4238894112
def zmG{prog:Program}{w:World}{A:Around}{E:Z5}{s:Shared}{Q:Int->Shared->Prop}(h:Q zjL {s with toks:=s.toks+1}):wpAny (model prog w) A (pyHash .none) Q E s:=
 PySem.W.pyHash_slot (T:="NoneType") rfl F.slot_NoneType_hash F.entry_NoneType_hash (F.args_NoneType_hash_1 _) (beq_builtin_none _) (.inl rfl) (yaa (yaf (yaa (wpAny_mkInt (yaf ⟨_,_,rfl,h⟩)))))
def zeD(prog:Program)(w:World):KeyKind prog w (Option Int)where
 is:=zl9
 hash:=fun k=>match k with|none=>zjL|some i=>hashInt i
 inj:=fun v a b f d=>by
  rcases zbn f with⟨rfl,rfl⟩|⟨i,t,rfl,rfl⟩<;>rcases zbn d with⟨rfl,e⟩|⟨j,u,rfl,e⟩<;>cases e<;>rfl
 byValue:=fun k v h=>by
  rcases zbn h with⟨rfl,rfl⟩|⟨i,t,rfl,rfl⟩<;>rfl
 pyHash:=fun {A E s k v Q} h c=>by
  rcases zbn h with⟨rfl,rfl⟩|⟨i,t,rfl,rfl⟩
  ·exact zmG c
  ·exact wpAny_pyHash_int c
 eqBool:=fun {A E s a b u v Q} f d c=>by
  rcases zbn f with⟨rfl,rfl⟩|⟨i,t,rfl,rfl⟩<;>rcases zbn d with⟨rfl,rfl⟩|⟨j,u,rfl,rfl⟩
  ·unfold PySem.eqBool;refine ybC ?_;refine wpAny_ite_split (fun _=>yaa (ydo (yaf (by simpa using c)))) (fun z=>absurd rfl z)
  ·exact SeqAt.EqAt.none_int j u prog w E Q (by simpa using c)
  ·exact SeqAt.EqAt.int_none i t prog w E Q (by simpa using c)
  ·refine SeqAt.EqAt.int_int i t j u prog w E Q ?_
   have e:decide (some i=some j)=(i==j):=by
    rw[ybH];simp
   rw[<-e];exact c
 «strs»:=fun k x t v h=>by
  rcases zbn h with⟨_,e⟩|⟨i,u,_,e⟩<;>cases e
noncomputable abbrev NK:=Int×List (Option Int)
noncomputable def zfl:Option Int->PyData|none=>.none|some i=>.int i
noncomputable def zfh(prog:Program)(w:World)(h:Heap)(k:NK)(a:Addr):Prop:=∃o items n t b,h.get? a=some o/\o.cls=.type "tuple" /\ o.data=.seq items n/\items.toList=[.int k.1 t,.ref b]/\IsTupleKey (zeD prog w) h k.2 b
section
variable{prog:Program}{w:World}{A:Around}{E:Z5}{s:Shared}
def zoo(prog:Program)(w:World)(k:NK):Int:=reduceHash (Builtin.Tuple.tupleHashOf [hashInt k.1,tupleKeyHash (zeD prog w) k.2])
def zfh.typeIs(x:zfh prog w s.heap k a):s.TypeIs (.ref a) "tuple":=let ⟨o,_,_,_,_,b,c,_⟩:=x;⟨o,b,c⟩
theorem zeE:∀{l:Z4}{vs:List Value},ItemsAre (zeD prog w) l vs->ReadsAll h vs (l.map zfl) []
 |_,_,.nil=>.nil|_,_,.cons h1 r=>by
  rcases zbn h1 with⟨rfl,rfl⟩|⟨i,t,rfl,rfl⟩
  ·exact .cons (as:=[]) (bs:=[]) .none (zeE r)
  ·exact .cons (as:=[]) (bs:=[]) (.int i t) (zeE r)
def zfh.reads(x:zfh prog w h k a):Reads h (.ref a) (.tuple [.int k.1,.tuple (k.2.map zfl)]) []:=by
 obtain⟨o,items,n,t,b,i,j,hd,hi,ob,g,m,c,f,e,d⟩:=x;refine .tuple i j hd ?_;rw[hi];exact .cons (as:=[]) (bs:=[]) (.int _ _) (.cons (as:=[]) (bs:=[]) (.tuple c f e (zeE d)) .nil)
theorem zib:∀{l m:Z4},PyData.eqvAll (l.map zfl) (m.map zfl)=decide (l=m)
 |[],[]=>by simp[PyData.eqvAll]
 |[],_::_=>by simp[PyData.eqvAll]
 |_::_,[]=>by simp[PyData.eqvAll]
 |x::l,y::m=>by
  have a:=zib (l:=l) (m:=m);simp only[yau,PyData.eqvAll,a]
  cases x<;>cases y<;>simp[zfl,PyData.eqv]
  rw[ybH];simp
theorem zfI:∀{l:Z4},PyData.canLayAll0 (l.map zfl)=true/\PyData.depthAll (l.map zfl)=0
 |[]=>⟨rfl,rfl⟩|x::l=>by
  obtain⟨a,b⟩:=zfI (l:=l)
  cases x<;>simp[zfl,PyData.canLayAll0,PyData.depthAll,PyData.canLay0,PyData.depth,a,b]
def ze3(prog:Program)(w:World):HeapKind prog w NK where
 is:=zfh prog w
 hash:=zoo prog w
 draws:=fun k=>1+(k.2.length+1)+1
 room:=fun A=>A.units+8<cLine
 inj:=fun {h a x y} N M=>by
  obtain⟨o,items,n,t,b,j,I,hd,hi,i⟩:=N;obtain⟨o',H,n',t',b',C,a3,D,q,X⟩:=M;rw[j]at C;cases C;rw[hd]at D;cases D;rw[hi]at q;simp only[List.cons.injEq,Value.int.injEq,Value.ref.injEq,and_true]at q;obtain⟨⟨g,_⟩,f⟩:=q;subst f;exact Prod.ext g (i.inj X)
 keeps:=fun {h h' k a d o es ep} x j hd hs=>by
  obtain⟨V,items,n,t,b,p,I,u,hi,i⟩:=x;refine⟨V,items,n,t,b,(hs.2 a ?_).trans p,I,u,hi,i.keeps j hd hs⟩;rintro rfl;rw[j]at p;cases p;rw[hd]at u;cases u
 pyHash:=fun {A E s k a Q} Y x B=>by
  have J:=zfh.typeIs (prog:=prog) (w:=w) x;obtain⟨o,items,n,t,b,j,I,hd,hi,i⟩:=x;refine PySem.W.pyHash_slot (T:="tuple") J F.slot_tuple_hash F.entry_tuple_hash (F.args_tuple_hash_1 _) (beq_builtin_none _) (.inr (by omega)) ?_;show wpAny _ _ (Builtin.Tuple.tupleItemsOf (.ref a) >>= _) _ _ s;refine yaa (ydi j hd ?_);refine yaa ?_;rw[<-ydj,hi];refine wpAny_forIn_list _ (fun zcV (r:Array Int) s'=>(zcV=[.int k.1 t,.ref b]/\r.toList=[]/\s'=s)\/(zcV=[.ref b]/\r.toList=[hashInt k.1]/\s'={s with toks:=s.toks+1})\/(zcV=[]/\r.toList=[hashInt k.1,tupleKeyHash (zeD prog w) k.2]/\s'={s with toks:=s.toks+1+(k.2.length+1)})) _ ?_ ?_ _ _ (.inl ⟨rfl,rfl,rfl⟩)
  ·rintro x zcV r s' (⟨e,c,rfl⟩|⟨e,c,rfl⟩|⟨e,c,rfl⟩)
   ·injection e with g f
    subst g f;refine yaa (wpAny_pyHash_int ?_)
    first
     |exact yaf (.inr (.inl ⟨rfl,by simp[c],rfl⟩))
     |exact yaa (yaf (yaf (.inr (.inl ⟨rfl,by simp[c],rfl⟩))))
   ·injection e with g f
    subst g f;refine yaa (wpAny_pyHash_tuple (A:=A.in1) (by show A.units+1<cLine;omega) i ?_)
    first
     |exact yaf (.inr (.inr ⟨rfl,by simp[c],rfl⟩))
     |exact yaa (yaf (yaf (.inr (.inr ⟨rfl,by simp[c],rfl⟩))))
   ·cases e
  ·rintro r s' (⟨e,_⟩|⟨e,_⟩|⟨_,c,rfl⟩)
   ·cases e
   ·cases e
   ·show wpAny _ _ (retInt (Builtin.Tuple.tupleHashOf r.toList)) _ _ _;rw[c];refine yaa (wpAny_mkInt (yaf ⟨_,_,rfl,?_⟩))
    have e:s.toks+1+(k.2.length+1)+1=s.toks+(1+(k.2.length+1)+1):=by omega
    show Q _ {s with toks:=s.toks+1+(k.2.length+1)+1};rw[e];exact B
 eqBool:=fun {A E s x y a b Q} Y N M B=>by
  refine SeqAt.eqAt_reads _ _ A s (.ref a) (.ref b) [] [] N.reads M.reads ?_ ?_ ?_ prog w E Q ?_
  ·simp[PyData.canLay0,PyData.canLayAll0,zfI.1]
  ·simp[PyData.canLay0,PyData.canLayAll0,zfI.1]
  ·have h1:(PyData.tuple [.int x.1,.tuple (x.2.map zfl)]).depth<=3:=by
    simp[PyData.depth,PyData.depthAll,zfI.2]
   have:min (PyData.tuple [.int x.1,.tuple (x.2.map zfl)]).depth (PyData.tuple [.int y.1,.tuple (y.2.map zfl)]).depth<=3:=yal (Nat.min_le_left _ _) h1;omega
  ·have e:(PyData.tuple [.int x.1,.tuple (x.2.map zfl)]).eqv (.tuple [.int y.1,.tuple (y.2.map zfl)])=decide (x=y):=by
    simp only[PyData.eqv,PyData.eqvAll,zib];rw[ybH];simp[Prod.ext_iff]
   rw[e];exact B
 quiet:=fun {A E s k a Q} x B=>by
  have J:=zfh.typeIs (prog:=prog) (w:=w) x;obtain⟨o,items,n,t,b,j,I,hd,hi,i⟩:=x;have G:=i.typeIs;obtain⟨ob,K,m,O,Z,R,P⟩:=i
  have low:wpAny (model prog w) A (eqIsQuiet 7 (.ref b)) (fun r s'=>r=true/\s'=s) E s:=by
   unfold eqIsQuiet;refine yaa (wpAny_specialOf G F.slot_tuple_eq.lookup ?_);show wpAny _ _ (isInstance (.ref b) (.type "tuple") >>= _) _ _ s;refine yaa (ycn G isSubtype_tuple_tuple ?_);simp only[yc3,yaK,yby];refine yaa (yb2 O R (yaa ?_));show wpAny _ _ (forIn K _ _) _ _ s;rw[<-ydj];refine wpAny_forIn_list _ (fun zcV r s'=>r.1=none/\s'=s/\∀v∈zcV,carriedByValue v=true) _ ?_ ?_ _ _ ⟨rfl,rfl,P.byValue⟩
   ·rintro v zcV r s' ⟨c,rfl,l⟩;rw[eqIsQuiet_byValue _ (l v yay)];refine yaa (yaf ?_);simp only[yc3,yaK,yby];exact yaf ⟨rfl,rfl,fun z L=>l z (yas _ L)⟩
   ·rintro⟨r1,U⟩ s' ⟨c,rfl,_⟩;simp only at c;subst c;exact yaf ⟨rfl,rfl⟩
  unfold eqIsQuiet;refine yaa (wpAny_specialOf J F.slot_tuple_eq.lookup ?_);show wpAny _ _ (isInstance (.ref a) (.type "tuple") >>= _) _ _ s;refine yaa (ycn J isSubtype_tuple_tuple ?_);simp only[yc3,yaK,yby];refine yaa (yb2 j hd (yaa ?_));show wpAny _ _ (forIn items _ _) _ _ s;rw[<-ydj,hi];refine wpAny_forIn_list _ (fun zcV r s'=>r.1=none/\s'=s/\(zcV=[.int k.1 t,.ref b]\/zcV=[.ref b]\/zcV=[])) _ ?_ ?_ _ _ ⟨rfl,rfl,.inl rfl⟩
  ·rintro v zcV r s' ⟨c,rfl,(e|e|e)⟩
   ·injection e with g f
    subst g f;rw[eqIsQuiet_byValue _ rfl];refine yaa (yaf ?_);simp only[yc3,yaK,yby];exact yaf ⟨rfl,rfl,by simp⟩
   ·injection e with g f
    subst g f;refine yaa (ybr low (fun r' S L=>?_) fun _ _ z=>z);obtain⟨rfl,rfl⟩:=L;simp only[yc3,yaK,yby];exact yaf ⟨rfl,rfl,by simp⟩
   ·cases e
  ·rintro⟨r1,U⟩ s' ⟨c,rfl,_⟩;simp only at c;subst c;exact yaf B
end
noncomputable def oV:Option Int->V|none=>.non|some i=>.int i
noncomputable def DN(P:Program)(w:World)(a:Addr)(xs:List (NK×Addr×Value))(h:Heap):Prop:=
 ∃o es ep,h.get? a=some o/\o.ExactDict/\o.data=.dict es ep/\es.toList=xs.map (entryOfKey (ze3 P w))/\(xs.map (·.1)).Nodup/\(a==sysModules)=false
noncomputable def zjg(H:Hp)(kb:Addr)(k:NK):Prop:=∃b,H kb=some (.tup [.int k.1,.ref b])/\H b=some (.tup (k.2.map oV))
noncomputable def zpb(H:Hp)(xs:List (NK×Addr×Value))(m:List (NK×V)):Prop:=Paired (fun(x:NK×Addr×Value) (p:NK×V)=>x.1=p.1/\zjg H x.2.1 x.1/\zbD p.2 x.2.2) xs m
def zj8:∀h1 h2:Heap,DN P w a xs h1->(∀o,h1.get? a=some o->h2.get? a=some o)->DN P w a xs h2:=fun h1 h2 ⟨o,es,ep,e,r⟩ k=>⟨o,es,ep,k _ e,r⟩
section
variable{X:Cx}{pins:Z3}{σ:St}{H:Hp}{s:Shared}
theorem zfN:∀{l:Z4}{I:List Value},Vals (l.map oV) I->ItemsAre (zeD X.prog X.w) l I
 |[],_,.nil=>.nil|none::l,_,.cons r t=>by
  cases r;exact .cons rfl (zfN t)
 |some i::l,_,.cons r t=>by
  obtain⟨u,rfl⟩:=r;exact .cons (by simp[zeD,zl9,Value.isInt]) (zfN t)
def Inv.nest(I:Inv X pins σ H s)(h:zjg H kb k):zfh X.prog X.w s.heap k kb:=by
 obtain⟨b,h1,h2⟩:=h;obtain⟨p,i,⟨o,q,r,n,hd⟩,_⟩:=I.tuple (SqT.of (K:=X.K) h1);obtain⟨g,a,⟨l,d,f,m,e⟩,_⟩:=I.tuple (SqT.of (K:=X.K) h2)
 cases i with
 |cons r1 c=>
  cases c with
  |cons j c=>
   cases c;obtain⟨t,rfl⟩:=r1;cases j;exact⟨o,_,n,t,b,q,r,hd,rfl,l,_,m,d,f,e,by simpa using zfN a⟩
def zpb.keys(I:Inv X pins σ H s):zpb H xs m->∀x∈xs,zfh X.prog X.w s.heap x.1 x.2.1:=by
 intro h
 induction h with
 |nil=>intro x a;simp at a|cons h t b=>
  intro x a
  rcases yat.mp a with rfl|a
  ·exact I.nest h.2.1
  ·exact b x a
def Inv.ndict(I:Inv X pins σ H s)(h:H a=some (.ext (DN X.prog X.w a xs)))(e:zpb H xs m):s.heap.DictOfH (ze3 X.prog X.w) a xs/\(a==sysModules)=false:=by
 obtain⟨⟨o,es,ep,h1,h2,d,h4,c,b⟩,_⟩:=I.hok a _ h;exact⟨⟨o,es,ep,h1,h2,d,h4,e.keys I,c⟩,b⟩
def zft(e:zpb H xs m)(k:NK):(m.lookup k=none/\atKey xs k=none)\/∃c p,m.lookup k=some c/\atKey xs k=some p/\zbD c p.2:=by
 induction e with
 |nil=>exact .inl ⟨rfl,rfl⟩| @cons x p g f h t i=>
  obtain⟨h1,h2,j⟩:=h
  by_cases a:x.1=k
  ·refine .inr ⟨p.2,x.2,?_,?_,j⟩
   ·obtain⟨d,pc⟩:=p;simp only at h1;subst h1;rw[yaz,a];simp
   ·simp[atKey,a]
  ·have b:¬ p.1=k:=by rw[<-h1];exact a
   have n:List.lookup k (p::f)=List.lookup k f:=by
    obtain⟨d,pc⟩:=p;rw[yaz]
    have:(k==d)=false:=by
     rw[ya5];exact fun z=>b z.symm
    rw[this]
   have l:atKey (x::g) k=atKey g k:=by simp[atKey,List.find?_cons,a]
   rw[n,l];exact i
theorem zpq(J:X.A.units+16<cLine):OpR X (compareOp .NotIn) (fun x y H Q=>∃kb a k xs m,x=.ref kb/\y=.ref a/\zjg H kb k/\H a=some (.ext (DN X.prog X.w a xs))/\zpb H xs m/\Q (.bl (m.lookup k).isNone) H):=by
 intro pins s σ H x y v u Q I f e h;obtain⟨kb,a,k,xs,m,rfl,rfl,i,g,he,q⟩:=h;cases f;cases e;obtain⟨hm,hd⟩:=I.ndict g he;refine wpAny_notIn_heap (knd:=ze3 X.prog X.w) (k:=k) (by show X.A.units+1+8<cLine;omega) (I.nest i) hd hm ⟨.bl _,H,I.tok _,?_,q⟩
 rcases zft he k with⟨d,b⟩|⟨c,p,d,b,_⟩<;>rw[d,b]<;>rfl
def zuv(J:X.A.units+16<cLine):IxR X (fun x y H Q=>∃a kb k xs m c,x=.ref a/\y=.ref kb/\zjg H kb k/\H a=some (.ext (DN X.prog X.w a xs))/\zpb H xs m/\m.lookup k=some c/\Q c H):=by
 intro value slice pins s σ H x y v u Q I f e h hs;obtain⟨a,kb,k,xs,m,c,rfl,rfl,i,g,he,b,q⟩:=h;cases f;cases e;obtain⟨hm,hd⟩:=I.ndict g he
 rcases zft he k with⟨d,_⟩|⟨c',p,d,j,r⟩
 ·rw[d]at b;cases b
 ·rw[d]at b;cases b;exact ycL (x:=p.2) hm.typeIs slot_dict_getitem.lookup (wpAny_getItem_heap (knd:=ze3 X.prog X.w) (k:=k) (by show X.A.units+1+8<cLine;omega) (I.nest i) hm j ⟨rfl,c,H,I.tok _,r,q⟩) hs
theorem zqm(J:X.A.units+16<cLine):zwY X (fun o i v H Q=>∃a kb k xs m,o=.ref a/\i=.ref kb/\zjg H kb k/\H a=some (.ext (DN X.prog X.w a xs))/\zpb H xs m/\m.lookup k=none/\m.length<=1000000/\∀u,zbD v u->Q (upd H a (.ext (DN X.prog X.w a (xs++[(k,kb,u)]))))):=by
 intro pins s σ H o i v ov G u Q I n r l h;obtain⟨a,kb,k,xs,m,rfl,rfl,y,f,he,g,t,q⟩:=h;cases n;cases r;obtain⟨hm,hd⟩:=I.ndict f he;have hlen:xs.length=m.length:=Paired.length he
 have d:atKey xs k=none:=by
  rcases zft he k with⟨_,d⟩|⟨c',p,E,_,_⟩
  ·exact d
  ·rw[E]at g;cases g
 refine wpAny_setItem_heap (knd:=ze3 X.prog X.w) (k:=k) (by show X.A.units+1+8<cLine;omega) (I.nest y) hm (fun h' c j=>?_) (by rw[hlen];exact yal t (by decide));rw[storedH_new d]at c;obtain⟨o,es,ep,g1,g2,g3,D,K,C⟩:=c;have F:DN X.prog X.w a (xs++[(k,kb,u)]) h':=⟨o,es,ep,g1,g2,g3,D,C,hd⟩;refine⟨upd H a (.ext (DN X.prog X.w a (xs++[(k,kb,u)]))),?_,q u l⟩;exact I.write (x:=a) (e:=a) (by rw[f];trivial) (.inl rfl) (fun b o B z=>(j.2 b B).trans z) ⟨_,g1⟩ ⟨F,⟨_,g1⟩,zj8⟩
noncomputable def zvM(P:Program)(w:World):TE:=fun _ H Q=>∀p,H p=none->Q (.ref p) (upd H p (.ext (DN P w p [])))
def zqQ:PE X (.Dict [] [] pos) (zvM X.prog X.w):=fun pins s σ H Q I h=>by
 have big:sysModules<s.heap.objs.size:=ycS (show sysModules<mainGlobals by decide) (I.mod.glob.keeps I.bk).lt;have b:(s.heap.objs.size==sysModules)=false:=ya5.mpr (Ne.symm (yaA big));have c:DN X.prog X.w s.heap.objs.size [] (s.heap.push {cls:=.type "dict",data:=.dict #[]}):=⟨_,#[],0,yaq _ rfl,⟨rfl,rfl,rfl⟩,rfl,rfl,List.nodup_nil,b⟩;refine wpAny_Dict_empty ⟨.ref s.heap.objs.size,upd H s.heap.objs.size (.ext (DN X.prog X.w s.heap.objs.size [])),?_,rfl,h _ (I.hok.fresh (yai _))⟩;exact I.laid (a:=s.heap.objs.size) (t':=s.toks) (fun _ _ q=>yae _ q) (yai _) ⟨c,⟨_,yaq _ rfl⟩,zj8⟩
end
section
variable{κ:Type}[DecidableEq κ]
noncomputable def zxB(I:List (κ×V))(k:κ)(v:V):List (κ×V):=
 if(I.any fun a=>decide (a.1=k))=true then I.map (fun a=>if a.1=k then(a.1,v)else a)else I++[(k,v)]
end
def zwl(r:zbD (kV k) u):(zdA P w).is k u=true:=by
 cases k with
 |inl i=>obtain⟨t,e⟩:=(show ∃t,u=Value.int i t from r);subst e;exact ziY P w i t|inr x=>obtain⟨t,e⟩:=(show ∃t,u=Value.str x t from r);subst e;exact ziX P w x t
theorem zii:∀{ks:List Key}{us:List Value},Vals (ks.map kV) us->ItemsAre (zdA P w) ks us
 |[],_,r=>by rw[ydg]at r;cases r;exact .nil
 |k::ks,_,r=>by
  rw[yau]at r
  cases r with
  |cons h t=>exact .cons (zwl h) (zii t)
section
variable{P:Program}{w:World}{H:Hp}{h:Heap}{a:Addr}
def zjQ(ok:HOk P w H h)(e:H a=some (.tup (ks.map kV))):(tupleKind (zdA P w)).is h ks a:=by
 obtain⟨_,b,r,o,h1,h2,n,c⟩:=(show zb8 P w H h a (.tup (ks.map kV))from ok a _ e);exact⟨o,b.toArray,n,h1,h2,c,by simpa using zii r⟩
end
section
variable{X:Cx}{pins:Z3}{σ:St}{H:Hp}{s:Shared}{a:Addr}{y v:V}{u r:Value}{o:Option V}{A:Around}{E:Z5}
def Inv.big(I:Inv X pins σ H s):sysModules<s.heap.objs.size:=by
 have h:mainGlobals<s.heap.objs.size:=(I.mod.glob.keeps I.bk).lt;exact ycS (by decide) h
end
structure M1(X:Cx)(o:Expr)(m:Str)(apos:Pos)(e:Expr)(cpos:Pos):Prop where
 base:attributeBase o m X.env (eval o X.env)=eval o X.env
 few:((backTo cpos (starEach [e] X.env)).all (fun x=>!x.1)&&(backToKw cpos (keywordEach [] X.env)).all (fun x=>x.1.isSome)
  && decide (([e]:List Expr).length+([]:List Keyword).length+(if([]:List Keyword).isEmpty then 0 else 1)<30))=true
 line:(apos.endLine==cpos.line)=true
 trees:backTo cpos (starEach [e] X.env)=[(false,eval e X.env)]
structure M2(X:Cx)(o:Expr)(m:Str)(apos:Pos)(e f:Expr)(cpos:Pos):Prop where
 base:attributeBase o m X.env (eval o X.env)=eval o X.env
 few:((backTo cpos (starEach [e,f] X.env)).all (fun x=>!x.1)&&(backToKw cpos (keywordEach [] X.env)).all (fun x=>x.1.isSome)
  && decide (([e,f]:List Expr).length+([]:List Keyword).length+(if([]:List Keyword).isEmpty then 0 else 1)<30))=true
 line:(apos.endLine==cpos.line)=true
 trees:backTo cpos (starEach [e,f] X.env)=[(false,eval e X.env),(false,eval f X.env)]
noncomputable def zpg:List (TE×TE)->St->Hp->(List (V×V)->Hp->Prop)->Prop
 |[],_,H,Q=>Q [] H|(tk,tv)::r,σ,H,Q=>tk σ H fun x H1=>tv σ H1 fun y H2=>zpg r σ H2 fun ps a=>Q ((x,y)::ps) a
noncomputable abbrev VV:List (V×V)->List (Value×Value)->Prop:=Paired fun p q=>zbD p.1 q.1/\zbD p.2 q.2
noncomputable def PPs(X:Cx)(pos:Pos)(keys:List (Option Expr))(values:List Expr)(I:List (TE×TE)):Prop:=
 ∀(pins:Z3) (s:Shared) (σ:St) (H:Hp) (Q:List (V×V)->Hp->Prop),Inv X pins σ H s->zpg I σ H Q →
  wpAny (model X.prog X.w) X.A (evalPairs (pairTrees keys values X.env pos)) (fun vs s'=>∃ps H',Inv X pins σ H' s'/\VV ps vs/\Q ps H') X.xe s
def zqF:PPs X pos [] [] []:=fun pins s σ H Q I h=>pairTrees_nil_walk ⟨[],H,I,.nil,h⟩
def znV(hk:PE X k tk)(U:PE X v tv)(hr:PPs X pos ks vs J):
  PPs X pos (some k::ks) (v::vs) ((tk,tv)::J):=fun pins s σ H Q I h=>
 pairTrees_cons_walk (thn (hk pins s σ H _ I h) fun u s1 ⟨x,H1,i,b,e⟩=>thn (U pins s1 σ H1 _ i e) fun m s2 ⟨y,H2,g,a,d⟩=>
  thn (hr pins s2 σ H2 _ g d) fun l s3 ⟨ps,j,f,rel,c⟩=>⟨(x,y)::ps,j,f,.cons ⟨b,a⟩ rel,c⟩)
noncomputable abbrev PA2:=(Int×Int)×Addr
noncomputable def kP(p:Int×Int):List Key:=[.inl p.1,.inl p.2]
def zur(h:kP p=kP q):p=q:=by
 obtain⟨a,b⟩:=p;obtain⟨c,d⟩:=q;unfold kP at h
 injection h with h1 h2
 injection h2 with h2 _
 injection h1 with h1
 injection h2 with h2
 exact Prod.ext h1 h2
def xsP(xs:List PA2):List (List Key×Addr×Value):=xs.map fun x=>(kP x.1,x.2,.bool true)
noncomputable def DP(P:Program)(w:World)(a:Addr)(xs:List PA2)(h:Heap):Prop:=
 ∃o es ep,h.get? a=some o/\o.ExactDict/\o.data=.dict es ep/\es.toList=(xsP xs).map (entryOfKey (tupleKind (zdA P w)))/\((xsP xs).map (·.1)).Nodup/\(a==sysModules)=false
noncomputable def KsP(H:Hp)(xs:List PA2):Prop:=∀x∈xs,H x.2=some (.tup [.int x.1.1,.int x.1.2])
def zhv:∀h1 h2:Heap,DP P w a xs h1->(∀o,h1.get? a=some o->h2.get? a=some o)->DP P w a xs h2:=fun h1 h2 ⟨o,es,ep,e,r⟩ k=>⟨o,es,ep,k _ e,r⟩
def zhD:atKey (xsP xs) (kP p)=none↔p ∉ xs.map (·.1):=by
 unfold atKey xsP;rw[Option.map_eq_none_iff,List.find?_eq_none];constructor
 ·intro h z;obtain⟨x,a,e⟩:=yar.mp z;exact h _ (yar.mpr ⟨x,a,rfl⟩) (by simp[e])
 ·intro h y b e;obtain⟨x,a,rfl⟩:=yar.mp b
  have:kP x.1=kP p:=by simpa using e
  exact h (yar.mpr ⟨x,a,zur this⟩)
section
variable{X:Cx}{pins:Z3}{σ:St}{H:Hp}{s:Shared}{a kb:Addr}{xs:List PA2}{p:Int×Int}
def Inv.dp(I:Inv X pins σ H s)(h:H a=some (.ext (DP X.prog X.w a xs)))(k:KsP H xs):s.heap.DictOfH (tupleKind (zdA X.prog X.w)) a (xsP xs)/\(a==sysModules)=false:=by
 obtain⟨⟨o,es,ep,h1,h2,f,h4,e,d⟩,_⟩:=I.hok a _ h;refine⟨⟨o,es,ep,h1,h2,f,h4,fun y b=>?_,e⟩,d⟩;obtain⟨x,c,rfl⟩:=yar.mp b;exact zjQ I.hok (k x c)
def Inv.dp_addr(I:Inv X pins σ H s)(h:H a=some (.ext (DP X.prog X.w J xs))):J=a:=by
 apply Classical.byContradiction;intro b;obtain⟨dp,_,st⟩:=I.hok a _ h;obtain⟨o,es,ep,h1,h2,i,_⟩:=id dp;have c:=st s.heap (s.heap.update J fun _=>{cls:=.type "list",data:=.seq #[]}) dp (fun q e=>(Heap.get?_update_ne _ _ _ _ (fun z=>b z.symm)).trans e);obtain⟨g,d,f,g1,g2,_⟩:=c;rw[yca (fun _=>{cls:=.type "list",data:=.seq #[]}) h1 rfl]at g1;cases g1;exact absurd g2.1 (by decide)
def zma(U:X.A.units+1<cLine):OpR X (compareOp .NotIn) (fun x y H Q=>∃(kb a J:Addr) (p:Int×Int) (xs:List PA2),x=.ref kb/\y=.ref a/\H kb=some (.tup [.int p.1,.int p.2])/\H a=some (.ext (DP X.prog X.w J xs))/\KsP H xs/\Q (.bl (!decide (p∈xs.map (·.1)))) H):=by
 intro pins s σ H x y v u Q I d c h;obtain⟨kb,a,J,p,xs,rfl,rfl,f,b,he,q⟩:=h;cases d;cases c;obtain rfl:=I.dp_addr b;obtain⟨hm,hd⟩:=I.dp b he;refine wpAny_notIn_heap (k:=kP p) (tupleKind_room_in1 U) (zjQ I.hok f) hd hm ⟨.bl _,H,I.tok _,?_,q⟩
 by_cases e:p∈xs.map (·.1)
 ·have:(atKey (xsP xs) (kP p)).isSome=true:=by
   cases h:atKey (xsP xs) (kP p)with
   |none=>exact absurd e (zhD.mp h)|some _=>rfl
  rw[yax e,this];rfl
 ·rw[yaE e,zhD.mpr e];rfl
def znw(U:X.A.units+1<cLine):zwY X (fun o i v H Q=>∃(a J kb:Addr) (p:Int×Int) (xs:List PA2),o=.ref a/\i=.ref kb/\v=.bl true/\H kb=some (.tup [.int p.1,.int p.2])/\H a=some (.ext (DP X.prog X.w J xs))/\KsP H xs/\p ∉ xs.map (·.1)/\xs.length<=1000000/\Q (upd H a (.ext (DP X.prog X.w J (xs++[(p,kb)]))))):=by
 intro pins s σ H o i v ov B u Q I l m j h;obtain⟨a,J,kb,p,xs,rfl,rfl,rfl,t,d,he,r,n,q⟩:=h;cases l;cases m;obtain rfl:=I.dp_addr d;cases (show u=Value.bool true from j);obtain⟨hm,hd⟩:=I.dp d he;refine wpAny_setItem_heap (k:=kP p) (tupleKind_room_in1 U) (zjQ I.hok t) hm (fun h' c g=>?_) (by unfold xsP;rw[yad];exact yal n (by decide));rw[storedH_new (zhD.mpr r)]at c;obtain⟨o,es,ep,g1,g2,g3,f,C,e⟩:=c
 have ex:xsP xs++[(kP p,kb,Value.bool true)]=xsP (xs++[(p,kb)]):=by unfold xsP;rw[ybS];rfl
 rw[ex]at f e;have y:DP X.prog X.w _ (xs++[(p,kb)]) h':=⟨o,es,ep,g1,g2,g3,f,e,hd⟩;exact⟨upd H _ (.ext (DP X.prog X.w _ (xs++[(p,kb)]))),I.write (by rw[d];trivial) (.inl rfl) (fun b o x z=>(g.2 b x).trans z) ⟨_,g1⟩ ⟨y,⟨_,g1⟩,zhv⟩,q⟩
noncomputable def zsl(P:Program)(w:World)(tk tv:TE):TE:=fun σ H Q=>∀d,H d=none->tk σ (upd H d (.ext (DP P w d []))) fun x H1=>tv σ H1 fun y H2=>∃(kb:Addr) (p:Int×Int),x=.ref kb/\y=.bl true/\H2 kb=some (.tup [.int p.1,.int p.2])/\H2 d=some (.ext (DP P w d []))/\Q (.ref d) (upd H2 d (.ext (DP P w d [(p,kb)])))
def zob(hu:X.A.units+1<cLine)(U:PE X k tk)(J:PE X v tv):PE X (.Dict [some k] [v] pos) (zsl X.prog X.w tk tv):=by
 intro pins s σ H Q I q;have u:=I.hok.fresh (yai s.heap.objs.size);have big:sysModules<s.heap.objs.size:=I.big;have d:(s.heap.objs.size==sysModules)=false:=ya5.mpr (Ne.symm (yaA big));have E:DP X.prog X.w s.heap.objs.size [] (s.heap.push {cls:=.type "dict",data:=.dict #[]}):=⟨_,#[],0,yaq _ rfl,⟨rfl,rfl,rfl⟩,rfl,rfl,List.nodup_nil,d⟩;have F:=I.laid (a:=s.heap.objs.size) (o:=.ext (DP X.prog X.w s.heap.objs.size [])) (h':=s.heap.push {cls:=.type "dict",data:=.dict #[]}) (t':=s.toks) (fun _ _ q=>yae _ q) (yai _) ⟨E,⟨_,yaq _ rfl⟩,zhv⟩;refine wpAny_Dict_any rfl rfl (fun z=>nomatch z) (by show(1:Nat)<=15;decide) (thn (znV U J zqF pins _ σ _ (fun ps H2=>match ps with|[(x,y)]=>∃(kb:Addr) (p:Int×Int),x=.ref kb/\y=.bl true/\H2 kb=some (.tup [.int p.1,.int p.2])/\H2 s.heap.objs.size=some (.ext (DP X.prog X.w s.heap.objs.size []))/\Q (.ref s.heap.objs.size) (upd H2 s.heap.objs.size (.ext (DP X.prog X.w s.heap.objs.size [(p,kb)])))|_=>False) F (q _ u)) fun G s2 ⟨ps,H2,g,rel,z⟩=>?_);split at z
 rotate_left
 ·exact z.elim
 ·obtain⟨kb,p,rfl,rfl,h1,h2,r⟩:=z
  cases rel with
  | @cons x y xs ys r1 n=>
   cases n;obtain⟨i,h⟩:=y;obtain⟨m,l⟩:=r1;cases (show i=Value.ref kb from m);cases (show h=Value.bool true from l);unfold storeAll;rw[ycB];obtain⟨hm,hd⟩:=g.dp h2 (fun x t=>by cases t);refine yaa (yaa (wpAny_dictSet_heap (k:=kP p) (hsz:=yaY _) (show X.A.units<cLine by omega) (zjQ g.hok h1) hm fun h' c j=>yaf ?_));rw[storedH_new (zhD.mpr (fun z=>by cases z))]at c;obtain⟨o,es,ep,g1,g2,g3,D,K,C⟩:=c;have f:DP X.prog X.w s.heap.objs.size [(p,kb)] h':=⟨o,es,ep,g1,g2,g3,D,C,hd⟩;refine yaf ⟨.ref s.heap.objs.size,_,?_,rfl,r⟩;exact g.write (x:=s.heap.objs.size) (e:=s.heap.objs.size) (by rw[h2];trivial) (.inl rfl) (fun b o B z=>(j.2 b B).trans z) ⟨_,g1⟩ ⟨f,⟨_,g1⟩,zhv⟩
end
noncomputable def DO(P:Program)(w:World)(a:Addr)(ps:List (Option Int×Int))(h:Heap):Prop:=∃vs,h.DictOf (zeD P w) a vs/\Paired (fun(v:Option Int×Value) (p:Option Int×Int)=>v.1=p.1/\∃t,v.2=.int p.2 t) vs ps/\(a==sysModules)=false
end L2
namespace S2
open PySem PySem.Spec PyProof.Rows L2
noncomputable abbrev St:=L2.St
set_option genInjectivity true in
inductive D where
 |non|bl (b:Bool)|int (i:Int)|str (x:Str)|tup (l:List D)|lst (l:List D)|dic (l:List (D×D))|ref (n:Nat)|exc (c:Str)|scr (l:List Int)
set_option genInjectivity true in
inductive Root where
 |slot (i:Nat)|fld (n:Nat) (f:Str)|obj (n:Nat)|far
 deriving DecidableEq
noncomputable abbrev Ow:=Addr->Option Root
structure Cf where
 ad:Str->Addr
 K:PySem.W.Frag
 P:Program
 wo:PySem.World
noncomputable instance:CoeFun Cf (fun _=>Str->Addr):=⟨Cf.ad⟩
structure Wd where
 H:Hp
 ow:Ow
 mu:List Addr
noncomputable def zzw:Key->D|.inl i=>.int i|.inr x=>.str x
def zzu(k:List Key):D:=.tup (k.map zzw)
noncomputable def kvI(ps:List (Int×Int)):List (Key×V):=ps.map fun x=>(.inl x.1,.int x.2)
noncomputable def dsI(ps:List (Int×Int)):List (D×D):=ps.map fun x=>(.int x.1,.int x.2)
noncomputable def pdD(ps:List (Int×Int)):List (D×D):=ps.map fun p=>(.tup [.int p.1,.int p.2],.bl true)
noncomputable def oI:Option Int->D|none=>.non|some i=>.int i
def odD(ps:List (Option Int×Int)):List (D×D):=(.non,.non)::ps.map fun p=>(oI p.1,.int p.2)
inductive Exd(cl:Cf)(w:Wd):HO->List (D×D)->Prop
 |pd {a:Addr}{xs:List PA2}:(∀x∈xs,w.H x.2=some (.tup [.int x.1.1,.int x.1.2])/\w.ow x.2=none)->Exd cl w (.ext (DP cl.P cl.wo a xs)) (pdD (xs.map (·.1)))
 |od {a:Addr}{ps:List (Option Int×Int)}:Exd cl w (.ext (DO cl.P cl.wo a ps)) (odD ps)
mutual
inductive Shd(cl:Cf)(w:Wd):V->D->Prop
 |non:Shd cl w .non .non
 |bl (b:Bool):Shd cl w (.bl b) (.bl b)
 |int (i:Int):Shd cl w (.int i) (.int i)
 |str (x:Str):Shd cl w (.str x) (.str x)
 |tup {a:Addr}{xs:List V}{ds:List D}:w.H a=some (.tup xs)->w.ow a=none->Shds cl w xs ds->Shd cl w (.ref a) (.tup ds)
 |lst {a:Addr}{xs:List V}{ds:List D}:w.H a=some (.lst xs)->w.ow a=none->Shds cl w xs ds->Shd cl w (.ref a) (.lst ds)
 |dicK {a:Addr}{kvs:List (Key×V)}{ds:List (D×D)}:w.H a=some (.dK kvs)->w.ow a=none->ShdK cl w kvs ds->Shd cl w (.ref a) (.dic ds)
 |dicT {a:Addr}{kvs:List (List Key×V)}{ds:List (D×D)}:w.H a=some (.dT kvs)->w.ow a=none->ShdT cl w kvs ds->Shd cl w (.ref a) (.dic ((.exc "",.non)::ds))
 |dicN {a:Addr}{ps:List (Int×Int)}:w.H a=some (.dK (kvI ps))->w.ow a=none->Shd cl w (.ref a) (.dic ((.non,.non)::dsI ps))
 |dicX {a:Addr}{o:HO}{ds:List (D×D)}:w.H a=some o->w.ow a=none->Exd cl w o ds->Shd cl w (.ref a) (.dic ((.bl true,.non)::ds))
 |ref {n:Nat}{a:Addr}:w.mu[n]?=some a->Shd cl w (.ref a) (.ref n)
 |scr {a:Addr}{o:Obj}{l:List Int}:w.H a=some (.frz o (.lst (l.map V.int)))->w.ow a=none->Shd cl w (.ref a) (.scr l)
 |scrK {a:Addr}{l:List Int}:(∀H:Hp,SqL cl.K H a (l.map V.int))->Shd cl w (.ref a) (.scr l)
 |exc {a:Addr}{c:Str}{ob:Obj}:w.H a=some (.frz ob (.own a))->w.ow a=none->ob.cls=.ref (cl c)->Shd cl w (.ref a) (.exc c)
inductive Shds(cl:Cf)(w:Wd):List V->List D->Prop
 |nil:Shds cl w [] []
 |cons {v:V}{d:D}{vs:List V}{ds:List D}:Shd cl w v d->Shds cl w vs ds->Shds cl w (v::vs) (d::ds)
inductive ShdK(cl:Cf)(w:Wd):List (Key×V)->List (D×D)->Prop
 |nil:ShdK cl w [] []
 |consI {i:Int}{v:V}{d:D}{vs:List (Key×V)}{ds:List (D×D)}:Shd cl w v d->ShdK cl w vs ds->ShdK cl w ((.inl i,v)::vs) ((.int i,d)::ds)
 |consS {x:Str}{v:V}{d:D}{vs:List (Key×V)}{ds:List (D×D)}:Shd cl w v d->ShdK cl w vs ds->ShdK cl w ((.inr x,v)::vs) ((.str x,d)::ds)
inductive ShdT(cl:Cf)(w:Wd):List (List Key×V)->List (D×D)->Prop
 |nil:ShdT cl w [] []
 |cons {k:List Key}{v:V}{d:D}{vs:List (List Key×V)}{ds:List (D×D)}:Shd cl w v d->ShdT cl w vs ds->ShdT cl w ((k,v)::vs) ((zzu k,d)::ds)
end
structure Fut(w w':Wd):Prop where
 keep:∀a o,w.H a=some o->w.ow a=none->w'.H a=some o/\w'.ow a=none
 mu:∀(n:Nat) (a:Addr),w.mu[n]?=some a->w'.mu[n]?=some a
def Fut.refl(w:Wd):Fut w w:=⟨fun _ _ h k=>⟨h,k⟩,fun _ _ h=>h⟩
def Fut.trans(a:Fut w J)(b:Fut J I):Fut w I:=⟨fun c o h k=>b.keep c o (a.keep c o h k).1 (a.keep c o h k).2,fun n c h=>b.mu n c (a.mu n c h)⟩
theorem Exd.up(f:Fut w w'):Exd cl w o ds->Exd cl w' o ds
 |.pd h=>.pd fun x a=>f.keep _ _ (h x a).1 (h x a).2|.od=>.od
mutual
theorem Shd.up{cl:Cf}{w w':Wd}(f:Fut w w'):∀{v:V}{d:D},Shd cl w v d->Shd cl w' v d
 |_,_,.non=>.non|_,_,.bl b=>.bl b|_,_,.int i=>.int i|_,_,.str x=>.str x|_,_,.tup e k r=>.tup (f.keep _ _ e k).1 (f.keep _ _ e k).2 (Shds.up f r)|_,_,.lst e k r=>.lst (f.keep _ _ e k).1 (f.keep _ _ e k).2 (Shds.up f r)|_,_,.dicK e k r=>.dicK (f.keep _ _ e k).1 (f.keep _ _ e k).2 (ShdK.up f r)|_,_,.dicT e k r=>.dicT (f.keep _ _ e k).1 (f.keep _ _ e k).2 (ShdT.up f r)|_,_,.dicN e k=>.dicN (f.keep _ _ e k).1 (f.keep _ _ e k).2|_,_,.dicX e k x=>.dicX (f.keep _ _ e k).1 (f.keep _ _ e k).2 (x.up f)|_,_,.ref e=>.ref (f.mu _ _ e)|_,_,.scr e k=>.scr (f.keep _ _ e k).1 (f.keep _ _ e k).2|_,_,.scrK h=>.scrK h|_,_,.exc e k h=>.exc (f.keep _ _ e k).1 (f.keep _ _ e k).2 h
theorem Shds.up{cl:Cf}{w w':Wd}(f:Fut w w'):∀{vs:List V}{ds:List D},Shds cl w vs ds->Shds cl w' vs ds
 |_,_,.nil=>.nil|_,_,.cons r t=>.cons (Shd.up f r) (Shds.up f t)
theorem ShdK.up{cl:Cf}{w w':Wd}(f:Fut w w'):∀{vs:List (Key×V)}{ds:List (D×D)},ShdK cl w vs ds->ShdK cl w' vs ds
 |_,_,.nil=>.nil|_,_,.consI r t=>.consI (Shd.up f r) (ShdK.up f t)|_,_,.consS r t=>.consS (Shd.up f r) (ShdK.up f t)
theorem ShdT.up{cl:Cf}{w w':Wd}(f:Fut w w'):∀{vs:List (List Key×V)}{ds:List (D×D)},ShdT cl w vs ds->ShdT cl w' vs ds
 |_,_,.nil=>.nil|_,_,.cons r t=>.cons (Shd.up f r) (ShdT.up f t)
end
section
variable{cl:Cf}{w:Wd}
theorem Shds.length:∀{vs:List V}{ds:List D},Shds cl w vs ds->vs.length=ds.length
 |_,_,.nil=>rfl|_,_,.cons _ t=>by rw[yan,yan,Shds.length t]
theorem Shds.get:∀{vs:List V}{ds:List D},Shds cl w vs ds->∀{i:Nat}{v:V},vs[i]?=some v->∃d,ds[i]?=some d/\Shd cl w v d
 |_,_,.nil,i,v,e=>by simp at e
 |_,_,.cons r _,0,v,e=>by simp at e;subst e;exact⟨_,rfl,r⟩
 |_,_,.cons _ t,i+1,v,e=>by
  obtain⟨d,h1,h2⟩:=Shds.get t (i:=i) (v:=v) (by simpa using e);exact⟨d,by simpa using h1,h2⟩
theorem Shds.at:∀{vs:List V}{ds:List D},Shds cl w vs ds->∀{i:Nat}{d:D},ds[i]?=some d->∃v,vs[i]?=some v/\Shd cl w v d
 |_,_,.nil,i,v,e=>by simp at e
 |_,_,.cons r _,0,v,e=>by simp at e;subst e;exact⟨_,rfl,r⟩
 |_,_,.cons _ t,i+1,v,e=>by
  obtain⟨d,h1,h2⟩:=Shds.at t (i:=i) (d:=v) (by simpa using e);exact⟨d,by simpa using h1,h2⟩
theorem Shds.append:∀{vs I:List V}{ds es:List D},Shds cl w vs ds->Shds cl w I es->Shds cl w (vs++I) (ds++es)
 |_,_,_,_,.nil,s=>s|_,_,_,_,.cons r t,s=>.cons r (Shds.append t s)
theorem Shds.take:∀{vs:List V}{ds:List D} (n:Nat),Shds cl w vs ds->Shds cl w (vs.take n) (ds.take n)
 |_,_,0,_=>.nil|_,_,_+1,.nil=>.nil|_,_,n+1,.cons r t=>.cons r (Shds.take n t)
theorem Shds.drop:∀{vs:List V}{ds:List D} (n:Nat),Shds cl w vs ds->Shds cl w (vs.drop n) (ds.drop n)
 |_,_,0,s=>s|_,_,_+1,.nil=>.nil|_,_,n+1,.cons _ t=>Shds.drop n t
theorem Shds.flat(h:Shds cl w vs ds):∀n:Nat,Shds cl w (List.replicate n vs).flatten (List.replicate n ds).flatten
 |0=>.nil|n+1=>by
  rw[ybf,ybf,ybE,ybE];exact Shds.append h (Shds.flat h n)
end
inductive Top(cl:Cf)(w:Wd):HO->D->Prop
 |lst {xs:List V}{ds:List D}:Shds cl w xs ds->Top cl w (.lst xs) (.lst ds)
 |dicK {kvs:List (Key×V)}{ds:List (D×D)}:ShdK cl w kvs ds->Top cl w (.dK kvs) (.dic ds)
 |dicT {kvs:List (List Key×V)}{ds:List (D×D)}:ShdT cl w kvs ds->Top cl w (.dT kvs) (.dic ((.exc "",.non)::ds))
 |dicN {ps:List (Int×Int)}:Top cl w (.dK (kvI ps)) (.dic ((.non,.non)::dsI ps))
 |dicX {o:HO}{ds:List (D×D)}:Exd cl w o ds->Top cl w o (.dic ((.bl true,.non)::ds))
theorem Top.up(f:Fut w w'):Top cl w o d->Top cl w' o d
 |.lst h=>.lst (h.up f)|.dicK h=>.dicK (h.up f)|.dicT h=>.dicT (h.up f)|.dicN=>.dicN|.dicX x=>.dicX (x.up f)
noncomputable def ziF(cl:Cf)(w:Wd)(r:Root):Bool->V->D->Prop
 |false,v,d=>Shd cl w v d|true,v,d=>∃a o,v=.ref a/\w.ow a=some r/\w.H a=some o/\Top cl w o d
theorem ziF.keep(f:Fut w w')(k:∀a o,w.H a=some o->w.ow a=some r->w'.H a=some o/\w'.ow a=some r):∀{b:Bool}{v:V}{d:D},ziF cl w r b v d->ziF cl w' r b v d
 |false,_,_,h=>Shd.up f h|true,_,_,⟨a,o,e,h1,h2,t⟩=>⟨a,o,e,(k a o h2 h1).2,(k a o h2 h1).1,t.up f⟩
noncomputable def oDn:Option Int->D|none=>.non|some i=>.int i
def nkD(k:NK):D:=.tup [.int k.1,.tup (k.2.map oDn)]
inductive ShdN(cl:Cf)(w:Wd):List (NK×V)->List (D×D)->Prop
 |nil:ShdN cl w [] []
 |cons {k:NK}{v:V}{d:D}{m:List (NK×V)}{ds:List (D×D)}:Shd cl w v d->ShdN cl w m ds->ShdN cl w ((k,v)::m) ((nkD k,d)::ds)
theorem ShdN.up(f:Fut w w'):∀{m:List (NK×V)}{ds:List (D×D)},ShdN cl w m ds->ShdN cl w' m ds
 |_,_,.nil=>.nil|_,_,.cons r t=>.cons (r.up f) (ShdN.up f t)
noncomputable def zni(w:Wd)(kb:Addr)(k:NK):Prop:=∃b,(w.H kb=some (.tup [.int k.1,.ref b])/\w.ow kb=none)/\w.H b=some (.tup (k.2.map oV))/\w.ow b=none
def zni.up(f:Fut w w')(h:zni w kb k):zni w' kb k:=by
 obtain⟨b,h1,h2⟩:=h;exact⟨b,f.keep _ _ h1.1 h1.2,f.keep _ _ h2.1 h2.2⟩
def zni.at(h:zni w kb k):zjg w.H kb k:=by
 obtain⟨b,h1,h2⟩:=h;exact⟨b,h1.1,h2.1⟩
noncomputable def zkd(w:Wd):List (NK×Addr×Value)->List (NK×V)->Prop:=Paired fun(x:NK×Addr×Value) (p:NK×V)=>x.1=p.1/\zni w x.2.1 x.1/\zbD p.2 x.2.2
theorem zkd.up(f:Fut w w'):∀{xs:List (NK×Addr×Value)}{m:List (NK×V)},zkd w xs m->zkd w' xs m
 |_,_,.nil=>.nil|_,_,.cons h t=>.cons ⟨h.1,h.2.1.up f,h.2.2⟩ (zkd.up f t)
theorem zkd.ents:∀{xs:List (NK×Addr×Value)}{m:List (NK×V)},zkd w xs m->zpb w.H xs m
 |_,_,.nil=>.nil|_,_,.cons h t=>.cons ⟨h.1,h.2.1.at,h.2.2⟩ (zkd.ents t)
theorem zkd.snoc(h:x.1=p.1/\zni w x.2.1 x.1/\zbD p.2 x.2.2):∀{xs:List (NK×Addr×Value)}{m:List (NK×V)},zkd w xs m->zkd w (xs++[x]) (m++[p])
 |_,_,.nil=>.cons h .nil|_,_,.cons h' t=>.cons h' (zkd.snoc h t)
theorem ShdN.snoc(h:Shd cl w v d):∀{m:List (NK×V)}{ds:List (D×D)},ShdN cl w m ds->ShdN cl w (m++[(k,v)]) (ds++[(nkD k,d)])
 |_,_,.nil=>.cons h .nil|_,_,.cons r t=>.cons r (ShdN.snoc h t)
noncomputable def zAp(cl:Cf)(w:Wd)(r:Root)(v:V)(d:D):Prop:=∃a xs m ds,v=.ref a/\w.ow a=some r/\w.H a=some (.ext (DN cl.P cl.wo a xs))/\zkd w xs m/\ShdN cl w m ds/\d=.dic ds
noncomputable def zjh(cl:Cf)(w:Wd)(r:Root)(own:Bool)(v:V)(d:D):Prop:=(own=false/\Shd cl w v d)\/(own=true/\zAp cl w r v d)\/(own=true/\∃d0,d=.tup [d0]/\ziF cl w r true v d0)
theorem zjh.keep(f:Fut w w')(k:∀a o,w.H a=some o->w.ow a=some r->w'.H a=some o/\w'.ow a=some r)(h:zjh cl w r b v d):zjh cl w' r b v d:=by
 rcases h with⟨e,h⟩|⟨e,a,xs,m,ds,c,i,g,l,e5,j⟩|⟨e,d0,c,h⟩
 ·exact .inl ⟨e,h.up f⟩
 ·exact .inr (.inl ⟨e,a,xs,m,ds,c,(k a _ g i).2,(k a _ g i).1,l.up f,e5.up f,j⟩)
 ·exact .inr (.inr ⟨e,d0,c,h.keep f k⟩)
structure Ob where
 cls:Str
 fs:List (Str×Bool×D)
noncomputable abbrev Sto:=List Ob
noncomputable def zds(cl:Cf)(w:Wd)(n:Nat):List (Str×V)->List (Str×Bool×D)->Prop:=Paired fun p q=>p.1=q.1/\zjh cl w (.fld n q.1) q.2.1 p.2 q.2.2
noncomputable def zu4(cl:Cf)(w:Wd)(n:Nat)(a:Addr)(ob:Ob):Prop:=w.ow a=some (.obj n)/\∃dx fs,w.H a=some (.ins (cl ob.cls) dx fs)/\zds cl w n fs ob.fs
noncomputable def ztR(n:Nat):Option Root->Prop|some (.obj m)=>m=n|some (.fld m _)=>m=n|_=>False
theorem zds.keep(f:Fut w w')(k:∀a o,w.H a=some o->ztR n (w.ow a)->w'.H a=some o/\w'.ow a=w.ow a):∀{fs:List (Str×V)}{gs:List (Str×Bool×D)},zds cl w n fs gs->zds cl w' n fs gs
 |_,_,.nil=>.nil|_,_,.cons ⟨e,h⟩ t=>.cons ⟨e,h.keep f fun a o c b=>by
   have:=k a o c (by rw[b];rfl)
   exact⟨this.1,this.2.trans b⟩⟩ (zds.keep f k t)
theorem zu4.keep(f:Fut w w')(k:∀a o,w.H a=some o->ztR n (w.ow a)->w'.H a=some o/\w'.ow a=w.ow a)(h:zu4 cl w n a ob):zu4 cl w' n a ob:=by
 obtain⟨h1,dx,fs,h2,b⟩:=h;have:=k a _ h2 (by rw[h1];rfl);exact⟨this.2.trans h1,dx,fs,this.1,b.keep f k⟩
structure Base where
 Fr:Hp
 fw:Ow
structure World'(cl:Cf)(B:Base)(w:Wd)(S:Sto):Prop where
 fr:∀a o,B.Fr a=some o->w.H a=some o/\w.ow a=B.fw a
 own:∀a r,w.ow a=some r->r=.far\/B.Fr a=none
 len:w.mu.length=S.length
 obj:∀(n:Nat) (ob:Ob),S[n]?=some ob->∃a,w.mu[n]?=some a/\zu4 cl w n a ob
noncomputable abbrev Env:=List (Option (Bool×D))
structure Rel(cl:Cf)(B:Base)(σ:St)(w:Wd)(ρ:Env)(S:Sto):Prop where
 wd:World' cl B w S
 len:σ.length=ρ.length
 slots:∀(i:Nat) (o:Bool) (d:D),ρ[i]?=some (some (o,d))->∃v,σ[i]?=some (some v)/\ziF cl w (.slot i) o v d
structure Grow(w w':Wd):Prop where
 keep:∀a o,w.H a=some o->w'.H a=some o/\w'.ow a=w.ow a
 new:∀a r,w'.ow a=some r->w.H a=none->w.ow a=some r\/r=.far
 mu:w'.mu=w.mu
def Grow.refl(w:Wd):Grow w w:=⟨fun _ _ h=>⟨h,rfl⟩,fun _ _ h _=>.inl h,rfl⟩
def Grow.fut(g:Grow w w'):Fut w w':=⟨fun a o h k=>⟨(g.keep a o h).1,(g.keep a o h).2.trans k⟩,fun n a h=>by rw[g.mu];exact h⟩
def World'.grow(W:World' cl B w S)(g:Grow w w'):World' cl B w' S where
 fr:=fun a o h=>by
  obtain⟨h1,h2⟩:=W.fr a o h;exact⟨(g.keep a o h1).1,(g.keep a o h1).2.trans h2⟩
 own:=fun a r h=>by
  cases e:w.H a with
  |none=>exact(g.new a r h e).elim (W.own a r) .inl|some o=>exact W.own a r (by rw[<-(g.keep a o e).2];exact h)
 len:=by rw[g.mu];exact W.len
 obj:=fun n ob h=>by
  obtain⟨a,e,x⟩:=W.obj n ob h;exact⟨a,by rw[g.mu];exact e,x.keep g.fut fun a o b _=>g.keep a o b⟩
theorem Rel.grow(R:Rel cl B σ w ρ S)(g:Grow w w'):Rel cl B σ w' ρ S where
 wd:=R.wd.grow g
 len:=R.len
 slots:=fun i o d h=>by
  obtain⟨v,e,x⟩:=R.slots i o d h;exact⟨v,e,x.keep g.fut fun a o b c=>⟨(g.keep a o b).1,(g.keep a o b).2.trans c⟩⟩
def Wd.add(w:Wd)(p:Addr)(o:HO):Wd:=⟨upd w.H p o,fun a=>if a=p then none else w.ow a,w.mu⟩
def zaF(h:w.H p=none)(o:HO):Grow w (w.add p o)where
 keep:=fun a u c=>by
  have n:a≠p:=zar c h;refine⟨?_,?_⟩
  ·show upd w.H p o a=_;rw[zam n];exact c
  ·show(if a=p then none else w.ow a)=_;rw[if_neg n]
 new:=fun a r h1 h2=>by
  have b:(if a=p then none else w.ow a)=some r:=h1;split at b
  ·cases b
  ·exact .inl b
 mu:=rfl
def zfD{w:Wd}:(w.add p o).ow p=none:=if_pos rfl
def ziE{w:Wd}:(w.add p o).H p=some o:=zaC
def Shd.newT(h:w.H p=none)(r:Shds cl w xs ds):Shd cl (w.add p (.tup xs)) (.ref p) (.tup ds):=.tup ziE zfD (r.up (zaF h _).fut)
def Shd.newL(h:w.H p=none)(r:Shds cl w xs ds):Shd cl (w.add p (.lst xs)) (.ref p) (.lst ds):=.lst ziE zfD (r.up (zaF h _).fut)
def Shd.newO(h:w.H p=none)(r:Top cl w o d):Shd cl (w.add p o) (.ref p) d:=by
 have g:=(zaF h o).fut
 cases r with
 |lst r=>exact .lst ziE zfD (r.up g)|dicK r=>exact .dicK ziE zfD (r.up g)|dicT r=>exact .dicT ziE zfD (r.up g)|dicN=>exact .dicN ziE zfD|dicX x=>exact .dicX ziE zfD (x.up g)
set_option genInjectivity true in
inductive Out(α:Type)where
 |ok (a:α) (S:Sto)|exc (c:Str) (S:Sto)|bad
noncomputable abbrev Fe:=Env->Sto->Out D
set_option genInjectivity true in
inductive Fo where
 |nx (ρ:Env) (S:Sto)|rt (d:D) (S:Sto)|bk (ρ:Env) (S:Sto)|ct (ρ:Env) (S:Sto)|ex (c:Str) (ρ:Env) (S:Sto)|bad
noncomputable abbrev Fs:=Env->Sto->Fo
noncomputable def tE(cl:Cf)(E:St->XK)(f:Fe):TE:=fun σ H Q=>∃B w ρ S,w.H=H/\Rel cl B σ w ρ S/\match f ρ S with
 |.ok d S'=>∀v w',Rel cl B σ w' ρ S'->Fut w w'->Shd cl w' v d->Q v w'.H|.exc c S'=>∀w',Rel cl B σ w' ρ S'->Fut w w'->E σ (.ref (cl c)) none w'.H|.bad=>False
noncomputable def tN(cl:Cf)(E:St->XK)(f:Fe):TE:=fun σ H Q=>∃B w ρ S,w.H=H/\Rel cl B σ w ρ S/\match f ρ S with
 |.ok d S'=>∀p o w',Rel cl B σ w' ρ S'->Fut w w'->w'.H p=none->Top cl w' o d->Q (.ref p) (upd w'.H p o)|.exc c S'=>∀w',Rel cl B σ w' ρ S'->Fut w w'->E σ (.ref (cl c)) none w'.H|.bad=>False
noncomputable def Hd(cl:Cf)(σ:St)(ρ:Env)(w:Wd)(v:V)(d:D):Prop:=Shd cl w v d\/∃i:Nat,ρ[i]?=some (some (true,d))/\σ[i]?=some (some v)
noncomputable def tH(cl:Cf)(E:St->XK)(f:Fe):TE:=fun σ H Q=>∃B w ρ S,w.H=H/\Rel cl B σ w ρ S/\match f ρ S with
 |.ok d S'=>∀v w',Rel cl B σ w' ρ S'->Fut w w'->Hd cl σ ρ w' v d->Q v w'.H|.exc c S'=>∀w',Rel cl B σ w' ρ S'->Fut w w'->E σ (.ref (cl c)) none w'.H|.bad=>False
inductive TopV(cl:Cf)(w:Wd):V->D->Prop
 |sh {v:V}{d:D}:Shd cl w v d->TopV cl w v d
 |ow {a:Addr}{o:HO}{d:D}:w.H a=some o->Top cl w o d->TopV cl w (.ref a) d
def Hd.top(h:Hd cl σ ρ w v d)(R:Rel cl B σ w ρ S):TopV cl w v d:=by
 rcases h with h|⟨i,h1,h2⟩
 ·exact .sh h
 ·obtain⟨c,e,a,o,rfl,_,b,t⟩:=R.slots i true d h1;rw[h2]at e;cases e;exact .ow b t
theorem Hd.up(f:Fut w w')(h:Hd cl σ ρ w v d):Hd cl σ ρ w' v d:=by
 rcases h with h|h
 ·exact .inl (h.up f)
 ·exact .inr h
def PE.imp(h:PE X e t)(i:∀σ H Q,t' σ H Q->t σ H Q):PE X e t':=fun pins s σ H Q I q=>h pins s σ H Q I (i _ _ _ q)
def zvJ(h:tE cl E f σ H Q):tN cl E f σ H Q:=by
 obtain⟨B,w,ρ,S,e,R,h⟩:=h;refine⟨B,w,ρ,S,e,R,?_⟩
 cases hf:f ρ S with
 |ok d S'=>
  rw[hf]at h;intro p o w' b g a t;exact h (.ref p) (w'.add p o) (b.grow (zaF a o)) (g.trans (zaF a o).fut) (Shd.newO a t)
 |exc c S'=>rwa[hf]at h|bad=>rwa[hf]at h
def zvI(h:tH cl E f σ H Q):tE cl E f σ H Q:=by
 obtain⟨B,w,ρ,S,e,R,h⟩:=h;refine⟨B,w,ρ,S,e,R,?_⟩
 cases hf:f ρ S with
 |ok d S'=>
  rw[hf]at h;intro v w' a b t;exact h v w' a b (.inl t)
 |exc c S'=>rwa[hf]at h|bad=>rwa[hf]at h
noncomputable def Out.bind{α β:Type}(o:Out α)(k:α->Sto->Out β):Out β:=match o with|.ok a S=>k a S|.exc c S=>.exc c S|.bad=>.bad
noncomputable def Out.of{α:Type}(o:Option α)(S:Sto):Out α:=match o with|some a=>.ok a S|none=>.bad
@[simp] def Out.bind_ok{α β:Type}(a:α)(S:Sto)(k:α->Sto->Out β):(Out.ok a S).bind k=k a S:=rfl
@[simp] def Out.bind_exc{α β:Type}(c:Str)(S:Sto)(k:α->Sto->Out β):(Out.exc c S:Out α).bind k=.exc c S:=rfl
@[simp] def Out.bind_bad{α β:Type}(k:α->Sto->Out β):(Out.bad:Out α).bind k=.bad:=rfl
@[simp] def Out.of_some{α:Type}(a:α)(S:Sto):Out.of (some a) S=.ok a S:=rfl
noncomputable def zac(i:Nat):Fe:=fun ρ S=>match ρ[i]? with|some (~~~d)=>.ok d S|_=>.bad
noncomputable def zah(i:Nat):Fe:=fun ρ S=>match ρ[i]? with|some (some (_,d))=>.ok d S|_=>.bad
noncomputable def zaf(d:D):Fe:=fun _ S=>.ok d S
def eUn(g:D->Option D)(f:Fe):Fe:=fun ρ S=>(f ρ S).bind fun a S1=>Out.of (g a) S1
def zag(g:D->D->Option D)(f h:Fe):Fe:=fun ρ S=>(f ρ S).bind fun a S1=>(h ρ S1).bind fun b S2=>Out.of (g a b) S2
noncomputable def isB:D->Option Bool|.bl b=>some b|_=>none
def eIf(c f h:Fe):Fe:=fun ρ S=>(c ρ S).bind fun d S1=>match isB d with|some true=>f ρ S1|some false=>h ρ S1|none=>.bad
def zfs(f h:Fe):Fe:=fun ρ S=>(f ρ S).bind fun d S1=>match isB d with|some true=>h ρ S1|some false=>.ok (.bl false) S1|none=>.bad
def eOr(f h:Fe):Fe:=fun ρ S=>(f ρ S).bind fun d S1=>match isB d with|some true=>.ok (.bl true) S1|some false=>h ρ S1|none=>.bad
noncomputable def zev:D->Option D|.bl b=>some (.bl (!b))|_=>none
def zao:List Fe->Env->Sto->Out (List D)
 |[],_,S=>.ok [] S|f::fs,ρ,S=>(f ρ S).bind fun d S1=>(zao fs ρ S1).bind fun ds S2=>.ok (d::ds) S2
noncomputable def small(n:Nat):Bool:=decide (n<=100000)
def zcU(fs:List Fe):Fe:=fun ρ S=>(zao fs ρ S).bind fun ds S1=>if small ds.length then .ok (.tup ds) S1 else .bad
def zez(fs:List Fe):Fe:=fun ρ S=>(zao fs ρ S).bind fun ds S1=>if small ds.length then .ok (.lst ds) S1 else .bad
def zay(g:List D->Option D)(fs:List Fe):Fe:=fun ρ S=>(zao fs ρ S).bind fun ds S1=>Out.of (g ds) S1
def zbp(h:small n=true):n<=sizeLine:=yal (yah h) (by decide)
noncomputable def zbV:Expr->Bool|.Starred _ _=>false|_=>true
def zbi(h:zbV e=true):starEach (e::es) env=(false,eval e env)::starEach es env:=by
 cases e<;>first|rfl|cases h
theorem zbU:∀{es:List Expr},es.all zbV=true->(backTo pos (starEach es env)).any (·.1)=false
 |[],_=>rfl|e::es,h=>by
  rw[ybM,yac]at h;rw[zbi h.1];show(false||(backTo pos (starEach es env)).any (·.1))=false;rw[zbU h.2];rfl
theorem zh9:∀{es:List Expr},es.all zbV=true->(backTo pos (starEach es env)).all (fun x=>!x.1)=true
 |[],_=>rfl|e::es,h=>by
  rw[ybM,yac]at h;rw[zbi h.1];show(true&&(backTo pos (starEach es env)).all (fun x=>!x.1))=true;rw[zh9 h.2];rfl
def zil(h:es.all zbV=true)(I:es.length<30):((backTo pos (starEach es env)).all (fun x=>!x.1)&&(backToKw pos (keywordEach [] env)).all (fun x=>x.1.isSome)
   && decide (es.length+([]:List Keyword).length+(if([]:List Keyword).isEmpty then 0 else 1)<30))=true:=by
 rw[zh9 h];show(true&&true&&decide (es.length+0+0<30))=true;simpa using I
noncomputable def Hds(cl:Cf)(σ:St)(ρ:Env)(w:Wd):List V->List D->Prop:=Paired (Hd cl σ ρ w)
noncomputable def znc(cl:Cf)(w:Wd):List V->List D->Prop:=Paired (TopV cl w)
theorem Hds.top(R:Rel cl B σ w ρ S):∀{vs:List V}{ds:List D},Hds cl σ ρ w vs ds->znc cl w vs ds
 |_,_,.nil=>.nil|_,_,.cons h t=>.cons (h.top R) (Hds.top R t)
noncomputable def tAs(cl:Cf)(E:St->XK)(fs:List Fe):TA:=fun σ H Q=>∃B w ρ S,w.H=H/\Rel cl B σ w ρ S/\match zao fs ρ S with
 |.ok ds S'=>∀vs w',Rel cl B σ w' ρ S'->Fut w w'->Shds cl w' vs ds->Q vs w'.H|.exc c S'=>∀w',Rel cl B σ w' ρ S'->Fut w w'->E σ (.ref (cl c)) none w'.H|.bad=>False
noncomputable def tHs(cl:Cf)(E:St->XK)(fs:List Fe):TA:=fun σ H Q=>∃B w ρ S,w.H=H/\Rel cl B σ w ρ S/\match zao fs ρ S with
 |.ok ds S'=>∀vs w',Rel cl B σ w' ρ S'->Fut w w'->Hds cl σ ρ w' vs ds->Q vs w'.H|.exc c S'=>∀w',Rel cl B σ w' ρ S'->Fut w w'->E σ (.ref (cl c)) none w'.H|.bad=>False
def PA.imp(h:PA X es t)(i:∀σ H Q,t' σ H Q->t σ H Q):PA X es t':=fun pos pins s σ H Q I q=>h pos pins s σ H Q I (i _ _ _ q)
def PT.imp(h:PT X e t)(i:∀σ H Q,t' σ H Q->t σ H Q):PT X e t':=fun pins s σ H Q I q=>h pins s σ H Q I (i _ _ _ q)
section
variable{X:Cx}{cl:Cf}{E:St->XK}{a b c e:Expr}{f h g:Fe}{pos:Pos}
def zsR(U:X.N[i]?=some x)(J:Vis X.env.scope x)(hd:(x==("__debug__":Str))=false)(I:(x==("__classdict__":Str))=false):PE X (.Name x pos) (tE cl E (zac i)):=by
 refine PE.imp (zbg U J hd I) ?_;rintro σ H Q ⟨B,w,ρ,S,rfl,R,q⟩;unfold zac at q;split at q
 ·rename_i o d S' hm;split at hm
  ·rename_i d' he;cases hm;obtain⟨v,e,r⟩:=R.slots i false d he;exact⟨v,e,q v w R (Fut.refl _) r⟩
  ·cases hm
 ·rename_i hm;split at hm<;>cases hm
 ·exact q.elim
def zs0(U:X.N[i]?=some x)(J:Vis X.env.scope x)(hd:(x==("__debug__":Str))=false)(I:(x==("__classdict__":Str))=false):PE X (.Name x pos) (tH cl E (zah i)):=by
 refine PE.imp (zbg U J hd I) ?_;rintro σ H Q ⟨B,w,ρ,S,rfl,R,q⟩;unfold zah at q;split at q
 ·rename_i o d S' hm;split at hm
  ·rename_i b d' he;cases hm;obtain⟨v,e,r⟩:=R.slots i b d he;refine⟨v,e,q v w R (Fut.refl _) ?_⟩
   cases b with
   |false=>exact .inl r|true=>exact .inr ⟨i,he,e⟩
  ·cases hm
 ·rename_i hm;split at hm<;>cases hm
 ·exact q.elim
def zlr(h:PE X e (tC v))(hd:∀w,Shd cl w v d):PE X e (tE cl E (zaf d)):=by
 refine PE.imp h ?_;rintro σ H Q ⟨B,w,ρ,S,rfl,R,q⟩;exact q v w R (Fut.refl _) (hd w)
def zqs(h:PE X e (tE cl E f)):PE X e (tH cl E f):=PE.imp h fun _ _ _=>zvI
def zfS(h:PE X e (tN cl E f)):PE X e (tE cl E f):=PE.imp h fun _ _ _=>zvJ
noncomputable def OpD(X:Cx)(cl:Cf)(op:Value->Value->Sem Value)(g:D->D->Option D):Prop:=OpR X op fun x y H Q=>∃w d e r,w.H=H/\TopV cl w x d/\TopV cl w y e/\g d e=some r/\∀v w',Grow w w'->Shd cl w' v r->Q v w'.H
noncomputable def UnD(X:Cx)(cl:Cf)(op:Value->Sem Value)(g:D->Option D):Prop:=UnR X op fun x H Q=>∃w d r,w.H=H/\TopV cl w x d/\g d=some r/\∀v w',Grow w w'->Shd cl w' v r->Q v w'.H
noncomputable def zkX(X:Cx)(cl:Cf)(I:Value)(g:List D->Option D):Prop:=zfi X I fun xs H Q=>∃w ds r,w.H=H/\znc cl w xs ds/\g ds=some r/\∀v w',Grow w w'->Shd cl w' v r->Q v w'.H
noncomputable def zrS(X:Cx)(cl:Cf)(I:Value)(g:List D->Option D):Prop:=zfi X I fun xs H Q=>∃w ds r,w.H=H/\znc cl w xs ds/\g ds=some r/\∀p o w',Grow w w'->w'.H p=none->Top cl w' o r->Q (.ref p) (upd w'.H p o)
noncomputable def IxD(X:Cx)(cl:Cf)(g:D->D->Option D):Prop:=IxR X fun x y H Q=>∃w d e r,w.H=H/\TopV cl w x d/\TopV cl w y e/\g d e=some r/\∀v w',Grow w w'->Shd cl w' v r->Q v w'.H
def two(U:∀x y H Q,(∃w d e r,w.H=H/\TopV cl w x d/\TopV cl w y e/\I d e=some r/\∀v w',Grow w w'->Shd cl w' v r->Q v w'.H)->J x y H Q)(σ:St)(H:Hp)(Q:VK)(q:tE cl E (zag I f h) σ H Q):tOp J (tH cl E f) (tH cl E h) σ H Q:=by
 obtain⟨B,w,ρ,S,rfl,R,q⟩:=q;refine⟨B,w,ρ,S,rfl,R,?_⟩;unfold zag at q
 cases hf:f ρ S with
 |bad=>rwa[hf]at q|exc c S1=>rwa[hf]at q|ok d S1=>
  rw[hf]at q;intro v i k F1 h1;refine⟨B,i,ρ,S1,rfl,k,?_⟩;dsimp only[Out.bind]at q
  cases b:h ρ S1 with
  |bad=>rwa[b]at q|exc c S2=>rw[b]at q;exact fun a R2 F2=>q a R2 (F1.trans F2)|ok e S2=>
   rw[b]at q;intro y a R2 F2 h2;dsimp only at q
   cases g:I d e with
   |none=>rw[g]at q;exact q.elim|some r=>
    rw[g]at q;exact U _ _ _ _ ⟨a,d,e,r,rfl,(h1.up F2).top R2,h2.top R2,g,fun j w' gr sh=>q j w' (R2.grow gr) (F1.trans (F2.trans gr.fut)) sh⟩
def zs1(ho:OpD X cl (binaryOp op) U)(J:PE X a (tH cl E f))(I:PE X b (tH cl E h)):PE X (.BinOp a op b pos) (tE cl E (zag U f h)):=
 PE.imp (zv5 ho J I) (two fun _ _ _ _ z=>z)
def zvU(ho:IxD X cl U)(J:PE X a (tH cl E f))(I:PE X b (tH cl E h))(hs:zhF b):PE X (.Subscript a b pos) (tE cl E (zag U f h)):=
 PE.imp (ztB ho J I hs) (two fun _ _ _ _ z=>z)
def zsZ(ho:OpD X cl (compareOp op) U)(J:PE X a (tH cl E f))(I:PE X b (tH cl E h))(hm:behindInMarks op b=false):PE X (.Compare a [op] [b] pos) (tE cl E (zag U f h)):=
 PE.imp (ziU ho J I hm) (two fun _ _ _ _ z=>z)
def zvR(ho:UnD X cl (unaryOp op) I)(J:PE X a (tH cl E f)):PE X (.UnaryOp op a pos) (tE cl E (eUn I f)):=by
 refine PE.imp (zv3 ho J) ?_;rintro σ H Q ⟨B,w,ρ,S,rfl,R,q⟩;refine⟨B,w,ρ,S,rfl,R,?_⟩;unfold eUn at q
 cases hf:f ρ S with
 |bad=>rwa[hf]at q|exc c S1=>rwa[hf]at q|ok d S1=>
  rw[hf]at q;intro v g e F1 h1;dsimp only[Out.bind]at q
  cases b:I d with
  |none=>rw[b]at q;exact q.elim|some r=>
   rw[b]at q;exact⟨g,d,r,rfl,h1.top e,b,fun h w' gr sh=>q h w' (e.grow gr) (F1.trans gr.fut) sh⟩
noncomputable def tTr(cl:Cf)(E:St->XK)(f:Fe):TT:=fun σ H Q=>∃B w ρ S,w.H=H/\Rel cl B σ w ρ S/\match f ρ S with
 |.ok d S'=>match isB d with
  |some b=>∀w',Rel cl B σ w' ρ S'->Fut w w'->Q b w'.H|none=>False
 |.exc c S'=>∀w',Rel cl B σ w' ρ S'->Fut w w'->E σ (.ref (cl c)) none w'.H|.bad=>False
def zeg{d:D}{b:Bool}(h:isB d=some b):d=.bl b:=by
 cases d<;>simp[isB]at h
 subst h;rfl
def zhV{w:Wd}{v:V}{b:Bool}(h:Shd cl w v (.bl b)):v=.bl b:=by cases h;rfl
def zhQ(q:tTr cl E f σ H Q):tB (tE cl E f) σ H Q:=by
 obtain⟨B,w,ρ,S,rfl,R,q⟩:=q;refine⟨B,w,ρ,S,rfl,R,?_⟩
 cases hf:f ρ S with
 |bad=>rwa[hf]at q|exc c S1=>rwa[hf]at q|ok d S1=>
  rw[hf]at q;intro v e g F1 h1;dsimp only at q
  cases a:isB d with
  |none=>rw[a]at q;exact q.elim|some b=>
   rw[a]at q;rw[zeg a]at h1;exact⟨b,zhV h1,q e g F1⟩
def zjp(h:PE X e (tE cl E f))(he:∀whole,isTrue e X.env whole=(do let v ← whole;standAt e.pos;holding [v] (truthy v))):PT X e (tTr cl E f):=
 PT.imp (ztf h he) fun _ _ _ q=>zhQ q
def zlg(J:∀x y H Q,(∃w d e r,w.H=H/\TopV cl w x d/\TopV cl w y e/\U d e=some r/\∀v w',Grow w w'->Shd cl w' v r->Q v w'.H)->I x y H Q)(q:tTr cl E (zag U f h) σ H Q):zp1 (tOp I (tH cl E f) (tH cl E h)) σ H Q:=
 two J σ H _ (zhQ q)
def zsy(ho:OpD X cl (compareOp op) U)(J:PE X a (tH cl E f))(I:PE X b (tH cl E h))(hm:behindInMarks op b=false):PT X (.Compare a [op] [b] pos) (tTr cl E (zag U f h)):=
 PT.imp (ziT ho J I hm) fun _ _ _ q=>zlg (fun _ _ _ _ z=>z) q
def PW.imp(h:PW X e t)(i:∀σ H Q,t' σ H Q->t σ H Q):PW X e t':=fun whole pins s σ H Q I q=>h whole pins s σ H Q I (i _ _ _ q)
def zp0(q:tTr cl E (zfs f h) σ H Q):zxy (tTr cl E f) (tTr cl E h) σ H Q:=by
 obtain⟨B,w,ρ,S,rfl,R,q⟩:=q;refine⟨B,w,ρ,S,rfl,R,?_⟩;unfold zfs at q
 cases hf:f ρ S with
 |bad=>rwa[hf]at q|exc c S1=>rwa[hf]at q|ok d S1=>
  rw[hf]at q;dsimp only[Out.bind]at q ⊢
  cases k:isB d with
  |none=>rw[k]at q;exact q.elim|some b=>
   rw[k]at q;intro j l F1
   cases b with
   |false=>exact zoE (q j l F1)|true=>
    refine zoD ⟨B,j,ρ,S1,rfl,l,?_⟩;dsimp only at q
    cases i:h ρ S1 with
    |bad=>rwa[i]at q|exc c S2=>rw[i]at q;exact fun g R2 F2=>q g R2 (F1.trans F2)|ok e S2=>
     rw[i]at q;dsimp only at q ⊢
     cases a:isB e with
     |none=>rw[a]at q;exact q.elim|some m=>rw[a]at q;exact fun g R2 F2=>q g R2 (F1.trans F2)
def zsi(q:tTr cl E (eOr f h) σ H Q):tOr (tTr cl E f) (tTr cl E h) σ H Q:=by
 obtain⟨B,w,ρ,S,rfl,R,q⟩:=q;refine⟨B,w,ρ,S,rfl,R,?_⟩;unfold eOr at q
 cases hf:f ρ S with
 |bad=>rwa[hf]at q|exc c S1=>rwa[hf]at q|ok d S1=>
  rw[hf]at q;dsimp only[Out.bind]at q ⊢
  cases k:isB d with
  |none=>rw[k]at q;exact q.elim|some b=>
   rw[k]at q;intro j l F1
   cases b with
   |true=>exact zoD (q j l F1)|false=>
    refine zoE ⟨B,j,ρ,S1,rfl,l,?_⟩;dsimp only at q
    cases i:h ρ S1 with
    |bad=>rwa[i]at q|exc c S2=>rw[i]at q;exact fun g R2 F2=>q g R2 (F1.trans F2)|ok e S2=>
     rw[i]at q;dsimp only at q ⊢
     cases a:isB e with
     |none=>rw[a]at q;exact q.elim|some m=>rw[a]at q;exact fun g R2 F2=>q g R2 (F1.trans F2)
def zpZ(q:tTr cl E (eUn zev f) σ H Q):zxw (tTr cl E f) σ H Q:=by
 obtain⟨B,w,ρ,S,rfl,R,q⟩:=q;refine⟨B,w,ρ,S,rfl,R,?_⟩;unfold eUn at q
 cases hf:f ρ S with
 |bad=>rwa[hf]at q|exc c S1=>rwa[hf]at q|ok d S1=>
  rw[hf]at q;dsimp only[Out.bind]at q ⊢
  cases a:isB d with
  |none=>
   have:zev d=none:=by cases d<;>simp[isB]at a<;>rfl
   rw[this]at q;exact q.elim
  |some b=>
   rwa[zeg a]at q
def zsw(I:PT X a (tTr cl E f)):PT X (.UnaryOp .Not a pos) (tTr cl E (eUn zev f)):=PT.imp (ztg I) fun _ _ _ q=>zpZ q
def zsr{zcV:List Expr}(J:PT X a (tTr cl E f))(I:PW X (.BoolOp .And (b::zcV) pos) (tTr cl E h)):PW X (.BoolOp .And (a::b::zcV) pos) (tTr cl E (zfs f h)):=PW.imp (ztd J I) fun _ _ _ q=>zp0 q
def zvO{zcV:List Expr}(J:PT X a (tTr cl E f))(I:PW X (.BoolOp .Or (b::zcV) pos) (tTr cl E h)):PW X (.BoolOp .Or (a::b::zcV) pos) (tTr cl E (eOr f h)):=PW.imp (zvZ J I) fun _ _ _ q=>zsi q
def zs2{zcV:List Expr}(J:PE X a (tE cl E f))(I:PE X (.BoolOp .And (b::zcV) pos) (tE cl E h)):PE X (.BoolOp .And (a::b::zcV) pos) (tE cl E (zfs f h)):=by
 refine PE.imp (ztD J I) ?_;rintro σ H Q ⟨B,w,ρ,S,rfl,R,q⟩;refine⟨B,w,ρ,S,rfl,R,?_⟩;unfold zfs at q
 cases hf:f ρ S with
 |bad=>rwa[hf]at q|exc c S1=>rwa[hf]at q|ok d S1=>
  rw[hf]at q;intro v j k F1 h1;dsimp only[Out.bind]at q
  cases I:isB d with
  |none=>rw[I]at q;exact q.elim|some b=>
   rw[I]at q;rw[zeg I]at h1;refine⟨b,zhV h1,?_⟩
   cases b with
   |false=>exact zoE (q _ j k F1 (.bl false))|true=>
    refine zoD ⟨B,j,ρ,S1,rfl,k,?_⟩;dsimp only at q
    cases i:h ρ S1 with
    |bad=>rwa[i]at q|exc c S2=>rw[i]at q;exact fun g R2 F2=>q g R2 (F1.trans F2)|ok e S2=>rw[i]at q;exact fun v g R2 F2=>q v g R2 (F1.trans F2)
def zvT{zcV:List Expr}(J:PE X a (tE cl E f))(I:PE X (.BoolOp .Or (b::zcV) pos) (tE cl E h)):PE X (.BoolOp .Or (a::b::zcV) pos) (tE cl E (eOr f h)):=by
 refine PE.imp (zv4 J I) ?_;rintro σ H Q ⟨B,w,ρ,S,rfl,R,q⟩;refine⟨B,w,ρ,S,rfl,R,?_⟩;unfold eOr at q
 cases hf:f ρ S with
 |bad=>rwa[hf]at q|exc c S1=>rwa[hf]at q|ok d S1=>
  rw[hf]at q;intro v j k F1 h1;dsimp only[Out.bind]at q
  cases I:isB d with
  |none=>rw[I]at q;exact q.elim|some b=>
   rw[I]at q;rw[zeg I]at h1;refine⟨b,zhV h1,?_⟩
   cases b with
   |true=>exact zoD (q _ j k F1 (.bl true))|false=>
    refine zoE ⟨B,j,ρ,S1,rfl,k,?_⟩;dsimp only at q
    cases i:h ρ S1 with
    |bad=>rwa[i]at q|exc c S2=>rw[i]at q;exact fun g R2 F2=>q g R2 (F1.trans F2)|ok e S2=>rw[i]at q;exact fun v g R2 F2=>q v g R2 (F1.trans F2)
def zsT(I:PE X a (tE cl E f)):PE X (.UnaryOp .Not a pos) (tE cl E (eUn zev f)):=by
 refine PE.imp (ztz I) ?_;rintro σ H Q ⟨B,w,ρ,S,rfl,R,q⟩;refine⟨B,w,ρ,S,rfl,R,?_⟩;unfold eUn at q
 cases hf:f ρ S with
 |bad=>rwa[hf]at q|exc c S1=>rwa[hf]at q|ok d S1=>
  rw[hf]at q;intro v g h F1 h1;dsimp only[Out.bind]at q
  cases e:isB d with
  |none=>
   have:zev d=none:=by cases d<;>simp[isB]at e<;>rfl
   rw[this]at q;exact q.elim
  |some b=>
   rw[zeg e]at q h1;exact⟨b,zhV h1,q _ g h F1 (.bl _)⟩
def zvK(q:tE cl E (eIf g f h) σ H Q):tIf (tTr cl E g) (tE cl E f) (tE cl E h) σ H Q:=by
 obtain⟨B,w,ρ,S,rfl,R,q⟩:=q;refine⟨B,w,ρ,S,rfl,R,?_⟩;unfold eIf at q
 cases j:g ρ S with
 |bad=>rwa[j]at q|exc c S1=>rwa[j]at q|ok d S1=>
  rw[j]at q;dsimp only[Out.bind]at q ⊢
  cases l:isB d with
  |none=>rw[l]at q;exact q.elim|some b=>
   rw[l]at q;intro k m F1
   cases b with
   |true=>
    refine zoD ⟨B,k,ρ,S1,rfl,m,?_⟩;dsimp only at q
    cases i:f ρ S1 with
    |bad=>rwa[i]at q|exc c S2=>rw[i]at q;exact fun a R2 F2=>q a R2 (F1.trans F2)|ok e S2=>rw[i]at q;exact fun v a R2 F2=>q v a R2 (F1.trans F2)
   |false=>
    refine zoE ⟨B,k,ρ,S1,rfl,m,?_⟩;dsimp only at q
    cases i:h ρ S1 with
    |bad=>rwa[i]at q|exc c S2=>rw[i]at q;exact fun a R2 F2=>q a R2 (F1.trans F2)|ok e S2=>rw[i]at q;exact fun v a R2 F2=>q v a R2 (F1.trans F2)
def zvV(I:PT X c (tTr cl E g))(U:PE X a (tE cl E f))(J:PE X b (tE cl E h)):PE X (.IfExp c a b pos) (tE cl E (eIf g f h)):=PE.imp (zoa I U J) fun _ _ _ q=>zvK q
def zgJ:PA X [] (tAs cl E []):=by
 refine PA.imp zdp ?_;rintro σ H Q ⟨B,w,ρ,S,rfl,R,q⟩;exact q [] w R (Fut.refl _) .nil
def zdu(J:PE X e (tE cl E f))(I:PA X es (tAs cl E fs))(hs:starEach (e::es) X.env=(false,eval e X.env)::starEach es X.env):PA X (e::es) (tAs cl E (f::fs)):=by
 refine PA.imp (zbH J I hs) ?_;rintro σ H Q ⟨B,w,ρ,S,rfl,R,q⟩;refine⟨B,w,ρ,S,rfl,R,?_⟩;unfold zao at q
 cases hf:f ρ S with
 |bad=>rwa[hf]at q|exc c S1=>rwa[hf]at q|ok d S1=>
  rw[hf]at q;intro v g h F1 h1;refine⟨B,g,ρ,S1,rfl,h,?_⟩;dsimp only[Out.bind]at q
  cases b:zao fs ρ S1 with
  |bad=>rwa[b]at q|exc c S2=>rw[b]at q;exact fun a R2 F2=>q a R2 (F1.trans F2)|ok ds S2=>
   rw[b]at q;exact fun vs a R2 F2 h2=>q _ a R2 (F1.trans F2) (.cons (h1.up F2) h2)
def zpk:PA X [] (tHs cl E []):=by
 refine PA.imp zdp ?_;rintro σ H Q ⟨B,w,ρ,S,rfl,R,q⟩;exact q [] w R (Fut.refl _) .nil
def zlp(J:PE X e (tH cl E f))(I:PA X es (tHs cl E fs))(hs:starEach (e::es) X.env=(false,eval e X.env)::starEach es X.env):PA X (e::es) (tHs cl E (f::fs)):=by
 refine PA.imp (zbH J I hs) ?_;rintro σ H Q ⟨B,w,ρ,S,rfl,R,q⟩;refine⟨B,w,ρ,S,rfl,R,?_⟩;unfold zao at q
 cases hf:f ρ S with
 |bad=>rwa[hf]at q|exc c S1=>rwa[hf]at q|ok d S1=>
  rw[hf]at q;intro v g h F1 h1;refine⟨B,g,ρ,S1,rfl,h,?_⟩;dsimp only[Out.bind]at q
  cases b:zao fs ρ S1 with
  |bad=>rwa[b]at q|exc c S2=>rw[b]at q;exact fun a R2 F2=>q a R2 (F1.trans F2)|ok ds S2=>
   rw[b]at q;exact fun vs a R2 F2 h2=>q _ a R2 (F1.trans F2) (.cons (h1.up F2) h2)
def zsS(h:PA X es (tAs cl E fs)):PE X (.Tuple es k pos) (tE cl E (zcU fs)):=by
 refine PE.imp (ztv h) ?_;rintro σ H Q ⟨B,w,ρ,S,rfl,R,q⟩;refine⟨B,w,ρ,S,rfl,R,?_⟩;unfold zcU at q
 cases hf:zao fs ρ S with
 |bad=>rwa[hf]at q|exc c S1=>rwa[hf]at q|ok ds S1=>
  rw[hf]at q;intro vs d e F1 h1;dsimp only[Out.bind]at q
  cases a:small ds.length with
  |false=>rw[a,if_neg (by decide)]at q;exact q.elim
  |true=>
   rw[a,if_pos rfl]at q;refine⟨by rw[h1.length];exact zbp a,fun p b=>?_⟩;exact q _ (d.add p (.tup vs)) (e.grow (zaF b _)) (F1.trans (zaF b _).fut) (Shd.newT b h1)
def zsW(h:PA X es (tAs cl E fs)):PE X (.List es pos) (tN cl E (zez fs)):=by
 refine PE.imp (zpp h) ?_;rintro σ H Q ⟨B,w,ρ,S,rfl,R,q⟩;refine⟨B,w,ρ,S,rfl,R,?_⟩;unfold zez at q
 cases hf:zao fs ρ S with
 |bad=>rwa[hf]at q|exc c S1=>rwa[hf]at q|ok ds S1=>
  rw[hf]at q;intro vs b e F1 h1;dsimp only[Out.bind]at q
  cases a:small ds.length with
  |false=>rw[a,if_neg (by decide)]at q;exact q.elim
  |true=>
   rw[a,if_pos rfl]at q;refine⟨by rw[h1.length];exact zbp a,fun p d=>?_⟩;exact q _ (.lst vs) b e F1 d (.lst h1)
def zsn(J:∀xs H Q,(∃w ds r,w.H=H/\znc cl w xs ds/\I ds=some r/\∀v w',Grow w w'->Shd cl w' v r->Q v w'.H)->r xs H Q)(q:tE cl E (zay I fs) σ H Q):tCB r (tHs cl E fs) σ H Q:=by
 obtain⟨B,w,ρ,S,rfl,R,q⟩:=q;refine⟨B,w,ρ,S,rfl,R,?_⟩;unfold zay at q
 cases hf:zao fs ρ S with
 |bad=>rwa[hf]at q|exc c S1=>rwa[hf]at q|ok ds S1=>
  rw[hf]at q;intro vs e b F1 h1;dsimp only[Out.bind]at q
  cases a:I ds with
  |none=>rw[a]at q;exact q.elim|some d=>
   rw[a]at q;exact J _ _ _ ⟨e,ds,d,rfl,h1.top b,a,fun v w' gr sh=>q v w' (b.grow gr) (F1.trans gr.fut) sh⟩
def zsm(J:∀xs H Q,(∃w ds r,w.H=H/\znc cl w xs ds/\I ds=some r/\∀p o w',Grow w w'->w'.H p=none->Top cl w' o r->Q (.ref p) (upd w'.H p o))->r xs H Q)(q:tN cl E (zay I fs) σ H Q):tCB r (tHs cl E fs) σ H Q:=by
 obtain⟨B,w,ρ,S,rfl,R,q⟩:=q;refine⟨B,w,ρ,S,rfl,R,?_⟩;unfold zay at q
 cases hf:zao fs ρ S with
 |bad=>rwa[hf]at q|exc c S1=>rwa[hf]at q|ok ds S1=>
  rw[hf]at q;intro vs e b F1 h1;dsimp only[Out.bind]at q
  cases a:I ds with
  |none=>rw[a]at q;exact q.elim|some d=>
   rw[a]at q;exact J _ _ _ ⟨e,ds,d,rfl,h1.top b,a,fun p o w' gr f t=>q p o w' (b.grow gr) (F1.trans gr.fut) f t⟩
end
noncomputable def Root.out:Option Root->Option Root|some (.slot _)=>some .far|o=>o
def Root.out_none:Root.out o=none↔o=none:=by
 cases o with
 |none=>exact⟨fun h=>h,fun h=>h⟩|some r=>cases r<;>simp[Root.out]
noncomputable def zgh:Option Root->Bool|some (.fld _ _)=>true|some (.obj _)=>true|_=>false
def Wd.inn(w:Wd):Wd:=⟨w.H,fun a=>Root.out (w.ow a),w.mu⟩
def Wd.base(w:Wd):Base:=⟨fun a=>if zgh (w.ow a)=true then none else w.H a,fun a=>Root.out (w.ow a)⟩
def Wd.back(w w':Wd):Wd:=⟨w'.H,fun a=>if(w.base.Fr a).isSome=true then w.ow a else Root.out (w'.ow a),w'.mu⟩
def zda(w:Wd):Fut w w.inn:=⟨fun a o h k=>⟨h,by show Root.out (w.ow a)=none;rw[k];rfl⟩,fun _ _ h=>h⟩
def ziD{w:Wd}(h:w.H a=some o)(k:zgh (w.ow a)=false):w.base.Fr a=some o:=by
 show(if zgh (w.ow a)=true then none else w.H a)=_;rw[k,if_neg (by decide)];exact h
def zqZ{w:Wd}(h:w.base.Fr a=some o):w.H a=some o/\zgh (w.ow a)=false:=by
 have h':(if zgh (w.ow a)=true then none else w.H a)=some o:=h;split at h'
 ·cases h'
 ·rename_i z;exact⟨h',by simpa using z⟩
section
variable{cl:Cf}{B:Base}{σ:St}{w w':Wd}{ρ:Env}{S S':Sto}
def World'.enter(W:World' cl B w S):World' cl w.base w.inn S where
 fr:=fun a o h=>⟨(zqZ h).1,rfl⟩
 own:=fun a r h=>by
  have h':Root.out (w.ow a)=some r:=h
  cases e:w.ow a with
  |none=>rw[e]at h';cases h'|some q=>
   cases q with
   |slot i=>rw[e]at h';cases h';exact .inl rfl|far=>rw[e]at h';cases h';exact .inl rfl|fld n f=>exact .inr (by show(if zgh (w.ow a)=true then none else w.H a)=none;rw[e];rfl)
   |obj n=>exact .inr (by show(if zgh (w.ow a)=true then none else w.H a)=none;rw[e];rfl)
 len:=W.len
 obj:=fun n ob h=>by
  obtain⟨a,e,x⟩:=W.obj n ob h;refine⟨a,e,x.keep (zda w) fun a o c b=>⟨c,?_⟩⟩;show Root.out (w.ow a)=w.ow a
  cases e:w.ow a with
  |none=>rfl|some q=>cases q with
   |slot i=>rw[e]at b;exact b.elim|_=>rfl
def zeM(W:World' cl B w S)(h:B.Fr a=some o):w.base.Fr a=some o:=by
 refine ziD (W.fr a o h).1 ?_
 cases e:w.ow a with
 |none=>rfl|some q=>
  rcases W.own a q e with rfl|z
  ·rfl
  ·rw[h]at z;cases z
def zei(I:World' cl w.base w' S'):Fut w' (w.back w')where
 keep:=fun a o h k=>by
  refine⟨h,?_⟩;show(if(w.base.Fr a).isSome=true then w.ow a else Root.out (w'.ow a))=none;split
  ·rename_i z;obtain⟨u,b⟩:=Option.isSome_iff_exists.mp z;have:=(I.fr a u b).2;rw[k]at this;exact Root.out_none.mp this.symm
  ·rw[k];rfl
 mu:=fun _ _ h=>h
def Rel.leave(R:Rel cl B σ w ρ S)(I:World' cl w.base w' S')(F:Fut w.inn w'):Rel cl B σ (w.back w') ρ S'/\Fut w (w.back w'):=by
 have fb:=zei I;have j:Fut w (w.back w'):=(zda w).trans (F.trans fb)
 have in_:∀a o,w.base.Fr a=some o->(w.back w').H a=some o/\(w.back w').ow a=w.ow a:=fun a o h=>by
  refine⟨(I.fr a o h).1,?_⟩;show(if(w.base.Fr a).isSome=true then w.ow a else _)=_;rw[h];rfl
 refine⟨⟨⟨fun a o h=>?_,fun a r h=>?_,I.len,fun n ob h=>?_⟩,R.len,fun i o d h=>?_⟩,j⟩
 ·have:=in_ a o (zeM R.wd h);exact⟨this.1,this.2.trans (R.wd.fr a o h).2⟩
 ·cases g:B.Fr a with
  |none=>exact .inr rfl|some o=>
   have:=(in_ a o (zeM R.wd g)).2;rw[h]at this
   rcases R.wd.own a r this.symm with z|z
   ·exact .inl z
   ·rw[g]at z;cases z
 ·obtain⟨a,e,x⟩:=I.obj n ob h;refine⟨a,e,x.keep fb fun a o c b=>⟨c,?_⟩⟩;show(if(w.base.Fr a).isSome=true then w.ow a else Root.out (w'.ow a))=_
  cases e:w'.ow a with
  |none=>rw[e]at b;exact b.elim|some q=>
   rcases I.own a q e with rfl|z
   ·rw[e]at b;exact b.elim
   ·rw[z]
    cases q with
    |slot i=>rw[e]at b;exact b.elim|_=>rfl
 ·obtain⟨v,e,x⟩:=R.slots i o d h;refine⟨v,e,x.keep j fun a u c f=>?_⟩;have:=in_ a u (ziD c (by rw[f];rfl));exact⟨this.1,this.2.trans f⟩
noncomputable def Wd.del(w:Wd)(a:Addr):Wd:=⟨fun b=>if b=a then none else w.H b,w.ow,w.mu⟩
def zi1(k:w.ow a≠none):Fut w (w.del a)where
 keep:=fun b o h e=>⟨by
  show(if b=a then none else w.H b)=_
  rw[if_neg (fun z=>k (by rw[<-z];exact e))];exact h,e⟩
 mu:=fun _ _ h=>h
def zk4(h:w.H a=some o):upd (w.del a).H a o=w.H:=by
 funext b
 by_cases e:b=a
 ·rw[e,zaC,h]
 ·rw[zam e];show(if b=a then none else w.H b)=_;rw[if_neg e]
theorem Rel.del(R:Rel cl B σ w ρ S)(k:w.ow a=some .far)(I:B.Fr a=none):Rel cl B σ (w.del a) ρ S:=by
 have fd:Fut w (w.del a):=zi1 (by rw[k];exact yaC _)
 have kp:∀b o,w.H b=some o->b≠a->(w.del a).H b=some o:=fun b o h n=>by
  show(if b=a then none else w.H b)=_;rw[if_neg n];exact h
 refine⟨⟨fun b o h=>⟨kp b o (R.wd.fr b o h).1 (fun z=>by rw[z,I]at h;cases h),(R.wd.fr b o h).2⟩,R.wd.own,R.wd.len,fun n ob h=>?_⟩,R.len,fun i o d h=>?_⟩
 ·obtain⟨c,e,x⟩:=R.wd.obj n ob h;exact⟨c,e,x.keep fd fun b o f j=>⟨kp b o f (fun z=>by rw[z,k]at j;exact j.elim),rfl⟩⟩
 ·obtain⟨v,e,x⟩:=R.slots i o d h;exact⟨v,e,x.keep fd fun b o f g=>⟨kp b o f (fun z=>by rw[z,k]at g;cases g),g⟩⟩
end
noncomputable def zyu(cl:Cf)(w:Wd):Bool->V->D->Prop
 |false,v,d=>Shd cl w v d|true,v,d=>∃a o i,v=.ref a/\w.ow a=some (.slot i)/\w.H a=some o/\Top cl w o d
noncomputable def zhI(cl:Cf)(n:Nat)(own:Bool)(G:List D->Sto->Out D):Sp:=fun vs H Q E=>vs.length=n/\∃B w ds S,w.H=H/\World' cl B w S/\Shds cl w vs ds/\match G ds S with
 |.ok d S'=>∀v w',World' cl B w' S'->Fut w w'->zyu cl w' own v d->Q v w'.H|.exc c S'=>∀w',World' cl B w' S'->Fut w w'->E (.ref (cl c)) none w'.H|.bad=>False
noncomputable def zeb(CX:CXT)(X:Cx)(E:St->XK):Prop:=∀(pins:Z3) (σ:St) (H:Hp) (s:Shared) (e:Value) (s':Shared),Inv X pins σ H s->CX X.stack H s (E σ) e s'->X.xe e s'
noncomputable def zhS(sp:Sp)(dvs:List V)(E:St->XK)(t:TA):TE:=fun σ H Q=>t σ H fun vs H1=>sp (vs++dvs) H1 Q (E σ)
section
variable{X:Cx}{CX:CXT}{k:Nat}{f C:Addr}{fd:FuncData}{ps:List Str}{sp:Sp}{dvs:List V}{ds:List Value}{E:St->XK}{x m:Str}{p pos apos:Pos}{e o:Expr}{es:List Expr}{ta:TE}{t:TA}
def zhe(F:FnOk X.prog X.w X.K X.mg X.base CX k f fd ps sp)(U:Room k X.A)(hb:zcW X.K fd ps ds)(hd:Vals dvs ds)(J:zeb CX X E)
  (I:Inv X pins σ H s) (r:Vals vs us) (h:sp (vs++dvs) H Q (E σ)):wpAny (model X.prog X.w) X.A (call (.ref f) us) (EP X pins σ Q) X.xe s:=by
 have b:Vals (vs++dvs) (us++ds):=r.append hd
 have c:(us++ds).length=ps.length:=by rw[<-b.length];exact F.len _ _ _ _ h
 refine wpAny_call (ydh (F.run X.A X.stack s H ⟨us,[]⟩ (us++ds) (vs++dvs) Q (E σ) U I.env0 (hb s us I.kIn c) b h) fun r s' a=>?_)
 cases r with
 |error e=>exact J pins σ H s e s' I a|ok fl=>
  cases fl with
  |ret u=>exact I.after a|next=>exact False.elim a|brk=>exact False.elim a|cont=>exact False.elim a
def zoe(F:FnOk X.prog X.w X.K X.mg X.base CX k f fd ps sp)(hr:Room k X.A)(hg:Gl X x)(hm:X.mg x=some (.ref f))(hk:PySem.W.keepIn X.K (.ref f)=true)(hb:zcW X.K fd ps ds)(hd:Vals dvs ds)(U:zeb CX X E)
  (ha:PA X (e::es) t) (J:(x==("__debug__":Str))=false) (he:starEach (e::es) X.env=(false,eval e X.env)::starEach es X.env) (ae:(backTo pos (starEach es X.env)).any (·.1)=false):
  PE X (.Call (.Name x p) (e::es) [] pos) (zhS sp dvs E t):=by
 intro pins s σ H Q I h;refine yb5 (zfm I hg hm ?_ J);refine ydk (h₀:=X.base) I.ok.mod.kin hk (thn (ha pos pins s σ H _ I h) fun us s1 ⟨vs,H1,a,r,q⟩=>⟨a.kIn,?_⟩) he ae;exact zhe F hr hb hd U a r q
def zl2(F:FnOk X.prog X.w X.K X.mg X.base CX k f fd ps sp)(hr:Room k X.A)(hg:Gl X x)(hm:X.mg x=some (.ref f))(hk:PySem.W.keepIn X.K (.ref f)=true)(hb:zcW X.K fd ps ds)(hd:Vals dvs ds)(U:zeb CX X E)
  (J:(x==("__debug__":Str))=false):PE X (.Call (.Name x p) [] [] pos) (zhS sp dvs E zvc):=by
 intro pins s σ H Q I h;refine yb5 (zfm I hg hm ?_ J);exact PySem.W.callWith_K0 I.kIn hk (zhe (us:=[]) F hr hb hd U I .nil h)
end
def eFn(G:List D->Sto->Out D)(fs:List Fe):Fe:=fun ρ S=>(zao fs ρ S).bind fun ds S1=>G ds S1
section
variable{cl:Cf}{E:St->XK}{fs:List Fe}{G:List D->Sto->Out D}{σ:St}{H:Hp}{Q:VK}{n:Nat}
def zuU(q:tE cl E (eFn G fs) σ H Q)(I:fs.length=n):zhS (zhI cl n false G) [] E (tAs cl E fs) σ H Q:=by
 obtain⟨B,w,ρ,S,rfl,R,q⟩:=q;refine⟨B,w,ρ,S,rfl,R,?_⟩;unfold eFn at q
 cases hf:zao fs ρ S with
 |bad=>rwa[hf]at q|exc c S1=>rwa[hf]at q|ok ds S1=>
  rw[hf]at q;intro vs a j F1 h1;dsimp only[Out.bind]at q
  have m:∀(fs:List Fe) (S S1:Sto) (ds:List D),zao fs ρ S=.ok ds S1->ds.length=fs.length:=by
   intro fs
   induction fs with
   |nil=>intro S S1 ds h;cases h;rfl|cons f fs l=>
    intro S S1 ds h;unfold zao at h
    cases h1:f ρ S with
    |bad=>rw[h1]at h;cases h|exc c S2=>rw[h1]at h;cases h|ok d S2=>
     rw[h1]at h;dsimp only[Out.bind]at h
     cases h2:zao fs ρ S2 with
     |bad=>rw[h2]at h;cases h|exc c o=>rw[h2]at h;cases h|ok es o=>rw[h2]at h;cases h;rw[yan,yan,l S2 _ es h2]
  refine⟨by rw[yaS,h1.length,m fs S S1 ds hf];exact I,a.base,a.inn,ds,S1,rfl,j.wd.enter,by rw[yaS];exact h1.up (zda a),?_⟩
  cases g:G ds S1 with
  |bad=>rwa[g]at q|exc c S2=>
   rw[g]at q;intro e b F2;obtain⟨i,F3⟩:=j.leave b F2;exact q (a.back e) i (F1.trans F3)
  |ok d S2=>
   rw[g]at q;intro v e b F2 k;obtain⟨i,F3⟩:=j.leave b F2;exact q v (a.back e) i (F1.trans F3) (Shd.up (zei b) k)
def zuT(q:tN cl E (eFn G fs) σ H Q)(I:fs.length=n):zhS (zhI cl n true G) [] E (tAs cl E fs) σ H Q:=by
 obtain⟨B,w,ρ,S,rfl,R,q⟩:=q;refine⟨B,w,ρ,S,rfl,R,?_⟩;unfold eFn at q
 cases hf:zao fs ρ S with
 |bad=>rwa[hf]at q|exc c S1=>rwa[hf]at q|ok ds S1=>
  rw[hf]at q;intro vs b k F1 h1;dsimp only[Out.bind]at q
  have s:∀(fs:List Fe) (S S1:Sto) (ds:List D),zao fs ρ S=.ok ds S1->ds.length=fs.length:=by
   intro fs
   induction fs with
   |nil=>intro S S1 ds h;cases h;rfl|cons f fs r=>
    intro S S1 ds h;unfold zao at h
    cases h1:f ρ S with
    |bad=>rw[h1]at h;cases h|exc c S2=>rw[h1]at h;cases h|ok d S2=>
     rw[h1]at h;dsimp only[Out.bind]at h
     cases h2:zao fs ρ S2 with
     |bad=>rw[h2]at h;cases h|exc c y=>rw[h2]at h;cases h|ok es y=>rw[h2]at h;cases h;rw[yan,yan,r S2 _ es h2]
  refine⟨by rw[yaS,h1.length,s fs S S1 ds hf];exact I,b.base,b.inn,ds,S1,rfl,k.wd.enter,by rw[yaS];exact h1.up (zda b),?_⟩
  cases l:G ds S1 with
  |bad=>rwa[l]at q|exc c S2=>
   rw[l]at q;intro e j F2;obtain⟨m,F3⟩:=k.leave j F2;exact q (b.back e) m (F1.trans F3)
  |ok d S2=>
   rw[l]at q;intro v e j F2 p;obtain⟨m,F3⟩:=k.leave j F2;obtain⟨a,o,i,rfl,k1,k2,t⟩:=p;have g:b.base.Fr a=none:=(j.own a _ k1).elim (fun z=>by cases z) fun z=>z
   have k3:(b.back e).ow a=some .far:=by
    show(if(b.base.Fr a).isSome=true then b.ow a else Root.out (e.ow a))=_;rw[g,k1];rfl
   have x:B.Fr a=none:=by
    cases z:B.Fr a with
    |none=>rfl|some u=>rw[zeM k.wd z]at g;cases g
   have hd:=zi1 (w:=b.back e) (a:=a) (by rw[k3];exact yaC _);have:=q a o ((b.back e).del a) (m.del k3 x) (F1.trans (F3.trans hd)) (if_pos rfl) ((t.up (zei j)).up hd);rwa[zk4 (w:=b.back e) k2]at this
end
noncomputable def frz1(ρ:Env)(i:Nat):Env:=match ρ[i]? with|some (some (true,d))=>ρ.set i (~~~d)|_=>ρ
def frz(is:List Nat)(ρ:Env):Env:=is.foldl frz1 ρ
def sFz(is:List Nat)(f:Fs):Fs:=fun ρ S=>f (frz is ρ) S
noncomputable def sNx:Fs:=fun ρ S=>.nx ρ S
noncomputable def sBk:Fs:=fun ρ S=>.bk ρ S
noncomputable def zad(f g:Fs):Fs:=fun ρ S=>match f ρ S with|.nx a S'=>g a S'|o=>o
noncomputable def zaK(i:Nat)(own:Bool)(f:Fe):Fs:=fun ρ S=>match f ρ S with|.ok d S'=>.nx (ρ.set i (some (own,d))) S'|.exc c S'=>.ex c ρ S'|.bad=>.bad
noncomputable def zlu(f:Fe):Fs:=fun ρ S=>match f ρ S with|.ok _ S'=>.nx ρ S'|.exc c S'=>.ex c ρ S'|.bad=>.bad
noncomputable def zaP(f:Fe):Fs:=fun ρ S=>match f ρ S with|.ok d S'=>.rt d S'|.exc c S'=>.ex c ρ S'|.bad=>.bad
noncomputable def zhc(i:Nat):Fs:=fun ρ S=>match ρ[i]? with|some (some (true,d))=>.rt d S|_=>.bad
def sIf(c:Fe)(f g:Fs):Fs:=fun ρ S=>match c ρ S with|.ok d S'=>(match isB d with|some true=>f ρ S'|some false=>g ρ S'|none=>.bad)|.exc x S'=>.ex x ρ S'|.bad=>.bad
noncomputable def zhE(cl:Cf)(E:St->XK)(own:Bool)(B:Base)(w:Wd)(I:Ends):Fo->Prop
 |.nx b S'=>∀a w',Rel cl B a w' b S'->Fut w w'->I.nx a w'.H|.bk b S'=>∀a w',Rel cl B a w' b S'->Fut w w'->I.bk a w'.H|.ct b S'=>∀a w',Rel cl B a w' b S'->Fut w w'->I.ct a w'.H|.rt d S'=>∀v w',World' cl B w' S'->Fut w w'->zyu cl w' own v d->I.rt v w'.H|.ex c b S'=>∀a w',Rel cl B a w' b S'->Fut w w'->E a (.ref (cl c)) none w'.H|.bad=>False
theorem zhE.up(f:Fut w I):∀{o:Fo},zhE cl E own B w J o->zhE cl E own B I J o
 |.nx _ _,h=>fun a w' R F=>h a w' R (f.trans F)|.bk _ _,h=>fun a w' R F=>h a w' R (f.trans F)|.ct _ _,h=>fun a w' R F=>h a w' R (f.trans F)|.rt _ _,h=>fun v w' R F=>h v w' R (f.trans F)|.ex _ _ _,h=>fun a w' R F=>h a w' R (f.trans F)|.bad,h=>h
noncomputable def tS(cl:Cf)(E:St->XK)(own:Bool)(f:Fs):TS:=fun a σ H=>∃B w ρ S,w.H=H/\Rel cl B σ w ρ S/\zhE cl E own B w a (f ρ S)
def PS.imp{X:Cx}{st:Stmt}{t t':TS}(h:PS X st t)(i:∀J σ H,t' J σ H->t J σ H):PS X st t':=fun pins s σ H J I q=>h pins s σ H J I (i _ _ _ q)
def PSs.imp{X:Cx}{st:List Stmt}{t t':TS}(h:PSs X st t)(i:∀J σ H,t' J σ H->t J σ H):PSs X st t':=fun pins s σ H J I q=>h pins s σ H J I (i _ _ _ q)
section
variable{cl:Cf}{B:Base}{σ:St}{w:Wd}{ρ:Env}{S:Sto}
def Rel.put(R:Rel cl B σ w ρ S)(h:Shd cl w v d):Rel cl B (σ.set i (some v)) w (ρ.set i (~~~d)) S where
 wd:=R.wd
 len:=by rw[yaD,yaD];exact R.len
 slots:=fun j o e b=>by
  by_cases c:i=j
  ·subst c
   have a:i<ρ.length:=by
    have:=(yaj.mp b).1;rwa[yaD]at this
   rw[yaw a]at b;cases b;exact⟨v,by rw[yaw (by rw[R.len];exact a)],h⟩
  ·rw[yaJ c]at b ⊢;exact R.slots j o e b
def Wd.addAs(w:Wd)(p:Addr)(o:HO)(r:Root):Wd:=⟨upd w.H p o,fun a=>if a=p then some r else if w.ow a=some r then some .far else w.ow a,w.mu⟩
def zcG(h:w.H p=none):Fut w (w.addAs p o r)where
 keep:=fun a u c b=>by
  have n:a≠p:=zar c h;refine⟨?_,?_⟩
  ·show upd w.H p o a=_;rw[zam n];exact c
  ·show(if a=p then some r else if w.ow a=some r then some Root.far else w.ow a)=none;rw[if_neg n,if_neg (by rw[b];exact fun z=>by cases z)];exact b
 mu:=fun _ _ h=>h
theorem Rel.own(R:Rel cl B σ w ρ S)(I:w.H p=none)(t:Top cl w o d):Rel cl B (σ.set i (some (.ref p))) (w.addAs p o (.slot i)) (ρ.set i (some (true,d))) S:=by
 have q:=zcG (w:=w) (p:=p) (o:=o) (r:=.slot i) I
 have kp:∀a u,w.H a=some u->w.ow a≠some (.slot i)->(w.addAs p o (.slot i)).H a=some u/\(w.addAs p o (.slot i)).ow a=w.ow a:=fun a u k C=>by
  have n:a≠p:=zar k I;refine⟨?_,?_⟩
  ·show upd w.H p o a=_;rw[zam n];exact k
  ·show(if a=p then _ else if w.ow a=some (Root.slot i)then some Root.far else w.ow a)=_;rw[if_neg n,if_neg C]
 have m:B.Fr p=none:=by
  cases z:B.Fr p with
  |none=>rfl|some u=>have:=(R.wd.fr p u z).1;rw[I]at this;cases this
 refine⟨⟨fun a u h=>?_,fun a r h=>?_,R.wd.len,fun n ob h=>?_⟩,by rw[yaD,yaD];exact R.len,fun j b e g=>?_⟩
 ·have l:w.ow a≠some (.slot i):=fun z=>by
   rcases R.wd.own a _ z with y|y
   ·cases y
   ·rw[h]at y;cases y
  have:=kp a u (R.wd.fr a u h).1 l;exact⟨this.1,this.2.trans (R.wd.fr a u h).2⟩
 ·have h':(if a=p then some (Root.slot i)else if w.ow a=some (Root.slot i)then some Root.far else w.ow a)=some r:=h;split at h'
  ·rename_i e;rw[e];exact .inr m
  ·split at h'
   ·cases h';exact .inl rfl
   ·exact R.wd.own a r h'
 ·obtain⟨a,e,x⟩:=R.wd.obj n ob h;exact⟨a,e,x.keep q fun b u D A=>kp b u D fun z=>by rwa[z]at A⟩
 ·by_cases c:i=j
  ·subst c
   have f:i<ρ.length:=by
    have:=(yaj.mp g).1;rwa[yaD]at this
   rw[yaw f]at g;cases g;exact⟨.ref p,by rw[yaw (by rw[R.len];exact f)],p,o,rfl,if_pos rfl,zaC,t.up q⟩
  ·rw[yaJ c]at g ⊢;obtain⟨v,E,x⟩:=R.slots j b e g;refine⟨v,E,x.keep q fun a u k s=>?_⟩;have:=kp a u k (by rw[s];exact fun z=>c (by cases z;rfl));exact⟨this.1,this.2.trans s⟩
def Wd.mut(w:Wd)(p:Addr)(o:HO):Wd:=⟨upd w.H p o,w.ow,w.mu⟩
def zc9(h:w.ow p≠none):Fut w (w.mut p o)where
 keep:=fun a u c b=>⟨by
  show upd w.H p o a=_
  rw[zam (fun z=>h (by rw[<-z];exact b))];exact c,b⟩
 mu:=fun _ _ h=>h
theorem Rel.mut{i:Nat}{p:Addr}{o:HO}{d d0:D}(R:Rel cl B σ w ρ S)(hs:σ[i]?=some (some (.ref p)))(I:w.ow p=some (.slot i))(t:Top cl w o d):Rel cl B σ (w.mut p o) (ρ.set i (some (true,d))) S:=by
 have q:=zc9 (w:=w) (p:=p) (o:=o) (by rw[I];exact yaC _)
 have kp:∀a u,w.H a=some u->w.ow a≠some (.slot i)->(w.mut p o).H a=some u/\(w.mut p o).ow a=w.ow a:=fun a u m k=>⟨by
  show upd w.H p o a=_
  rw[zam (fun z=>k (by rw[z];exact I))];exact m,rfl⟩
 have A:B.Fr p=none:=(R.wd.own p _ I).elim (fun z=>by cases z) fun z=>z
 refine⟨⟨fun a u h=>?_,R.wd.own,R.wd.len,fun n ob h=>?_⟩,by rw[yaD];exact R.len,fun j b e f=>?_⟩
 ·have g:w.ow a≠some (.slot i):=fun z=>by
   rcases R.wd.own a _ z with y|y
   ·cases y
   ·rw[h]at y;cases y
  have:=kp a u (R.wd.fr a u h).1 g;exact⟨this.1,(R.wd.fr a u h).2⟩
 ·obtain⟨a,e,x⟩:=R.wd.obj n ob h;exact⟨a,e,x.keep q fun b u s k=>kp b u s fun z=>by rwa[z]at k⟩
 ·by_cases c:i=j
  ·subst c
   have l:i<ρ.length:=by
    have:=(yaj.mp f).1;rwa[yaD]at this
   rw[yaw l]at f;cases f;exact⟨.ref p,hs,p,o,rfl,I,zaC,t.up q⟩
  ·rw[yaJ c]at f;obtain⟨v,C,x⟩:=R.slots j b e f;refine⟨v,C,x.keep q fun a u m r=>?_⟩;have:=kp a u m (by rw[r];exact fun z=>c (by cases z;rfl));exact⟨this.1,this.2.trans r⟩
noncomputable def Wd.free(w:Wd)(r:Root):Wd:=⟨w.H,fun a=>if w.ow a=some r then none else w.ow a,w.mu⟩
def zoM:Fut w (w.free r)where
 keep:=fun a u c b=>⟨c,by
  show(if w.ow a=some r then none else w.ow a)=none
  rw[b];rfl⟩
 mu:=fun _ _ h=>h
theorem Top.shd(h:w.H a=some o)(k:w.ow a=none):Top cl w o d->Shd cl w (.ref a) d
 |.lst t=>.lst h k t|.dicK t=>.dicK h k t|.dicT t=>.dicT h k t|.dicN=>.dicN h k|.dicX x=>.dicX h k x
theorem Rel.frz1(R:Rel cl B σ w ρ S)(i:Nat):∃w',w'.H=w.H/\Fut w w'/\Rel cl B σ w' (frz1 ρ i) S:=by
 unfold S2.frz1;split
 ·rename_i d hd;have g:=zoM (w:=w) (r:=.slot i);have kp:∀a u,w.H a=some u->w.ow a≠some (.slot i)->(w.free (.slot i)).H a=some u/\(w.free (.slot i)).ow a=w.ow a:=fun a u p l=>⟨p,if_neg l⟩
  refine⟨w.free (.slot i),rfl,g,⟨fun a u h=>?_,fun a r h=>?_,R.wd.len,fun n ob h=>?_⟩,by rw[yaD];exact R.len,fun j b e f=>?_⟩
  ·have k:w.ow a≠some (.slot i):=fun z=>by
    rcases R.wd.own a _ z with y|y
    ·cases y
    ·rw[h]at y;cases y
   have:=kp a u (R.wd.fr a u h).1 k;exact⟨this.1,this.2.trans (R.wd.fr a u h).2⟩
  ·have h':(if w.ow a=some (Root.slot i)then none else w.ow a)=some r:=h;split at h'
   ·cases h'
   ·exact R.wd.own a r h'
  ·obtain⟨a,e,x⟩:=R.wd.obj n ob h;exact⟨a,e,x.keep g fun b u A l=>kp b u A fun z=>by rwa[z]at l⟩
  ·by_cases c:i=j
   ·subst c;have m:i<ρ.length:=(yaj.mp hd).1;rw[yaw m]at f;cases f;obtain⟨v,q,a,o,rfl,h1,h2,t⟩:=R.slots i true d hd;refine⟨.ref a,q,(t.up g).shd h2 ?_⟩;show(if w.ow a=some (Root.slot i)then none else w.ow a)=none;rw[if_pos h1]
   ·rw[yaJ c]at f;obtain⟨v,q,x⟩:=R.slots j b e f;refine⟨v,q,x.keep g fun a u p s=>?_⟩;have:=kp a u p (by rw[s];exact fun z=>c (by cases z;rfl));exact⟨this.1,this.2.trans s⟩
 ·exact⟨w,rfl,Fut.refl _,R⟩
theorem Rel.frz:∀(is:List Nat) {w:Wd}{ρ:Env},Rel cl B σ w ρ S->∃w',w'.H=w.H/\Fut w w'/\Rel cl B σ w' (frz is ρ) S
 |[],w,ρ,R=>⟨w,rfl,Fut.refl _,R⟩|i::is,w,ρ,R=>by
  obtain⟨e,c,f1,d⟩:=R.frz1 i;obtain⟨a,b,f2,R2⟩:=Rel.frz is d;exact⟨a,b.trans c,f1.trans f2,R2⟩
end
section
variable{X:Cx}{cl:Cf}{E:St->XK}{own:Bool}{st:Stmt}{zcV:List Stmt}{f g:Fs}{e:Expr}{fe:Fe}{pos pos':Pos}
def zvQ(is:List Nat)(h:PS X st (tS cl E own f)):PS X st (tS cl E own (sFz is f)):=by
 refine PS.imp h ?_;rintro d σ H ⟨B,w,ρ,S,rfl,R,q⟩;obtain⟨w',b,a,c⟩:=R.frz is;exact⟨B,w',frz is ρ,S,b,c,zhE.up a q⟩
def zsB:PSs X [] (tS cl E own sNx):=by
 refine PSs.imp zqD ?_;rintro a σ H ⟨B,w,ρ,S,rfl,R,q⟩;exact q σ w R (Fut.refl _)
def zqd(h1:PS X st (tS cl E own f))(h2:PSs X zcV (tS cl E own g)):PSs X (st::zcV) (tS cl E own (zad f g)):=by
 refine PSs.imp (znR h1 h2) ?_;rintro i σ H ⟨B,w,ρ,S,rfl,R,q⟩;refine⟨B,w,ρ,S,rfl,R,?_⟩;unfold zad at q
 cases hf:f ρ S with
 |nx a S'=>
  rw[hf]at q;intro b w' e h;exact⟨B,w',a,S',rfl,e,zhE.up h q⟩
 |bk a S'=>rwa[hf]at q|ct a S'=>rwa[hf]at q|rt d S'=>rwa[hf]at q|ex c a S'=>rwa[hf]at q|bad=>rwa[hf]at q
def zsF:PS X (.Break pos) (tS cl E own sBk):=by
 refine PS.imp znU ?_;rintro a σ H ⟨B,w,ρ,S,rfl,R,q⟩;exact q σ w R (Fut.refl _)
def zwV(q:tS cl E own (zaK i false fe) I σ H):zp4 (tE cl E fe) (zkF i) I σ H:=by
 obtain⟨B,w,ρ,S,rfl,R,q⟩:=q;refine⟨B,w,ρ,S,rfl,R,?_⟩;unfold zaK at q
 cases hf:fe ρ S with
 |bad=>rwa[hf]at q|exc c S1=>rw[hf]at q;exact fun w' a b=>q σ w' a b|ok d S1=>
  rw[hf]at q;intro v w' a b h';exact q _ w' (a.put h') b
def zu0(q:tS cl E own (zaK i true fe) I σ H):zp4 (tN cl E fe) (zkF i) I σ H:=by
 obtain⟨B,w,ρ,S,rfl,R,q⟩:=q;refine⟨B,w,ρ,S,rfl,R,?_⟩;unfold zaK at q
 cases hf:fe ρ S with
 |bad=>rwa[hf]at q|exc c S1=>rw[hf]at q;exact fun w' a b=>q σ w' a b|ok d S1=>
  rw[hf]at q;intro p o w' a b e t;exact q _ (w'.addAs p o (.slot i)) (a.own e t) (b.trans (zcG e))
def zsH(J:X.N.Nodup)(hi:X.N[i]?=some x)(I:Loc X.env.scope x)(he:PE X e (tE cl E fe))(hs:swapsWith e (some (.Name x pos')) pos.line X.env=pure false)(hf:X.fn x=true\/X.env.scope.names.lookup x=some .local):PS X (.Assign [.Name x pos'] e pos) (tS cl E own (zaK i false fe)):=
 PS.imp (zjC J hi I he hs hf) fun _ _ _ q=>zwV q
def zlk(J:X.N.Nodup)(hi:X.N[i]?=some x)(I:Loc X.env.scope x)(he:PE X e (tN cl E fe))(hs:swapsWith e (some (.Name x pos')) pos.line X.env=pure false)(hf:X.fn x=true\/X.env.scope.names.lookup x=some .local):PS X (.Assign [.Name x pos'] e pos) (tS cl E own (zaK i true fe)):=
 PS.imp (zjC J hi I he hs hf) fun _ _ _ q=>zu0 q
def zsE(he:PE X e (tE cl E fe))(hs:swapsWith e none pos.line X.env=pure false):PS X (.Expr e pos) (tS cl E own (zlu fe)):=by
 refine PS.imp (zf4 he hs) ?_;rintro f σ H ⟨B,w,ρ,S,rfl,R,q⟩;refine⟨B,w,ρ,S,rfl,R,?_⟩;unfold zlu at q
 cases hf:fe ρ S with
 |bad=>rwa[hf]at q|exc c S1=>rw[hf]at q;exact fun w' a b=>q σ w' a b|ok d S1=>rw[hf]at q;exact fun v w' a b _=>q σ w' a b
def zsz(he:PE X e (tE cl E fe)):PS X (.Return (some e) pos) (tS cl E false (zaP fe)):=by
 refine PS.imp (zlJ he) ?_;rintro f σ H ⟨B,w,ρ,S,rfl,R,q⟩;refine⟨B,w,ρ,S,rfl,R,?_⟩;unfold zaP at q
 cases hf:fe ρ S with
 |bad=>rwa[hf]at q|exc c S1=>rw[hf]at q;exact fun w' a b=>q σ w' a b|ok d S1=>rw[hf]at q;exact fun v w' a b h'=>q v w' a.wd b h'
def zp7(he:PE X e (tN cl E fe)):PS X (.Return (some e) pos) (tS cl E true (zaP fe)):=by
 refine PS.imp (zlJ he) ?_;rintro h σ H ⟨B,w,ρ,S,rfl,R,q⟩;refine⟨B,w,ρ,S,rfl,R,?_⟩;unfold zaP at q
 cases hf:fe ρ S with
 |bad=>rwa[hf]at q|exc c S1=>rw[hf]at q;exact fun w' a b=>q σ w' a b|ok d S1=>
  rw[hf]at q;intro p o w' a b f t;have g:=zcG (w:=w') (p:=p) (o:=o) (r:=.slot 0) f;exact q (.ref p) (w'.addAs p o (.slot 0)) (Rel.own (i:=0) a f t).wd (b.trans g) ⟨p,o,0,rfl,if_pos rfl,zaC,t.up g⟩
def zp6(U:X.N[i]?=some x)(J:Vis X.env.scope x)(hd:(x==("__debug__":Str))=false)(I:(x==("__classdict__":Str))=false):PS X (.Return (some (.Name x pos')) pos) (tS cl E true (zhc i)):=by
 refine PS.imp (zlJ (zbg U J hd I)) ?_;rintro c σ H ⟨B,w,ρ,S,rfl,R,q⟩;unfold zhc at q;split at q
 ·rename_i d hd;obtain⟨v,b,a,o,rfl,h1,h2,t⟩:=R.slots i true d hd;exact⟨_,b,q _ w R.wd (Fut.refl _) ⟨a,o,i,rfl,h1,h2,t⟩⟩
 ·exact q.elim
def zvP(J:PT X c (tTr cl E fc))(U:PSs X a (tS cl E own f))(I:PSs X b (tS cl E own g)):PS X (.If c a b pos) (tS cl E own (sIf fc f g)):=by
 refine PS.imp (zv1 J U I) ?_;rintro l σ H ⟨B,w,ρ,S,rfl,R,q⟩;refine⟨B,w,ρ,S,rfl,R,?_⟩;unfold sIf at q
 cases e:fc ρ S with
 |bad=>rwa[e]at q|exc c S1=>rw[e]at q;exact fun w' j k=>q σ w' j k|ok d S1=>
  rw[e]at q;dsimp only at q ⊢
  cases I:isB d with
  |none=>rw[I]at q;exact q.elim|some b=>
   rw[I]at q;intro h i F1
   cases b with
   |true=>exact zoD ⟨B,h,ρ,S1,rfl,i,zhE.up F1 q⟩|false=>exact zoE ⟨B,h,ρ,S1,rfl,i,zhE.up F1 q⟩
end
def zhJ(i:Nat)(fe:Fe):Fs:=fun ρ S=>match ρ[i]? with
 |some (some (true,.lst l))=>(match fe ρ S with
  |.ok d S'=>if small l.length then .nx (ρ.set i (some (true,.lst (l++[d])))) S' else .bad
  |.exc c S'=>.ex c ρ S'|.bad=>.bad)
 |_=>.bad
section
variable{X:Cx}{cl:Cf}{E:St->XK}{own:Bool}{e:Expr}{fe:Fe}{pos pos':Pos}
def zg8(h:small n=true):n<sizeLine:=Nat.lt_of_le_of_lt (yah h) (by decide)
def Rel.list(R:Rel cl B σ w ρ S)(h:ρ[i]?=some (some (true,.lst l))):∃a xs,σ[i]?=some (some (.ref a))/\w.ow a=some (.slot i)/\w.H a=some (.lst xs)/\Shds cl w xs l:=by
 obtain⟨v,b,a,o,rfl,h1,h2,t⟩:=R.slots i true _ h
 cases t with
 |lst t=>exact⟨a,_,b,h1,h2,t⟩
def zsI(hN:X.N[i]?=some x)(U:Vis X.env.scope x)(hd:(x==("__debug__":Str))=false)(J:(x==("__classdict__":Str))=false)(he:PE X e (tE cl E fe))
  (ae:zbV e=true) (I:(ap.endLine==cp.line)=true):PS X (.Expr (.Call (.Attribute (.Name x pos') "append" ap) [e] [] cp) pos) (tS cl E own (zhJ i fe)):=by
 refine PS.imp (zf4 (zl4 (es:=[]) ya7 yct ycu zgb (zbg hN U hd J) (zbH he zdp (zbi ae)) (hfew:=zil (by simp[ae]) (by simp)) (aa:=I) (hs:=zbi ae) (ah:=rfl))) ?_;rintro r σ H ⟨B,w,ρ,S,rfl,R,q⟩;unfold zhJ at q;split at q
 ·rename_i l o;obtain⟨a,xs,m,h1,h2,t⟩:=R.list o;refine⟨_,m,.inl ⟨rfl,_,SqL.of h2⟩,B,w,ρ,S,rfl,R,?_⟩
  cases hf:fe ρ S with
  |bad=>rwa[hf]at q|exc c S1=>rw[hf]at q;exact fun w' h n=>q σ w' h n|ok d S1=>
   rw[hf]at q;intro v w' h n h';dsimp only at q
   cases j:small l.length with
   |false=>rw[j,if_neg (by decide)]at q;exact q.elim
   |true=>
    rw[j,if_pos rfl]at q;obtain⟨p,b,g,f,k,t'⟩:=h.list o;rw[m]at g;cases g;refine⟨a,b,v,rfl,rfl,k,by rw[t'.length];exact zg8 j,?_⟩;exact q σ (w'.mut a (.lst (b++[v]))) (h.mut (d0:=.non) m f (.lst (t'.append (.cons h' .nil)))) (n.trans (zc9 (by rw[f];exact yaC _)))
 ·exact q.elim
end
end S2
namespace L2
open PySem PySem.Spec PyProof.Rows
section
variable{prog:Program}{w:World}{A:Around}{E:Z5}{s:Shared}
def znl{it t:Addr}{j:Nat}{vs:Array Value}{v:Value}{Q:Z5}(st:s.heap.IsTupleIter it t j)(tp:s.heap.IsTuple t vs)(e:vs[j]?=some v)
  (q:∀h',h'.IsTupleIter it t (j+1)->Heap.SameBut it s.heap h'->Q v {s with heap:=h'}):wpAny (model prog w) A (Builtin.SmallTypes.nextOf (.ref it)) Q E s:=by
 obtain⟨b,g1,c1,d1⟩:=id st;obtain⟨a,g2,_,c,d2⟩:=tp;unfold Builtin.SmallTypes.nextOf;refine yaa (yaW (name:=Str.ofString "__next__") st.typeIs ybJ (ya0 ybJ st.typeIs F.entry_tuple_iterator_next ?_ (F.args_tuple_iterator_next_1 _)));show wpAny _ _ (field (.ref it) 0 >>= _) _ _ s;refine yaa (ybG g1 d1 (x:=.ref t) rfl ?_);show wpAny _ _ (if(Value.ref t==Value.none)=true then _ else _) _ _ s;rw[if_neg (show ¬ ((Value.ref t==Value.none)=true)from fun z=>yaR z)];show wpAny _ _ (field (.ref it) 1 >>= _) _ _ s;refine yaa (ybG g1 d1 (x:=.int j 0) rfl ?_);show wpAny _ _ (seqItems? (.ref t) >>= _) _ _ s;refine yaa (yb2 g2 d2 ?_);simp only[yaI,e];refine yaa (ydn g1 d1 (by simp) (yaf ⟨v,rfl,yaf (q _ ?_ (Heap.SameBut.update ..))⟩));refine⟨_,yca _ g1 (Obj.isFreed_of_fields (ycC d1 _)),(Obj.cls_mapFields ..).trans c1,?_⟩;rw[ycC d1];simp[rawInt]
def zk6{it t:Addr}{j:Nat}{vs:Array Value}{Q:Z5}(I:A.handled=none)(st:s.heap.IsTupleIter it t j)(tp:s.heap.IsTuple t vs)(e:vs[j]?=none)
  (q:∀h' x,Heap.ExtBut it s.heap h'->(∃o,h'.get? x=some o/\o.cls=.type "StopIteration")->E (.ref x) {s with heap:=h'}):wpAny (model prog w) A (Builtin.SmallTypes.nextOf (.ref it)) Q E s:=by
 obtain⟨c,g1,c1,d1⟩:=id st;obtain⟨b,g2,_,d,d2⟩:=tp;unfold Builtin.SmallTypes.nextOf;refine yaa (yaW (name:=Str.ofString "__next__") st.typeIs ybJ (ya0 ybJ st.typeIs F.entry_tuple_iterator_next ?_ (F.args_tuple_iterator_next_1 _)));show wpAny _ _ (field (.ref it) 0 >>= _) _ _ s;refine yaa (ybG g1 d1 (x:=.ref t) rfl ?_);show wpAny _ _ (if(Value.ref t==Value.none)=true then _ else _) _ _ s;rw[if_neg (show ¬ ((Value.ref t==Value.none)=true)from fun z=>yaR z)];show wpAny _ _ (field (.ref it) 1 >>= _) _ _ s;refine yaa (ybG g1 d1 (x:=.int j 0) rfl ?_);show wpAny _ _ (seqItems? (.ref t) >>= _) _ _ s;refine yaa (yb2 g2 d2 ?_);simp only[yaI,e];refine yaa (ydo (yaa (ydn g1 d1 (by simp) ?_)));show wpAny _ _ (newExc (.type "StopIteration") [] >>= _) _ _ _;refine yaa ?_;simp only[newExc,newTuple];refine yaa (yaU ?_ (by size_fits));refine yaa (m:=firstArgMember _ _) (wpAny_of_eq (a:=Value.none) ?_ ?_)
 ·first|rfl|(simp only[firstArgMember];rfl)
 refine yaU ?_ (by size_fits);simp only[raiseNew];refine yaa (wpAny_handled ?_)
 first|rw[show A.in1.handled=none from I]|rw[I]
 refine yaa (yaf (wpAny_throw (q _ _ (((Heap.SameBut.update ..).extBut.push _).push _) ⟨_,yaq _ rfl,rfl⟩)))
def ziq(I:A.handled=none)(it t:Addr)(ne:t≠it)(vs:Array Value):Draws prog w A it [it,t] vs.size (fun j v=>vs[j]?=some v) (fun j h=>h.IsTupleIter it t j/\h.IsTuple t vs)where
 live:=fun _ _ st=>by obtain⟨⟨o,a,_⟩,_⟩:=st;exact⟨o,a⟩
 frame:=fun _ _ _ st d=>⟨st.1.at fun o e=>d it (by simp) o e,by obtain⟨o,a,r⟩:=st.2;exact⟨o,d t (by simp) o a,r⟩⟩
 item:=fun j s Q E f st g=>znl st.1 st.2 (v:=vs[j]) (by simp[f]) fun h' b c=>g _ h' s.toks (by simp[f]) ⟨b,by obtain⟨o,a,r⟩:=st.2;exact⟨o,(c.2 t ne).trans a,r⟩⟩ c
 done:=fun s Q E st i=>zk6 I st.1 st.2 (by simp) i
def zin(l:Addr)(items:Array Value)(n:Nat)(I:Option Addr)(sl:Array (Option Value)):
  Meets (Builtin.«enumerate.__new__» ⟨[.type "enumerate",.ref l],[]⟩) (fun _ R s=>s.heap.get? l=some {cls:=.type "tuple",dict:=I,data:=.seq items n,slots:=sl} ∧
   R (.ok (.ret (.ref (s.heap.push {cls:=.type "tuple_iterator",data:=.fields #[.ref l,.int 0 0]}).objs.size)))
    {s with heap:=(s.heap.push {cls:=.type "tuple_iterator",data:=.fields #[.ref l,.int 0 0]}).push {cls:=.type "enumerate",data:=.fields #[.none,.bool false,.ref s.heap.objs.size,rawInt 0,.none,.none]}}):=
 .of_wp fun prog w A R s h=>by
  obtain⟨f,g,d,tk,os⟩:=s;obtain⟨a,h⟩:=h;have b:=sub_enumerate;have e:Heap.IsTuple (Shared.heap ⟨f,g,d,tk,os⟩) l items:=⟨_,a,rfl,n,rfl⟩
  wp_walk using ycv a
  refine wpAny_stack_any fun st=>yaf ?_
  split
  ·rename_i c _ _ _ _ _
   cases (c==Value.type "enumerate")<;>(wp_walk using ycv a,yb4 e;exact⟨_,rfl,h⟩)
  ·wp_walk using ycv a,yb4 e;exact⟨_,rfl,h⟩
def zhz{l:Addr}{items:Array Value}{Q:Z5}(I:s.heap.IsTuple l items)
  (h:∀h',IsEnum h' (s.heap.objs.size+1) s.heap.objs.size 0 .none->h'.IsTupleIter s.heap.objs.size l 0->h'.objs.size=s.heap.objs.size+2->(∀b o,s.heap.get? b=some o->h'.get? b=some o)->Q (.ref (s.heap.objs.size+1)) {s with heap:=h'}):
  wpAny (model prog w) A (call (.type "enumerate") [.ref l]) Q E s:=by
 obtain⟨⟨c,d,i,f⟩,g,e,n,hd⟩:=I;simp only at e hd;subst e hd;refine callType_new F.called_enumerate (by decide) (F.typeCall_enumerate_1 _) (F.newCall_enumerate_1 _) (fun obj=>F.args_object_init_2 obj _) F.entry_enumerate_new (zin l items n d f) ⟨g,?_⟩;generalize hp1:s.heap.push {cls:=.type "tuple_iterator",data:=.fields #[.ref l,.int 0 0]}=h1
 have a:h1.objs.size=s.heap.objs.size+1:=by rw[<-hp1];exact yba ..
 have k1:∀b o,s.heap.get? b=some o->h1.get? b=some o:=fun b o x=>by rw[<-hp1];exact yae _ x
 have i1:h1.get? s.heap.objs.size=some {cls:=.type "tuple_iterator",data:=.fields #[.ref l,.int 0 0]}:=by rw[<-hp1];exact yaq _ rfl
 show _/\_;rw[a]
 have he:IsEnum (h1.push {cls:=.type "enumerate",data:=.fields #[.none,.bool false,.ref s.heap.objs.size,rawInt 0,.none,.none]}) (s.heap.objs.size+1) s.heap.objs.size 0 .none:=by
  rw[<-a];exact yaq _ rfl
 exact⟨⟨_,he,rfl⟩,h _ he ⟨_,yae _ i1,rfl,rfl⟩ (by rw[yba,a]) fun b o x=>yae _ (k1 b o x)⟩
end
section
variable{X:Cx}{pins:Z3}{σ:St}{H:Hp}{s:Shared}
def Inv.turnedL{t':Nat}{h':Heap}{ch:List Addr}(I:Inv X pins σ H s)(k:∀b o,b ∉ ch->s.heap.get? b=some o->h'.get? b=some o)(hf:∀b∈ch,zne X pins H b):Inv X pins σ H {s with heap:=h',toks:=t'}:=by
 have d:∀b u,H b=some u->b ∉ ch:=fun b u e z=>by rw[(hf b z).1]at e;cases e
 refine I.step (g':=s.gens) (d':=s.drawn) (ch:=ch) (fun b g=>?_) (fun b o _ _ a e _=>k b o a e) (fun b o _ _ a e _=>⟨o.slots,k b o a e⟩) (fun _ _ _ _ n=>n) (fun b o a e=>⟨o,k b o a e⟩) (fun _ _ e=>e) (fun _ _ _ e=>e) (fun b ps e=>⟨#[],by rw[e];simp⟩) (fun m hm=>?_) (fun b u e=>?_) I.bare
 ·obtain⟨l,f1,f2,j,i,h⟩:=hf b g;exact⟨j,f1,i,h⟩
 ·obtain⟨o,es,ep,f,r⟩:=hm;exact⟨o,es,ep,k _ o (fun z=>(hf _ z).2.1 rfl) f,r⟩
 ·refine(I.hok b u e).stay (fun c v a q=>k c v ?_ q) (fun _ q=>q) fun _ _ q=>q
  rcases a with z|z
  ·rw[z];exact d b u e
  ·exact d c _ z
noncomputable def ItE(S:Hp->Addr->List V->Prop)(a:Addr):It:=
 ⟨fun i H=>∃xs x,S H a xs/\xs[i]?=some x,fun i H x H'=>∃t y,x=.ref t/\H t=none/\H'=upd H t (.tup [.int (i:Int),y])/\∀xs,S H a xs->xs[i]?=some y,fun i H=>∃xs,S H a xs/\xs.length<=i⟩
def zj5{i:Nat}{e it T:Addr}{h1 h2:Heap}{tk:Nat}{x:Value}{y:V}(I:Inv X pins σ H s)(hf:∀b∈[e,it],zne X pins H b)(J:T=s.heap.objs.size)(te:h1.get? T=some {cls:=.type "tuple",data:=.seq #[.int i tk,x]})
  (k:∀b o,b≠e->b≠it->s.heap.get? b=some o->h1.get? b=some o) (U:Heap.SameBut e h1 h2) (ne:T≠e) (ry:zbD y x):Inv X pins σ (upd H T (.tup [.int (i:Int),y])) {s with heap:=h2,toks:=tk+1}/\H T=none:=by
 have fr:H T=none:=by rw[J];exact I.hok.fresh (yai _)
 refine⟨?_,fr⟩
 have g:Inv X pins σ H {s with heap:=h2,toks:=tk+1}:=I.turnedL (ch:=[e,it]) (fun b o a q=>by
  simp only[yat,ya2,ycQ,not_or]at a
  exact(U.2 b a.1).trans (k b o a.1 a.2 q)) hf
 refine g.track fr (by rw[J];exact I.sz) (by rw[J];exact yaO I.lt) (fun z c q=>?_) (fun p d=>?_) ?_
 ·obtain⟨v,f⟩:=I.cell z c q;rw[J];exact yaA f.lt
 ·rw[J];exact yaA (yap (I.pin p d).1)
 ·refine⟨by show 2<=sizeLine;decide,[.int i tk,x],.cons ⟨tk,rfl⟩ (.cons ry .nil),?_⟩;exact⟨_,(U.2 T ne).trans te,rfl,_,rfl⟩
def zkj{P:Program}{K:PySem.W.Frag}(a it e:Addr)(J:e≠it):Turn P w K (.Tuple elts x1 pos) (ItE (SqL K) a) [e,it] e (fun i h=>(∃old,IsEnum h e it (i:Int) old)/\h.IsListIter it a i)where
 mem:=by simp
 obj:=fun i h st b f=>by
  obtain⟨⟨old,he⟩,o,t,c,d⟩:=st;simp only[yat,ya2,ycQ]at f
  rcases f with rfl|rfl
  ·exact⟨_,he,fun v z=>by cases z⟩
  ·exact⟨o,t,fun v z=>by rw[d]at z;cases z⟩
 keep:=fun i h h' st k=>by
  obtain⟨⟨old,he⟩,hi⟩:=st;exact⟨⟨old,k e (by simp) _ he⟩,hi.at fun o q=>k it (by simp) o q⟩
 item:=by
  intro X D n F L i pins s σ H E I hf st B;subst D n F;obtain⟨xs,x,g,m⟩:=B;obtain⟨⟨old,he⟩,hi⟩:=st;obtain⟨l,j,p,O⟩:=I.list g;obtain⟨u,R,M⟩:=j.get m;refine wpAny_pyNext_enum_item he hi p.isList (x:=u) (by simpa using R) J fun h1 t A r N k1=>?_
  have neT:s.heap.objs.size≠e:=yaO (yap he);refine⟨_,rfl,wpAny_letOwnedTupleGo_enum t fun h2 C G=>?_⟩;obtain⟨Z,fr⟩:=zj5 (h2:=h2) (y:=x) I hf rfl r k1 G neT M;refine⟨.ref s.heap.objs.size,_,Z,rfl,⟨_,x,rfl,fr,rfl,fun ys Q=>by rw[I.list_inj Q g];exact m⟩,⟨⟨u,by simpa using C⟩,A.at fun o q=>(G.2 it (Ne.symm J)).trans q⟩,fun b f=>?_⟩;rw[zam]
  ·exact(hf b f).1
  ·rintro rfl;simp only[yat,ya2,ycQ]at f
   rcases f with z|z
   ·exact neT z
   ·obtain⟨o,q,_⟩:=hi;exact absurd (yap q) (by rw[<-z];exact ya6 _)
 done:=by
  intro X D n F L i pins s σ H E I hf st B;subst D n F;obtain⟨xs,g,m⟩:=B;obtain⟨⟨old,he⟩,hi⟩:=st;obtain⟨l,j,p,O⟩:=I.list g;have hl:=j.length;obtain⟨V,f1,f2,U,T,S⟩:=hf it (by simp);exact wpAny_pyNext_enum_end (I.ok.hd L) he hi p.isList (by simp;omega) fun h' Y=>⟨rfl,I.turned (t':=s.toks) (fun b o f q=>Y b o f q) V f1 U T S⟩
 self:=fun _ _ _ _ _ st h=>by
  obtain⟨⟨old,he⟩,_⟩:=st;exact ycO he h
def zki{P:Program}{K:PySem.W.Frag}(a it e:Addr)(J:e≠it):Turn P w K (.Tuple elts x1 pos) (ItE (SqT K) a) [e,it] e (fun i h=>(∃old,IsEnum h e it (i:Int) old)/\h.IsTupleIter it a i)where
 mem:=by simp
 obj:=fun i h st b g=>by
  obtain⟨⟨old,he⟩,o,m,c,d⟩:=st;simp only[yat,ya2,ycQ]at g
  rcases g with rfl|rfl
  ·exact⟨_,he,fun v z=>by cases z⟩
  ·exact⟨o,m,fun v z=>by rw[d]at z;cases z⟩
 keep:=fun i h h' st k=>by
  obtain⟨⟨old,he⟩,hi⟩:=st;exact⟨⟨old,k e (by simp) _ he⟩,hi.at fun o q=>k it (by simp) o q⟩
 item:=by
  intro X Z M hK Y i pins s σ H E I hf st S;subst Z M hK;obtain⟨xs,x,n,L⟩:=S;obtain⟨⟨old,he⟩,hi⟩:=st;obtain⟨f,B,p,hz⟩:=I.tuple n;obtain⟨u,hu,ru⟩:=B.get L
  have Q:i<f.toArray.size:=by
   have:=(yaj.mp hu).1;simpa using this
  have l:a≠it:=by
   rintro rfl;obtain⟨o,q,c,_⟩:=hi;obtain⟨o2,j,r,_⟩:=id p;rw[q]at j;cases j;rw[c]at r;simp at r
  have C:e ∉ [it,a]:=by
   simp only[yat,ya2,ycQ,not_or];refine⟨J,?_⟩;rintro rfl;obtain⟨o2,j,r,_⟩:=id p;rw[he]at j;cases j;simp at r
  refine wpAny_pyNext_enum_itemD (D:=ziq (A:=X.A.in1) (I.ok.hd Y) it a l f.toArray) he ⟨hi,show s.heap.IsTuple a f.toArray from p⟩ Q J C fun t h1 tk N m R O a3 k1=>?_
  have eu:t=u:=by
   have:f[i]?=some t:=by simpa using N
   rw[hu]at this;exact(Option.some.inj this).symm
  subst eu;have neT:s.heap.objs.size≠e:=yaO (yap he);refine⟨_,rfl,wpAny_letOwnedTupleGo_enum m fun h2 U sb=>?_⟩;obtain⟨I2,fr⟩:=zj5 (h2:=h2) (y:=x) I hf rfl O k1 sb neT ru;refine⟨.ref s.heap.objs.size,_,I2,rfl,⟨_,x,rfl,fr,rfl,fun ys hy=>by rw[I.tuple_inj hy n];exact L⟩,⟨⟨t,by simpa using U⟩,R.1.at fun o q=>(sb.2 it (Ne.symm J)).trans q⟩,fun b g=>?_⟩;rw[zam]
  ·exact(hf b g).1
  ·rintro rfl;simp only[yat,ya2,ycQ]at g
   rcases g with z|z
   ·exact neT z
   ·obtain⟨o,q,_⟩:=hi;exact absurd (yap q) (by rw[<-z];exact ya6 _)
 done:=by
  intro X Z M hK Y i pins s σ H E I hf st S;subst Z M hK;obtain⟨xs,n,L⟩:=S;obtain⟨⟨old,he⟩,hi⟩:=st;obtain⟨f,B,p,hz⟩:=I.tuple n;have hl:=B.length;obtain⟨f0,f1,f2,f3,f4,f5⟩:=hf it (by simp);have ty:s.TypeIs (.ref e) "enumerate":=⟨_,he,rfl⟩;unfold pyNext;refine yaa (yc4 (yaW (name:=Str.ofString "__next__") ty F.slot_enumerate_next (ya0 F.slot_enumerate_next ty F.entry_enumerate_next ?_ (F.args_enumerate_next_1 _))));show wpAny _ _ (field (.ref e) 2 >>= _) _ _ _;refine yaa (ybG he rfl (x:=.ref it) rfl ?_);refine yaa (zk6 (I.ok.hd Y) hi (show s.heap.IsTuple a f.toArray from p) (by simp;omega) fun h' x eb G=>?_);obtain⟨o,m,V⟩:=G;refine yaa (ycn (T:="StopIteration") (b:=true) ⟨o,m,V⟩ isSubtype_stop ?_);exact yaf ⟨rfl,I.turned (t':=s.toks) (fun b o g q=>eb b o g q) f0 f1 f3 f4 f5⟩
 self:=fun _ _ _ _ _ st h=>by
  obtain⟨⟨old,he⟩,_⟩:=st;exact ycO he h
theorem ziy:bootBuiltins "enumerate"=some (.type "enumerate"):=by decide +kernel
noncomputable def zyp(S:Hp->Addr->List V->Prop)(ta:TA):TI:=fun σ H R=>ta σ H fun vs H1=>∃a,vs=[.ref a]/\(∃xs,S H1 a xs)/\R (ItE S a) H1
theorem zn1{K:PySem.W.Frag}{elts:List Expr}{x1:Nat}{tp:Pos}{a:Expr}{ta:TA}{p pos:Pos}(J:Gl X "enumerate")(hm:X.mg "enumerate"=none)(U:PA X [a] ta)(hK:autoParam (X.K=K) yAW)(hs:autoParam (starEach [a] X.env=[(false,eval a X.env)]) yAW):
  PI X (.Tuple elts x1 tp) (.Call (.Name "enumerate" p) [a] [] pos) (zyp (SqL K) ta):=by
 subst hK;intro pins s σ H R I h;refine Call_ (ze4 I J hm ziy (ya3 (thn (U pos pins s σ H _ I h) fun us s1 ⟨vs,H1,d,r1,j⟩=>?_) hs rfl));obtain⟨b,e,⟨xs,n⟩,q⟩:=j;subst e
 cases r1 with
 |cons r i=>
  cases i;cases r;obtain⟨l,o,pl,t⟩:=d.list n;refine call_enumerate_list pl.isList fun h' he hi m k=>ycO he ?_
  refine⟨s1.heap.objs.size+1,[s1.heap.objs.size+1,s1.heap.objs.size],_,_,H1,rfl,d.kept (t':=s1.toks) k,zkj b _ _ (Nat.succ_ne_self _),⟨⟨_,he⟩,hi⟩,fun c g=>?_,q⟩;simp only[yat,ya2,ycQ]at g
  have f:s1.heap.objs.size<=c:=by rcases g with rfl|rfl<;>omega
  exact d.fpOk f (d.hok.fresh f)
theorem zn0{K:PySem.W.Frag}{elts:List Expr}{x1:Nat}{tp:Pos}{a:Expr}{ta:TA}{p pos:Pos}(J:Gl X "enumerate")(hm:X.mg "enumerate"=none)(U:PA X [a] ta)(hK:autoParam (X.K=K) yAW)(hs:autoParam (starEach [a] X.env=[(false,eval a X.env)]) yAW):
  PI X (.Tuple elts x1 tp) (.Call (.Name "enumerate" p) [a] [] pos) (zyp (SqT K) ta):=by
 subst hK;intro pins s σ H R I h;refine Call_ (ze4 I J hm ziy (ya3 (thn (U pos pins s σ H _ I h) fun us s1 ⟨vs,H1,d,r1,l⟩=>?_) hs rfl));obtain⟨b,e,⟨xs,n⟩,q⟩:=l;subst e
 cases r1 with
 |cons r j=>
  cases j;cases r;obtain⟨f,o,pl,t⟩:=d.tuple n;refine zhz (show s1.heap.IsTuple b f.toArray from pl) fun h' he hi m k=>ycO he ?_
  refine⟨s1.heap.objs.size+1,[s1.heap.objs.size+1,s1.heap.objs.size],_,_,H1,rfl,d.kept (t':=s1.toks) k,zki b _ _ (Nat.succ_ne_self _),⟨⟨_,he⟩,hi⟩,fun c i=>?_,q⟩;simp only[yat,ya2,ycQ]at i
  have g:s1.heap.objs.size<=c:=by rcases i with rfl|rfl<;>omega
  exact d.fpOk g (d.hok.fresh g)
noncomputable def Itq(lo c:Int)(n:Nat):It:=⟨fun i _=>i<n,fun i H x H'=>H'=H/\x=.int (lo+i*c),fun i _=>n<=i⟩
def ziH{P:Program}{w:World}{K:PySem.W.Frag}{tg:Expr}(it:Addr)(lo c:Int)(n:Nat):Turn P w K tg (Itq lo c n) [it] it (fun i h=>IsRangeIter h it (lo+(i:Nat)*c) ((n:Int)-(i:Nat)) c)where
 mem:=by simp
 obj:=fun i h st b a=>by
  have e:b=it:=by simpa using a
  subst e;exact⟨_,st,fun v z=>by cases z⟩
 keep:=fun i h h' st k=>k it (by simp) _ st
 item:=by
  intro X l f m j i pins s σ H E I hf st g;subst l f m;obtain⟨u,f1,f2,r,q,p⟩:=hf it (by simp);have W:=Walks.range (prog:=X.prog) (w:=X.w) (I.ok.hd j) it lo c n;refine W.item i s _ _ g st fun v h' tk x d kk=>?_
  obtain⟨t,rfl⟩:=x;have A:Inv X pins σ H {s with heap:=h',toks:=tk}:=I.turned (fun b o a e=>kk b o (by simpa using a) e) u f1 r q p;exact⟨_,rfl,zoK (s:={s with heap:=h',toks:=tk}) (n:="range_iterator") d rfl rfl (by decide) ⟨.int (lo+i*c),H,A,⟨t,rfl⟩,⟨rfl,rfl⟩,d,fun b a=>(hf b a).1⟩⟩
 done:=by
  intro X l f m j i pins s σ H E I hf st g;subst l f m;obtain⟨u,f1,f2,r,q,p⟩:=hf it (by simp);exact wpAny_pyNext_range_end (I.ok.hd j) st (by have:n<=i:=g;omega) fun h' y=>⟨rfl,I.turned (t':=s.toks) (fun b o a e=>y b o a e) u f1 r q p⟩
 self:=fun _ _ _ _ _ st h=>wpAny_pyIter_rangeiter st h
noncomputable def zwy(ta:TA):TI:=fun σ H R=>ta σ H fun vs H1=>∃j c:Int,vs=[.int 0,.int j,.int c]/\0<=j/\j<=1000/\1<=c/\c<=1000/\R (Itq 0 c ((j+c-1) / c).toNat) H1
theorem zlT{tg a b c:Expr}{ta:TA}{p pos:Pos}(U:Gl X "range")(hm:X.mg "range"=none)(ha:PA X [a,b,c] ta)(hs:autoParam (starEach [a,b,c] X.env=(false,eval a X.env)::starEach [b,c] X.env) yAW)(J:autoParam ((backTo pos (starEach [b,c] X.env)).any (·.1)=false) yAW):
  PI X tg (.Call (.Name "range" p) [a,b,c] [] pos) (zwy ta):=by
 intro pins s σ H R I h;refine Call_ (ze4 I U hm boot_range (ya3 (thn (ha pos pins s σ H _ I h) fun us s1 ⟨vs,H1,A,r1,n⟩=>?_) hs J));obtain⟨j,k,e,u,B,k0,k1,q⟩:=n;subst e
 cases r1 with
 |cons r f=>
  cases f with
  |cons r' f=>
   cases f with
   |cons g f=>
    cases f;obtain⟨t,rfl⟩:=r;obtain⟨t',rfl⟩:=r';obtain⟨d,rfl⟩:=g;have hsz:=rangeSize_pos (len:=j) k0 u
    have l:Builtin.Range.small 0 j k=true:=by
     have h1:(j+k-1) / k<=j+k-1:=Int.ediv_le_self _ (by omega);have h2:0<=(j+k-1) / k:=Int.ediv_nonneg (by omega) (by omega);unfold Builtin.Range.small;rw[hsz];simp only[Builtin.Range.rangeFitsLong,yac,yc8,ybh,yb1];refine⟨by omega,.inr ?_⟩;rw[if_pos (by omega)];simp only[yac,ybh];omega
    refine call_range_3 (by omega) ?_ (Or.inl (PyProof.noPylong_small (by omega)));generalize hp1:s1.heap.push {cls:=.type "range",data:=.fields #[.int 0 t,.int j t',.int k d]}=h1
    have v:IsRange h1 s1.heap.objs.size 0 j k t t' d:=by rw[<-hp1];exact IsRange.new ..
    have i:∀b o,s1.heap.get? b=some o->h1.get? b=some o:=fun b o x=>by rw[<-hp1];exact yae _ x
    have m:Inv X pins σ H1 {s1 with heap:=h1,toks:=s1.toks}:=A.kept i;refine wpAny_pyIter_range v l ?_;refine⟨h1.objs.size,[h1.objs.size],_,_,H1,rfl,m.kept (t':=s1.toks) fun b o e=>yae _ e,ziH _ 0 k ((j+k-1) / k).toNat,?_,fun b w=>?_,q⟩
    ·rw[hsz];have h2:0<=(j+k-1) / k:=Int.ediv_nonneg (by omega) (by omega)
     have y:((((j+k-1) / k).toNat:Nat):Int)-((0:Nat):Int)=(j+k-1) / k:=by omega
     have z:(0:Int)+((0:Nat):Int)*k=0:=by simp
     show IsRangeIter _ _ (0+((0:Nat):Int)*k) ((((j+k-1) / k).toNat:Int)-((0:Nat):Int)) k;rw[z,y];exact yaq _ rfl
    ·have e:b=h1.objs.size:=by simpa using w
     subst e;exact m.fpOk (yai _) (m.hok.fresh (yai _))
end
end L2
namespace S2
open PySem PySem.Spec PyProof.Rows L2
structure ItOk(cl:Cf)(w:Wd)(J:It)(ds:List D):Prop where
 go:∀w',Fut w w'->∀i,i<ds.length->J.go i w'.H
 stop:∀w',Fut w w'->J.stop ds.length w'.H
 yld:∀w',Fut w w'->∀i d x H',ds[i]?=some d->J.yld i w'.H x H'->∃w'',w''.H=H'/\Grow w' w''/\Shd cl w'' x d
noncomputable abbrev Fi:=Env->Sto->Out (List D)
noncomputable def tI(cl:Cf)(E:St->XK)(f:Fi):TI:=fun σ H a=>∃B w ρ S,w.H=H/\Rel cl B σ w ρ S/\match f ρ S with
 |.ok ds S'=>∀J w',Rel cl B σ w' ρ S'->Fut w w'->ItOk cl w' J ds->a J w'.H|.exc c S'=>∀w',Rel cl B σ w' ρ S'->Fut w w'->E σ (.ref (cl c)) none w'.H|.bad=>False
def PI.imp(h:PI X tg it t)(i:∀σ H Q,t' σ H Q->t σ H Q):PI X tg it t':=fun pins s σ H Q I q=>h pins s σ H Q I (i _ _ _ q)
set_option genInjectivity true in
inductive Tg where|one (i:Nat)|tup (is:List Nat)
noncomputable def zfw:List Nat->List D->Env->Option Env
 |[],[],ρ=>some ρ|i::is,d::ds,ρ=>zfw is ds (ρ.set i (~~~d))|_,_,_=>none
noncomputable def Tg.put:Tg->Env->D->Option Env
 |.one i,ρ,d=>some (ρ.set i (~~~d))|.tup is,ρ,.tup ds=>zfw is ds ρ|.tup _,_,_=>none
noncomputable def tG(cl:Cf)(n:Nat)(tg:Tg):TG:=fun v σ H Q=>∃B w ρ S d b,w.H=H/\Rel cl B σ w ρ S/\Shd cl w v d/\tg.put ρ d=some b/\∀a,a.length=σ.length->a.drop n=σ.drop n->Rel cl B a w b S->Q a w.H
def PG.imp(h:PG X tg t)(i:∀v σ H Q,t' v σ H Q->t v σ H Q):PG X tg t':=fun pins s σ H v u Q I r q=>h pins s σ H v u Q I r (i _ _ _ _ q)
def zel(tg:Tg)(body:Fs):List D->Env->Sto->Fo
 |[],ρ,S=>.nx ρ S|d::ds,ρ,S=>match tg.put ρ d with
  |none=>.bad|some b=>match body b S with
   |.nx a S'=>zel tg body ds a S'|.ct a S'=>zel tg body ds a S'|.bk a S'=>.nx a S'|o=>o
noncomputable def zfT(tg:Tg)(it:Fi)(body:Fs):Fs:=fun ρ S=>match it ρ S with
 |.ok ds S'=>zel tg body ds ρ S'|.exc c S'=>.ex c ρ S'|.bad=>.bad
def zdO(c:Fe)(body:Fs):Nat->Env->Sto->Fo
 |0,_,_=>.bad|n+1,ρ,S=>match c ρ S with
  |.ok d S'=>(match isB d with
   |some true=>(match body ρ S' with
    |.nx a S'=>zdO c body n a S'|.ct a S'=>zdO c body n a S'|.bk a S'=>.nx a S'|o=>o)
   |some false=>.nx ρ S'|none=>.bad)
  |.exc x S'=>.ex x ρ S'|.bad=>.bad
section
variable{X:Cx}{cl:Cf}{E:St->XK}{own:Bool}{e iter tg:Expr}{body:List Stmt}{fb:Fs}{fi:Fi}{fc:Fe}{t:Tg}{pos:Pos}
theorem zj7{α:Type}{l:List α}{a:α}(h:i<n):(l.set i a).drop n=l.drop n:=by
 refine ybn fun k=>?_
 rw[ybz,ybz,yaJ (by omega)]
def zsQ(I:i<n)(U:X.N.Nodup)(hi:X.N[i]?=some x)(J:Loc X.env.scope x)(hf:X.fn x=true\/X.env.scope.names.lookup x=some .local):PG X (.Name x pos) (tG cl n (.one i)):=by
 refine PG.imp (zlW U hi J hf) ?_;rintro v σ H Q ⟨B,w,ρ,S,d,a,rfl,R,h,b,q⟩;cases b;exact q _ (yaD ..) (zj7 I) (R.put h)
noncomputable def tGs(cl:Cf)(n:Nat)(is:List Nat):TGs:=fun vs σ H Q=>∃B w ρ S ds b,w.H=H/\Rel cl B σ w ρ S/\Shds cl w vs ds/\zfw is ds ρ=some b/\∀a,a.length=σ.length->a.drop n=σ.drop n->Rel cl B a w b S->Q a w.H
def zql:PGs X [] (tGs cl n []):=by
 intro pins s σ H vs us Q I r h;obtain⟨B,w,ρ,S,ds,b,rfl,R,hs,a,q⟩:=h
 cases hs with
 |nil=>
  cases a;exact zqN pins s σ w.H [] us Q I r ⟨rfl,q σ rfl rfl R⟩
 |cons _ _=>cases a
def znv(J:i<n)(hN:X.N.Nodup)(hi:X.N[i]?=some x)(U:Loc X.env.scope x)(hf:X.fn x=true\/X.env.scope.names.lookup x=some .local)(h2:PGs X es (tGs cl n is)):PGs X (.Name x pos::es) (tGs cl n (i::is)):=by
 intro pins s σ H vs us Q I r h;obtain⟨B,w,ρ,S,ds,b,rfl,R,hs,c,q⟩:=h;refine zn2 (zlW hN hi U hf) h2 rfl pins s σ w.H vs us Q I r ?_
 cases hs with
 |nil=>cases c|cons h t=>
  rename_i v d vs ds;exact⟨v,vs,rfl,B,w,_,S,ds,b,rfl,R.put h,t,c,fun a f e=>q a (f.trans (yaD ..)) (e.trans (zj7 J))⟩
def zsP(U:X.calm=true)(h:PGs X es (tGs cl n is))(J:(assignEach es X.env).length=is.length)(I:(assignEach es X.env).findIdx? (·.1)=none):PG X (.Tuple es k pos) (tG cl n (.tup is)):=by
 refine PG.imp (ztr U h J I) ?_;rintro v σ H Q ⟨B,w,ρ,S,d,b,rfl,R,h,c,q⟩
 cases h with
 |tup e k r=>
  have g:∀(is:List Nat) (ds:List D) (ρ b:Env),zfw is ds ρ=some b->ds.length=is.length:=by
   intro is
   induction is with
   |nil=>intro ds ρ b h;cases ds with
    |nil=>rfl|cons _ _=>cases h
   |cons i is f=>intro ds ρ b h;cases ds with
    |nil=>cases h|cons d ds=>rw[yan,yan,f ds _ _ h]
  rename_i a xs ds;refine⟨a,xs,rfl,SqT.of e,by rw[r.length];exact g is ds ρ b c,B,w,ρ,S,ds,b,rfl,R,r,c,q⟩
 |_=>cases c
theorem zsC(U:PassesOwn (model X.prog X.w) X.A X.env X.xe)(hc:X.calm=true)(hi:PI X tg iter (tI cl E fi))(hg:PG X tg (tG cl n t))(I:PSs X body (tS cl E own fb))(hs:∀x,foldedSetIterable iter X.env x=pure x):PS X (.For tg iter body [] pos) (tS cl E own (zfT t fi fb)):=by
 refine PS.imp (zti U hc hi hg I hs) ?_;rintro G σ H ⟨B,w,ρ,S,rfl,R,q⟩;refine⟨B,w,ρ,S,rfl,R,?_⟩;unfold zfT at q
 cases hf:fi ρ S with
 |bad=>rwa[hf]at q|exc c S1=>rw[hf]at q;exact fun w' M N=>q σ w' M N|ok ds S1=>
  rw[hf]at q;intro J v L F0 C;dsimp only at q;refine⟨fun i m h H'=>m=ds.length-i/\i<=ds.length/\∃b a S2,b.H=H'/\Fut v b/\Rel cl B h b a S2/\zhE cl E own B b G (zel t fb (ds.drop i) a S2),⟨ds.length,by simp,yaY _,v,ρ,S1,rfl,Fut.refl _,L,by rw[List.drop_zero];exact zhE.up F0 q⟩,?_⟩;rintro i m u H1 ⟨rfl,hi,b,a,S2,rfl,F1,F,k⟩
  by_cases f:i<ds.length
  ·obtain⟨d,hd⟩:∃d,ds[i]?=some d:=⟨ds[i],yab f⟩
   have z:ds.drop i=d::ds.drop (i+1):=by
    rw[yck f];rw[yab f]at hd;cases hd;rfl
   rw[z]at k;unfold zel at k
   cases hp1:t.put a d with
   |none=>rw[hp1]at k;exact k.elim|some o=>
    rw[hp1]at k;dsimp only at k;refine .inr ⟨C.go b F1 i f,fun h H'=>i+1<=ds.length/\∃b a S2,b.H=H'/\Fut v b/\Rel cl B h b a S2/\zhE cl E own B b G (zel t fb (ds.drop (i+1)) a S2),fun h H' h'=>⟨ds.length-(i+1),by omega,rfl,h'.1,h'.2⟩,fun x H' y=>?_⟩;obtain⟨D,rfl,g2,s2⟩:=C.yld b F1 i d x H' hd y;refine⟨B,D,a,S2,d,o,rfl,F.grow g2,s2,hp1,fun K _ _ R2=>⟨B,D,o,S2,rfl,R2,?_⟩⟩;have j:=zhE.up g2.fut k
    cases I:fb o S2 with
    |bad=>rwa[I]at j|rt d p=>rwa[I]at j|ex c g p=>rwa[I]at j|bk g p=>rw[I]at j;exact fun l r s F3=>j l r s F3|nx g p=>rw[I]at j;exact fun l r s F3=>⟨f,r,g,p,rfl,F1.trans (g2.fut.trans F3),s,zhE.up F3 j⟩|ct g p=>rw[I]at j;exact fun l r s F3=>⟨f,r,g,p,rfl,F1.trans (g2.fut.trans F3),s,zhE.up F3 j⟩
  ·have e:i=ds.length:=by omega
   subst e;rw[List.drop_length]at k;exact .inl ⟨C.stop b F1,k u b F (Fut.refl _)⟩
def zjv(n:Nat)(c:Fe)(body:Fs):Fs:=zdO c body n
def znq(n:Nat)(J:PassesOwn (model X.prog X.w) X.A X.env X.xe)(U:PT X c (tTr cl E fc))(I:PSs X body (tS cl E own fb)):PS X (.While c body [] pos) (tS cl E own (zjv n fc fb)):=by
 refine PS.imp (znS J U I) ?_;rintro u σ H ⟨B,w,ρ,S,rfl,R,q⟩;refine⟨fun m i H'=>∃g a S2,g.H=H'/\Fut w g/\Rel cl B i g a S2/\zhE cl E own B g u (zdO fc fb m a S2),⟨n,w,ρ,S,rfl,Fut.refl _,R,q⟩,?_⟩;rintro m o H1 ⟨g,a,S1,rfl,F1,v,e⟩
 cases m with
 |zero=>exact e.elim|succ m=>
  unfold zdO at e;refine⟨B,g,a,S1,rfl,v,?_⟩
  cases s:fc a S1 with
  |bad=>rwa[s]at e|exc c S2=>rw[s]at e;exact fun w' x y=>e o w' x y|ok d S2=>
   rw[s]at e;dsimp only at e ⊢
   cases I:isB d with
   |none=>rw[I]at e;exact e.elim|some b=>
    rw[I]at e;intro t R2 F2
    cases b with
    |false=>exact zoE (e o t R2 F2)|true=>
     refine zoD ⟨fun i H'=>∃g a S2,g.H=H'/\Fut w g/\Rel cl B i g a S2/\zhE cl E own B g u (zdO fc fb m a S2),fun i H' h'=>⟨m,ybY _,h'⟩,B,t,a,S2,rfl,R2,?_⟩;have h:=zhE.up F2 e;dsimp only at h
     cases k:fb a S2 with
     |bad=>rwa[k]at h|rt d l=>rwa[k]at h|ex c f l=>rwa[k]at h|bk f l=>rw[k]at h;exact fun j p r F3=>h j p r F3|nx f l=>rw[k]at h;exact fun j p r F3=>⟨p,f,l,rfl,F1.trans (F2.trans F3),r,zhE.up F3 h⟩|ct f l=>rw[k]at h;exact fun j p r F3=>⟨p,f,l,rfl,F1.trans (F2.trans F3),r,zhE.up F3 h⟩
def zj6(f:Fe):Fi:=fun ρ S=>(f ρ S).bind fun d S1=>match d with|.lst l=>.ok l S1|_=>.bad
def zi5(f:Fe):Fi:=fun ρ S=>(f ρ S).bind fun d S1=>match d with|.tup l=>.ok l S1|_=>.bad
theorem zlo(he:PE X e (tE cl E fc)):PI X tg e (tI cl E (zj6 fc)):=by
 refine PI.imp (zlV he) ?_;rintro σ H Q ⟨B,w,ρ,S,rfl,R,q⟩;refine⟨B,w,ρ,S,rfl,R,?_⟩;unfold zj6 at q
 cases hf:fc ρ S with
 |bad=>rwa[hf]at q|exc c S1=>rwa[hf]at q|ok d S1=>
  rw[hf]at q;intro v w' l m h';dsimp only[Out.bind]at q
  cases h' with
  |lst e k r=>
   rename_i a xs ds;refine⟨a,rfl,⟨xs,SqL.of e⟩,q _ w' l m ?_⟩;have n:=r.length;refine⟨fun b F1 i hi=>⟨xs,xs[i]'(by omega),SqL.of (F1.keep _ _ e k).1,yab (by omega)⟩,fun b F1=>⟨xs,SqL.of (F1.keep _ _ e k).1,by omega⟩,fun b F1 i d x H1 hd y=>?_⟩;obtain⟨rfl,g⟩:=y;have h:=g xs (SqL.of (F1.keep _ _ e k).1);obtain⟨d',f,j⟩:=r.get h;rw[hd]at f;cases f;exact⟨b,rfl,Grow.refl _,j.up F1⟩
  |_=>exact q.elim
def zsM(he:PE X e (tE cl E fc)):PI X tg e (tI cl E (zi5 fc)):=by
 refine PI.imp (ztq he) ?_;rintro σ H Q ⟨B,w,ρ,S,rfl,R,q⟩;refine⟨B,w,ρ,S,rfl,R,?_⟩;unfold zi5 at q
 cases hf:fc ρ S with
 |bad=>rwa[hf]at q|exc c S1=>rwa[hf]at q|ok d S1=>
  rw[hf]at q;intro v w' l m h';dsimp only[Out.bind]at q
  cases h' with
  |tup e k r=>
   rename_i a xs ds;refine⟨a,rfl,⟨xs,SqT.of e⟩,q _ w' l m ?_⟩;have n:=r.length;refine⟨fun b F1 i hi=>⟨xs,xs[i]'(by omega),SqT.of (F1.keep _ _ e k).1,yab (by omega)⟩,fun b F1=>⟨xs,SqT.of (F1.keep _ _ e k).1,by omega⟩,fun b F1 i d x H1 hd y=>?_⟩;obtain⟨rfl,g⟩:=y;have h:=g xs (SqT.of (F1.keep _ _ e k).1);obtain⟨d',f,j⟩:=r.get h;rw[hd]at f;cases f;exact⟨b,rfl,Grow.refl _,j.up F1⟩
  |_=>exact q.elim
noncomputable def zaB(lo hi:Int):List D:=(List.range (hi-lo).toNat).map fun(i:Nat)=>.int (lo+i)
def zeL(f:Fe):Fi:=fun ρ S=>(zao [f] ρ S).bind fun ds S1=>match ds with|[.int j]=>if -1000000<=j/\j<=1000000 then .ok (zaB 0 j) S1 else .bad|_=>.bad
def zux{w:Wd}{lo hi:Int}{n:Nat}(I:n=(hi-lo).toNat):ItOk cl w (Itr lo n) (zaB lo hi):=by
 subst I
 have c:(zaB lo hi).length=(hi-lo).toNat:=by unfold zaB;rw[yad,ybu]
 refine⟨fun a F1 i h=>by rw[c]at h;exact h,fun a F1=>by rw[c];exact yai _,fun a F1 i d x H1 hd y=>?_⟩;obtain⟨rfl,rfl⟩:=y;unfold zaB at hd;rw[yao]at hd
 cases b:(List.range (hi-lo).toNat)[i]? with
 |none=>rw[b]at hd;cases hd|some j=>
  rw[b]at hd;have:=(yaj.mp b).2;rw[ydl]at this;subst this;cases hd;exact⟨a,rfl,Grow.refl _,.int _⟩
theorem zqj(I:Gl X "range")(hm:X.mg "range"=none)(J:PA X [e] (tAs cl E [fc]))(hs:starEach [e] X.env=[(false,eval e X.env)]):PI X tg (.Call (.Name "range" p) [e] [] pos) (tI cl E (zeL fc)):=by
 refine PI.imp (zlU I hm J hs) ?_;rintro σ H Q ⟨B,w,ρ,S,rfl,R,q⟩;refine⟨B,w,ρ,S,rfl,R,?_⟩;unfold zeL at q
 cases hf:zao [fc] ρ S with
 |bad=>rwa[hf]at q|exc c S1=>rwa[hf]at q|ok ds S1=>
  rw[hf]at q;intro vs w' d f h';dsimp only[Out.bind]at q;split at q
  ·rename_i b S' a;split at a
   ·rename_i j;split at a
    ·rename_i g;cases a
     cases h' with
     |cons h1 h2=>
      cases h1;cases h2;exact⟨j,rfl,by omega,by omega,q _ w' d f (zux (by omega))⟩
    ·cases a
   ·cases a
  ·rename_i a;split at a<;>first|(split at a<;>cases a)|cases a
  ·exact q.elim
end
noncomputable def zuR(ρ:Env)(i:Nat):Option (Bool×D):=match ρ[i]? with|some (~~~d)=>(~~~d)|_=>none
def zcp(n:Nat)(caps:List Nat)(ρ:Env):Env:=List.replicate n none++caps.map (zuR ρ)
def zhs:Fe:=zaf (.bl true)
def zcS(tg:Tg)(c elt:Fe)(ρ0:Env):List D->Sto->Out (List D)
 |[],S=>.ok [] S|d::ds,S=>match tg.put ρ0 d with
  |none=>.bad|some a=>(c a S).bind fun b S1=>match isB b with
   |some true=>(elt a S1).bind fun y S2=>(zcS tg c elt ρ0 ds S2).bind fun ys e=>.ok (y::ys) e|some false=>zcS tg c elt ρ0 ds S1|none=>.bad
def zes(n:Nat)(tg:Tg)(it:Fi)(c elt:Fe)(caps:List Nat):Fe:=fun ρ S=>(it ρ S).bind fun ds S1=>match zcS tg c elt (zcp n caps ρ) ds S1 with
 |.ok ys S2=>if small ys.length then .ok (.lst ys) S2 else .bad
 |_=>.bad
noncomputable abbrev noE:St->XK:=fun _ _ _ _=>False
section
variable{cl:Cf}
theorem zmD{caps:List (Str×Nat)}(R:Rel cl B σ w ρ S)(W1:World' cl B1 U S1)(F1:Fut w U){I:St}(J:I.length=n+caps.length)(hc:I.drop n=caps.map fun p=>(σ[p.2]?).join):
  Rel cl B1 I U (zcp n (caps.map (·.2)) ρ) S1 where
 wd:=W1
 len:=by unfold zcp;rw[J,yak,yaM,yad,yad]
 slots:=fun i o d h=>by
  unfold zcp at h
  by_cases hi:i<n
  ·rw[yaZ (by rw[yaM];exact hi),ybW]at h
   split at h<;>cases h
  ·rw[yaG (by rw[yaM];omega),yaM,ybb,yao]at h
   cases a:caps[i-n]? with
   |none=>rw[a]at h;cases h|some p=>
    rw[a]at h;have h':zuR ρ p.2=some (o,d):=Option.some.inj h;unfold zuR at h';split at h'
    ·rename_i d' hd;cases h';obtain⟨v,e,x⟩:=R.slots p.2 false d hd;refine⟨v,?_,Shd.up F1 x⟩;have:=congrArg (fun l=>l[i-n]?) hc;rw[ybz,yao,a]at this;rw[show n+(i-n)=i by omega]at this;rw[this];show some ((σ[p.2]?).join)=_;rw[e];rfl
    ·cases h'
end
section
variable{X:Cx}{cl:Cf}{E:St->XK}
theorem zpJ(q:tN cl E (zes n t fi fc fe (caps.map (·.2))) σ H Q):
  zjo (tI cl E fi) (tG cl n t) (tTr cl noE fc) (tE cl noE fe) n caps σ H Q:=by
 obtain⟨B,w,ρ,S,rfl,R,q⟩:=q;refine⟨B,w,ρ,S,rfl,R,?_⟩;unfold zes at q
 cases hf:fi ρ S with
 |bad=>rwa[hf]at q|exc c S1=>rwa[hf]at q|ok ds S1=>
  rw[hf]at q;dsimp only[Out.bind]at q;intro J k T F0 N
  cases l:zcS t fc fe (zcp n (caps.map (·.2)) ρ) ds S1 with
  |bad=>rw[l]at q;exact q.elim|exc _ _=>rw[l]at q;exact q.elim|ok all Sf=>
   rw[l]at q;dsimp only at q
   cases K:small all.length with
   |false=>rw[K,if_neg (by decide)]at q;exact q.elim
   |true=>
    rw[K,if_pos rfl]at q;dsimp only at q;refine⟨fun i m ys z H'=>m=ds.length-i/\i<=ds.length/\z.length=n+caps.length/\z.drop n=(caps.map fun p=>(σ[p.2]?).join)/\∃j S2 es zcV,j.H=H'/\Fut k.inn j/\World' cl k.base j S2/\Shds cl j ys es/\zcS t fc fe (zcp n (caps.map (·.2)) ρ) (ds.drop i) S2=.ok zcV Sf/\es++zcV=all,⟨ds.length,by simp,yaY _,by simp[capσ],by simp[capσ],k.inn,S1,[],all,rfl,Fut.refl _,T.wd.enter,.nil,by rw[List.drop_zero];exact l,rfl⟩,?_⟩;rintro i m ys G H1 ⟨rfl,hi,r,u,j,S2,es,zcV,rfl,F1,O,sh,a,f⟩;refine⟨?_,?_⟩
    ·rw[sh.length];refine yal ?_ (zbp K);rw[<-f,yak];omega
    have o:Fut k j:=(zda k).trans F1
    by_cases g:i<ds.length
    ·obtain⟨d,s⟩:∃d,ds[i]?=some d:=⟨ds[i],yab g⟩
     have L:ds.drop i=d::ds.drop (i+1):=by
      rw[yck g];rw[yab g]at s;cases s;rfl
     rw[L]at a;unfold zcS at a;refine .inr ⟨N.go j o i g,fun x H' y=>?_⟩;obtain⟨I,rfl,g2,s2⟩:=N.yld j o i d x H' s y;have R1:Rel cl k.base G I (zcp n (caps.map (·.2)) ρ) S2:=zmD T (O.grow g2) (o.trans g2.fut) r u
     cases A:t.put (zcp n (caps.map (·.2)) ρ) d with
     |none=>rw[A]at a;cases a|some h=>
      rw[A]at a;dsimp only at a;refine⟨k.base,I,_,S2,d,h,rfl,R1,s2,A,fun Z D C R2=>⟨k.base,I,h,S2,rfl,R2,?_⟩⟩
      cases M:fc h S2 with
      |bad=>rw[M]at a;cases a|exc _ _=>rw[M]at a;cases a|ok b P=>
       rw[M]at a;dsimp only[Out.bind]at a ⊢
       cases V:isB b with
       |none=>rw[V]at a;cases a|some bb=>
        rw[V]at a;intro U Y F3
        cases bb with
        |false=>exact zoE ⟨ds.length-(i+1),by omega,rfl,g,D.trans r,C.trans u,U,P,es,zcV,rfl,F1.trans (g2.fut.trans F3),Y.wd,sh.up (g2.fut.trans F3),a,f⟩
        |true=>
         refine zoD ⟨k.base,U,h,P,rfl,Y,?_⟩;dsimp only at a
         cases he:fe h P with
         |bad=>rw[he]at a;cases a|exc _ _=>rw[he]at a;cases a|ok yv X=>
          rw[he]at a;dsimp only at a
          cases F:zcS t fc fe (zcp n (caps.map (·.2)) ρ) (ds.drop (i+1)) X with
          |bad=>rw[F]at a;cases a|exc _ _=>rw[F]at a;cases a|ok zs S5=>
           rw[F]at a;cases a;intro v w4 R4 F4 h4;have W:=g2.fut.trans (F3.trans F4);exact⟨ds.length-(i+1),by omega,rfl,g,D.trans r,C.trans u,w4,X,es++[yv],zs,rfl,F1.trans W,R4.wd,(sh.up W).append (.cons h4 .nil),F,by rw[<-f,ybP];rfl⟩
    ·have e:i=ds.length:=by omega
     subst e;rw[List.drop_length]at a;cases a;rw[yaS]at f;subst f;refine .inl ⟨N.stop j o,fun p A=>?_⟩;obtain⟨Rb,Fb⟩:=T.leave O F1;exact q p (.lst ys) (k.back j) Rb (F0.trans Fb) A (.lst (sh.up (zei O)))
end
end S2
namespace L2
open PySem PySem.Spec PyProof.Rows
def CXE(P:Program)(w:World):CXT:=fun outer H s E e s'=>∃(a:Addr) (cls a0:Value) (H':Hp) (B:Heap),e=.ref a/\Heap.FlyingW B outer a cls a0 s'.heap ∧
 (∀b o,s'.heap.get? b=some o->H' b≠none->B.get? b=some o)/\(∀b o,s.heap.get? b=some o->H b=none->b ∉ frs outer->B.get? b=some o) ∧
 (∀b o,s.heap.get? b=some o->b ∉ frs outer->∃o',B.get? b=some o') ∧
 s'.os=s.os/\AllBare s'.gens/\Un (frs outer) [] H H' s.heap s'.heap/\HOk P w H' s'.heap/\E cls none H'
def zb8.has(x:zb8 P w H h a o):∃ob,h.get? a=some ob:=by
 cases o with
 |lst xs=>obtain⟨_,_,_,_,e⟩:=x;exact⟨_,e⟩|tup xs=>obtain⟨_,_,_,ob,e,_⟩:=x;exact⟨_,e⟩|dK b=>obtain⟨_,_,_,_,o,_,_,e,_⟩:=x;exact⟨_,e⟩|dT b=>obtain⟨_,_,_,_,o,_,_,e,_⟩:=x;exact⟨_,e⟩|set S n=>obtain⟨o,_,_,_,e,_⟩:=x;exact⟨_,e⟩|ins C dx fs=>obtain⟨_,_,_,e,_⟩:=x;exact⟨_,e⟩|own y=>exact x|xd fs=>obtain⟨_,⟨_,_,_,e,_⟩,_⟩:=x;exact⟨_,e⟩|rng lo hi=>obtain⟨_,_,_,e⟩:=x;exact⟨_,e⟩|frz ob u=>obtain⟨e,_⟩:=x;exact⟨_,e⟩|tbl ps=>exact⟨_,(show h.get? a=some _ from x)⟩|met f y=>exact⟨_,(show h.get? a=some _ from x)⟩|ext c=>obtain⟨_,e,_⟩:=x;exact e
def HOk.same(x:HOk P w H h)(k:∀b u,h.get? b=some u->H b≠none->h'.get? b=some u):HOk P w H h':=fun a o e=>
 (x a o e).stay (fun b u c q=>k b u q (c.elim (fun z=>by rw[z,e];exact yaC _) (fun z=>by rw[z];exact yaC _))) (fun _ q=>q) fun _ _ q=>q
section
variable{X:Cx}{pins:Z3}{σ:St}{H:Hp}{s:Shared}{M:Model}
def zoN(l:List Env):∀env∈l,∀b,env.frame=some b->b∈frs l:=fun env he b a=>ycz.mpr ⟨env,he,a⟩
def zkB(I:Inv X pins σ H s)(hx:X.ex=[])(hs:X.stack=X.env::X.outer)(hf:X.env.frame=some X.env.locals)(mk:Heap.MadeExcOf s.heap h' e cls vs)(q:E cls none H):
  wpAny M X.A (leaving X.env (.ref e)) (fun _ U=>CXE X.prog X.w X.outer X.H₀ X.s₀ E (.ref e) U) Er {s with heap:=h'}:=by
 have l:X.A.frames=some (X.env::X.outer):=by rw[<-hs];exact I.ok.frames
 have j:s.heap.FunFrames X.base (X.env::X.outer):=by rw[<-hs];exact I.stack
 refine wpAny_leaves_madeW (base:=PySem.W.hideAll s.heap (frs (X.env::X.outer))) l hf (fun b o z=>PySem.W.of_hideAll _ z) (PySem.W.funFrames_hide j (zoN _)) mk fun h2 t fl tup _ up=>?_
 have c:∀b o,s.heap.get? b=some o->b ∉ frs (X.env::X.outer)->(PySem.W.hideAll s.heap (frs (X.env::X.outer))).get? b=some o:=fun b o z n=>PySem.W.hideAll_get _ z n
 have sub:∀b,b∈frs (X.env::X.outer)->b=X.env.locals\/b∈X.fs:=fun b a=>by
  rw[<-hs]at a;exact yat.mp (I.stkSub b a)
 have h:∀b,b∈frs (X.env::X.outer)->H b=none:=fun b a=>by rw[<-hs]at a;exact I.stkFree b a
 have old:∀b o,X.s₀.heap.get? b=some o->b ∉ frs X.outer->b ∉ frs (X.env::X.outer):=fun b o z n a=>by
  rcases sub b a with r|r
  ·exact absurd (yam (yap z) I.ok.above) (by rw[r];exact ya6 _)
  ·exact n r
 have nx:∀b:Addr,b ∉ X.ex:=fun b z=>by rw[hx]at z;cases z
 have trk:∀b o,s.heap.get? b=some o->H b≠none->h2.get? b=some o:=fun b o z n=>fl.1 b o (c b o z fun a=>n (h b a))
 have g:HOk X.prog X.w H h2:=I.hok.same trk
 have f:∀b o,s.heap.get? b=some o->b∈frs X.stack->∃m,h2.get? b=some {o with slots:=m}:=fun b o z a=>by
  obtain⟨_,o',d,hd⟩:=I.stack.mem a;rw[z]at d;cases d;exact up b o (mk.keeps b o z) hd
 have i:Un (frs X.stack) [] H H s.heap h2:=⟨fun b o z n a _=>fl.1 b o (c b o z (by rw[<-hs];exact a)),fun b o z n a _=>f b o z a,fun b o z n _=>n,
  fun b o z _=>by
   by_cases a:b∈frs X.stack
   ·obtain⟨m,r⟩:=f b o z a;exact⟨_,r⟩
   ·exact⟨o,fl.1 b o (c b o z (by rw[<-hs];exact a))⟩,
  fun _ _ z=>z,fun _ _ _ z=>z,fun _ ps z=>⟨#[],by rw[z,Array.append_empty]⟩⟩
 have J:=I.call (g':=s.gens) (t':=s.toks) (d':=s.drawn) (ch:=[]) i g I.bare (fun b z=>absurd z (by simp));refine⟨e,cls,.ref t,H,_,rfl,fl,fun b o z n=>?_,fun b o z n a=>?_,fun b o z a=>?_,J.os,J.bare,?_,J.hok,q⟩
 ·cases k:H b with
  |none=>exact absurd k n|some u=>
   obtain⟨o',d⟩:=(I.hok b u k).has;have:=trk b o' d n;rw[show h2.get? b=some o from z]at this;cases this;exact c b o d fun a=>n (h b a)
 ·exact c b o (I.base.keep b o z n a (nx b)) (old b o z a)
 ·obtain⟨o',d⟩:=I.base.there b o z (nx b);exact⟨o',c b o' d (old b o z a)⟩
 ·have:=J.base;rwa[hx]at this
def zow(I:Inv X pins σ H s)(hx:X.ex=[])(hs:X.stack=X.env::X.outer)(hf:X.env.frame=some X.env.locals)(q:CXE X.prog X.w X.stack H s E e s'):
  wpAny M X.A (leaving X.env e) (fun _ U=>CXE X.prog X.w X.outer X.H₀ X.s₀ E e U) Er s':=by
 have m:X.A.frames=some (X.env::X.outer):=by rw[<-hs];exact I.ok.frames
 obtain⟨a,cls,a0,H',B,rfl,fl,c1,v,t,os,bare,un,hok,q⟩:=q
 have p:Heap.FlyingW B (X.env::X.outer) a cls a0 s'.heap:=by rw[<-hs];exact fl
 refine wpAny_leaves_onW m hf p fun h2 d up=>?_
 have sub:∀b,b∈frs X.stack->b=X.env.locals\/b∈X.fs:=fun b c=>yat.mp (I.stkSub b c)
 have old:∀b o,X.s₀.heap.get? b=some o->b ∉ frs X.outer->b ∉ frs X.stack:=fun b o z n c=>by
  rcases sub b c with r|r
  ·exact absurd (yam (yap z) I.ok.above) (by rw[r];exact ya6 _)
  ·exact n r
 have nx:∀b:Addr,b ∉ X.ex:=fun b z=>by rw[hx]at z;cases z
 have trk:∀b o,s'.heap.get? b=some o->H' b≠none->h2.get? b=some o:=fun b o z n=>d.1 b o (c1 b o z n)
 have h:HOk X.prog X.w H' h2:=hok.same trk
 have g:∀b o,s.heap.get? b=some o->H b=none->b∈frs X.stack->∃i,h2.get? b=some {o with slots:=i}:=fun b o z n c=>by
  obtain⟨_,o',f,hd⟩:=I.stack.mem c;rw[z]at f;cases f;obtain⟨i,r⟩:=un.slot b o z n c (by simp);obtain⟨l,r'⟩:=up b ({o with slots:=i}:Obj) r hd;exact⟨l,r'⟩
 have j:Un (frs X.stack) [] H H' s.heap h2:=⟨fun b o z n c _=>d.1 b o (v b o z n c),fun b o z n c _=>g b o z n c,un.free,
  fun b o z _=>by
   by_cases c:b∈frs X.stack
   ·obtain⟨i,r⟩:=g b o z (I.stkFree b c) c;exact⟨_,r⟩
   ·obtain⟨o',r⟩:=t b o z c
    exact⟨o',d.1 b o' r⟩,
  un.tups,un.frzs,un.tbls⟩
 have J:=I.call (g':=s'.gens) (t':=s'.toks) (d':=s'.drawn) (ch:=[]) j h bare (fun b z=>absurd z (by simp));refine⟨a,cls,a0,H',B,rfl,d,fun b o z n=>?_,fun b o z n c=>?_,fun b o z c=>?_,os.trans I.os,bare,?_,J.hok,q⟩
 ·cases k:H' b with
  |none=>exact absurd k n|some u=>
   obtain⟨o',f⟩:=(hok b u k).has;have:=trk b o' f n;rw[show h2.get? b=some o from z]at this;cases this;exact c1 b o f n
 ·exact v b o (I.base.keep b o z n c (nx b)) (I.base.free b o z n (nx b)) (old b o z c)
 ·obtain⟨o',f⟩:=I.base.there b o z (nx b);exact t b o' f (old b o z c)
 ·have:=J.base;rwa[hx]at this
end
def ztE{P:Program}{K:PySem.W.Frag}:
  zu3 (CXE P w) (zoX (CXE P w) P w K mg base N qual scope f cd A outer s H E) E:=fun pins σ H1 s1 e s' I q=>
 zow (X:=zoX (CXE P w) P w K mg base N qual scope f cd A outer s H E) I rfl rfl rfl q
def zi3{K:PySem.W.Frag}{h:Heap}(k:K.In h)(z:PySem.W.excIn K C J I=true):
  ∃bm N nm U bs hd sn sub ab col dd c0 c1 c2 c3 c5 mN,h.get? C=some (excClassObj nm U C N bs bm hd sn sub ab col dd c0 c1 c2 c3 c5 I)/\h.Ns N mN/\mN "__init__"=none/\OwnTail h J bm:=by
 unfold PySem.W.excIn at z;split at z
 case h_2=>cases z
 case h_1 dd cd sl ho=>
  split at z
  case h_2=>cases z
  case h_1 D bm c0 c1 c2 c3 n c5 e1 e2=>
   simp only[yac,yb1,yaQ]at z;obtain⟨⟨⟨⟨⟨i,g⟩,d⟩,f⟩,c⟩,e⟩:=z;subst i g
   have a:sl=#[c0,c1,c2,c3,some (.builtin n),c5]:=by
    cases sl with
    |mk l=>exact congrArg Array.mk e2
   have b:cd={cd with mro:=.ref D::bm,hasDel:=false}:=by
    cases cd;simp only at e1 d;simp only[e1,d]
   rw[a,b]at ho;exact⟨bm,cd.ns,cd.name,_,cd.bases,_,_,_,_,_,dd,c0,c1,c2,c3,c5,_,k _ _ ho,.of_isNs (PySem.W.isNs_of_in k c),PySem.W.nsMap_none_of_in k c e,PySem.W.tail_of_in k f⟩
noncomputable def zu2(X:Cx)(E:XK):Prop:=∀(C:Addr) (pins:Z3) (σ:St) (H:Hp) (s:Shared) (e:Addr) (h':Heap) (vs:List Value),Inv X pins σ H s->Heap.MadeExcOf s.heap h' e (.ref C) vs->E (.ref C) none H->X.xe (.ref e) {s with heap:=h'}
def zlH{P:Program}{K:PySem.W.Frag}:
  zu2 (zoX (CXE P w) P w K mg base N qual scope f cd A outer s H E) E:=fun C pins σ H1 s1 e h' vs I mk q=>
 zkB (X:=zoX (CXE P w) P w K mg base N qual scope f cd A outer s H E) I rfl rfl rfl mk q
noncomputable def XP(X:Cx)(pins:Z3)(σ:St)(E:XK)(e:Value)(s':Shared):Prop:=∃H1 s1,Inv X pins σ H1 s1/\CXE X.prog X.w X.stack H1 s1 E e s'
def zhm{M:Model}{A:Around}{E:Z5}{K:PySem.W.Frag}{s:Shared}{C D e:Addr}{I:Obj}{bC J:List Value}{iC iD:String}{Q:Bool->Shared->Prop}(k:K.In s.heap)(zC:PySem.W.excIn K C bC iC=true)(U:PySem.W.excIn K D J iD=true)
  (he:s.heap.get? e=some I) (hc:I.cls=.ref C) (hb:J.contains (.type "BaseException")=true) (up:∃cd d cl sl,K.lookup C=some ⟨cl,d,.cls cd,sl⟩/\cd.mro.contains (.ref D)=true) (q:Q true s):wpAny M A (excMatches (.ref e) (.ref D)) Q E s:=by
 obtain⟨bm,N,nm,G,bs,hd,sn,sub,ab,col,dd,X,c1,V,T,S,mN,n,P,O,L⟩:=zi3 k zC;obtain⟨j,Y,v,r,B,y,p,l,F,o,z,d0,d1,d2,d3,d5,w,m,p2,H,u⟩:=zi3 k U;obtain⟨cd,d,cl,sl,x,ct⟩:=up;have a:=k _ _ x;rw[n]at a;have b:=congrArg Obj.data (Option.some.inj a)
 have c:(Value.ref C::bm).contains (.ref D)=true:=by
  injection b with h
  rwa[<-h]at ct
 have i:(Value.ref D::j).contains (.type "BaseException")=true:=by rw[ycD,u.hasType hb,Bool.or_true]
 have f:=tc_notTuple;obtain⟨h,g,R,t,os⟩:=s;unfold excMatches
 repeat (first|(with_reducible refine ybF he ?_;rw[hc])|with_reducible refine ybF m ?_|(with_reducible refine wpAny_isSubtype_exc m ?_;rw[i])|(with_reducible refine wpAny_isSubtype_exc n ?_;rw[c])|wp_step)
 exact q
section
variable{X:Cx}{pins:Z3}{σ:St}{H:Hp}{s:Shared}
def zru(I:Inv X pins σ H s)(hN:X.N.Nodup)(hi:X.N[i]?=some x)(U:X.env.scope.names.lookup x=some .local)(J:∃v,σ[i]?=some (some v))
  (h:∀s',Inv X pins (σ.set i none) H s'->Q () s'):wpAny M A (unbindName X.env x) Q E s:=by
 obtain⟨m,S,B⟩:=id I.loc
 have g:(X.env.scope.kind==.class||(X.env.scope.kind==.module&&X.env.locals != X.env.globals))=false:=by rw[I.ok.kind];rfl
 obtain⟨v,J⟩:=J;obtain⟨u,r,O⟩:=B i x v hi J (.inl U)
 have hm:m x=some u:=by
  rcases O with⟨_,z⟩|⟨z,_⟩
  ·exact z
  ·have z:X.env.scope.names.lookup x=some .cell\/X.env.scope.names.lookup x=some .free:=z;rw[U]at z
   rcases z with z|z<;>cases z
 refine wpAny_unbindName_local U S hm g fun h' V l hs=>h _ ?_
 have far:∀b o,X.s₀.heap.get? b=some o->b≠X.env.locals:=fun b o z=>yaA (yam (yap z) I.ok.above)
 refine⟨I.ok,I.os,I.bare,⟨?_,?_,I.base.free,?_,I.base.tups,I.base.frzs,I.base.tbls⟩,⟨_,l,?_⟩,?_,I.free,I.freeC,?_,?_,by simpa using I.len⟩
 ·exact fun b o z n t f=>(hs.2 b (far b o z)).trans (I.base.keep b o z n t f)
 ·exact fun b o z n t f=>let ⟨G,a⟩:=I.base.slot b o z n t f;⟨G,(hs.2 b (far b o z)).trans a⟩
 ·exact fun b o z f=>let ⟨o',a⟩:=I.base.there b o z f;⟨o',(hs.2 b (far b o z)).trans a⟩
 ·intro j y w D k T
  have C:j≠i:=fun z=>by
   subst z;have P:j<σ.length:=(yaj.mp J).1;rw[yaw P]at k;cases k
  rw[yaJ (Ne.symm C)]at k;obtain⟨F,r1,q⟩:=B j y w D k T;refine⟨F,r1,?_⟩
  rcases q with⟨k1,z⟩|⟨k1,c,z,a⟩
  ·have K:y≠x:=fun e=>C (zhi hN D (e ▸ hi))
   exact .inl ⟨k1,by simp[K,z]⟩
  ·exact .inr ⟨k1,c,z,a.sameBut hs (I.cne y c z)⟩
 ·exact fun y c z=>let ⟨w,a⟩:=I.cell y c z;⟨w,a.sameBut hs (I.cne y c z)⟩
 ·exact fun p R=>let ⟨z,n,ne,L,d⟩:=I.pin p R;⟨(hs.2 p.1 ne).trans z,n,ne,L,d⟩
 ·exact I.hok.same fun b o z n=>(hs.2 b fun e=>n (by rw[e];exact I.free)).trans z
def zhq(I:Inv X pins σ H s)(U:X.N.Nodup)(hi:X.N[i]?=some x)(J:X.env.scope.names.lookup x=some .local)
  (h:∀s',Inv X pins (σ.set i none) H s'->Q () s'):wpAny M A (do bindName X.env x .none;unbindBehindTheSuite X.env x pos) Q E s:=by
 refine yaa (wpAny_bindName (zdt (v:=.non) I U hi (.inl J) rfl (fun s2 c=>?_) (.inr J)));unfold unbindBehindTheSuite;refine wpAny_onRaise ?_
 have a:i<σ.length:=by rw[I.len];exact(yaj.mp hi).1
 refine zru c U hi J ⟨.non,yaw a⟩ fun s3 b=>h s3 ?_
 rwa[ycw]at b
end
section
variable{X:Cx}{pins:Z3}{σ:St}{H H':Hp}{s s':Shared}{B h2:Heap}{a:Addr}{cls a0:Value}
noncomputable abbrev Cx.inH(X:Cx)(a:Addr):Cx:={X with A:=X.A.mark (some (.ref a)),calm:=false,xe:=fun _ _=>False}
theorem Inv.inH(I:Inv X pins σ H s)(a:Addr):Inv (X.inH a) pins σ H s:=
 ⟨⟨I.ok.mod,I.ok.kind,I.ok.glob,I.ok.blt,I.ok.above,I.ok.inj,I.ok.has,I.ok.cab,(fun z=>nomatch z),I.ok.frames,I.ok.stk,I.ok.exf,I.ok.bs,I.ok.bsz,I.ok.noex,I.ok.exfs,I.ok.funs,I.ok.frf⟩,I.os,I.bare,I.base,I.loc,I.cell,I.free,I.freeC,I.pin,I.hok,I.len⟩
def Inv.outH(J:X.Ok)(I:Inv (X.inH a) pins σ H s):Inv X pins σ H s:=⟨J,I.os,I.bare,I.base,I.loc,I.cell,I.free,I.freeC,I.pin,I.hok,I.len⟩
def zg2(I:Inv X pins σ H s)(fl:Heap.FlyingW B X.stack a cls a0 h2)(up:s'.heap.UpToSlots h2)(c1:∀b o,s'.heap.get? b=some o->H' b≠none->B.get? b=some o)
  (c2:∀b o,s.heap.get? b=some o->H b=none->b ∉ frs X.stack->B.get? b=some o) (c3:∀b o,s.heap.get? b=some o->b ∉ frs X.stack->∃o',B.get? b=some o')
  (os:s'.os=s.os) (bare:AllBare s'.gens) (un:Un (frs X.stack) [] H H' s.heap s'.heap) (hok:HOk X.prog X.w H' s'.heap):
  Inv X pins σ H' {s' with heap:=h2}/\∃ob,ob.cls=cls/\h2.get? a=some ob/\H' a=none/\Inv X pins σ (upd H' a (.frz ob (.own a))) {s' with heap:=h2}:=by
 have trk:∀b o,s'.heap.get? b=some o->H' b≠none->h2.get? b=some o:=fun b o z n=>fl.1 b o (c1 b o z n)
 have f:HOk X.prog X.w H' h2:=hok.same trk
 have i:∀b o,s.heap.get? b=some o->H b=none->b∈frs X.stack->∃j,h2.get? b=some {o with slots:=j}:=fun b o z n d=>by
  obtain⟨_,o',g,hd⟩:=I.stack.mem d;rw[z]at g;cases g;obtain⟨j,r⟩:=un.slot b o z n d (by simp);obtain⟨l,r'⟩:=up b ({o with slots:=j}:Obj) r hd;exact⟨l,r'⟩
 have th:∀b o,s.heap.get? b=some o->b ∉ ([]:List Addr)->∃o',h2.get? b=some o':=fun b o z _=>by
  by_cases d:b∈frs X.stack
  ·obtain⟨j,r⟩:=i b o z (I.stkFree b d) d;exact⟨_,r⟩
  ·obtain⟨o',r⟩:=c3 b o z d;exact⟨o',fl.1 b o' r⟩
 have h:Un (frs X.stack) [] H H' s.heap h2:=⟨fun b o z n d _=>fl.1 b o (c2 b o z n d),fun b o z n d _=>i b o z n d,un.free,th,un.tups,un.frzs,un.tbls⟩;refine⟨I.call' (s':={s' with heap:=h2}) (ch:=[]) os h f bare (fun b z=>absurd z (by simp)),?_⟩;obtain⟨p,vs,he,x,hd,_⟩:=fl.first
 have t:H' a=none:=by
  cases k:H' a with
  |none=>rfl|some u=>
   obtain⟨o',g⟩:=(hok a u k).has;have:=c1 a o' g (by rw[k];exact yaC _);rw[fl.2.1]at this;cases this
 have ns:∀o,s.heap.get? a=some o->False:=fun o z=>by
  by_cases d:a∈frs X.stack
  ·obtain⟨_,o',g,m⟩:=fl.2.2.1.mem d;rw[he]at g;cases g;exact m _ hd
  ·obtain⟨o',r⟩:=c3 a o z d;rw[fl.2.1]at r;cases r
 have ne:∀{b:Addr}{u:HO},H' b=some u->b≠a:=fun {b u} z e=>by rw[e,t]at z;cases z
 refine⟨p,x,he,t,I.call' (s':={s' with heap:=h2}) (ch:=[]) os ⟨h.keep,h.slot,fun b o z n v=>?_,th,fun b xs z=>?_,fun b o u z=>?_,fun b ps z=>?_⟩ (fun b u z=>?_) bare (fun b z=>absurd z (by simp))⟩
 ·rw[zam (a:=a) (b:=b) fun e=>ns o (by rw[<-e];exact z)];exact un.free b o z n v
 ·have:=un.tups b xs z;rw[zam (ne this)];exact this
 ·have:=un.frzs b o u z;rw[zam (ne this)];exact this
 ·obtain⟨more,this⟩:=un.tbls b ps z;exact⟨more,by rw[zam (ne this)];exact this⟩
 ·by_cases e:b=a
  ·subst e;unfold upd at z;rw[if_pos rfl]at z;cases z;exact⟨he,p,he⟩
  ·rw[zam e]at z;exact(f b u z).stay (fun _ _ _ q=>q) (fun c q=>by rw[zam (ne q)];exact q) (fun c xs q=>by rw[zam (ne q)];exact q)
end
noncomputable def zo9(K:PySem.W.Frag)(C D:Addr):Prop:=(∃c b,PySem.W.excIn K C c b=true)/\∃cd d cl a,K.lookup C=some ⟨cl,d,.cls cd,a⟩/\cd.mro.contains (.ref D)=true
noncomputable def Ends.goes(D:Ends)(i:Nat):Ends:={nx:=fun σ H=>D.nx (σ.set i none) H,rt:=D.rt,bk:=fun σ H=>D.bk (σ.set i none) H,ct:=fun σ H=>D.ct (σ.set i none) H}
def zqg{X:Cx}{a:Addr}{pins:Z3}{D:Ends}{i:Nat}{n:Str}{pos:Pos}{f:Flow}{s:Shared}{E:Z5}(J:X.Ok)(hN:X.N.Nodup)(hi:X.N[i]?=some n)(U:X.env.scope.names.lookup n=some .local)(h:SP (X.inH a) pins (D.goes i) f s):
  wpAny (model X.prog X.w) X.A (do bindName X.env n .none;unbindBehindTheSuite X.env n pos) (fun _ s3=>SP X pins D f s3) E s:=by
 cases f with
 |next=>
  obtain⟨b,H',I,q⟩:=h;exact zhq (I.outH J) hN hi U fun s' c=>⟨_,H',c,q⟩
 |brk=>
  obtain⟨b,H',I,q⟩:=h;exact zhq (I.outH J) hN hi U fun s' c=>⟨_,H',c,q⟩
 |cont=>
  obtain⟨b,H',I,q⟩:=h;exact zhq (I.outH J) hN hi U fun s' c=>⟨_,H',c,q⟩
 |ret u=>
  obtain⟨v,b,H',I,r,q⟩:=h;exact zhq (I.outH J) hN hi U fun s' c=>⟨v,_,H',c,r,q⟩
end L2
namespace PySem.W
open PySem
structure ExcCls(K:Frag)(C:Addr):Prop where
 ga:findIn K (.ref C) "__getattribute__"=some (some (.builtin "BaseException.__getattribute__"))
 gt:findIn K (.ref C) "__getattr__"=some none
 cl:findIn K (.ref C) "__class__"=some (some (.builtin "object.__class__"))
 ob:subIn K (.ref C) (.type "object")=some true
 be:subIn K (.ref C) (.type "BaseException")=some true
 is:∃c d cd sl,K.lookup C=some ⟨c,d,.cls cd,sl⟩
section
variable{prog:Program}{w:World}{A:Around}{E:Z5}{h:Heap}{g:Array GenState}{d:Drawn}{t:Nat}{os:OsState}{a C:Addr}{o:Obj}{K:Frag}
theorem zht(k:K.In h)(X:ExcCls K C)(I:h.get? a=some o)(J:o.cls=.ref C)(U:R (.ok (.ret (.ref C))) ⟨h,g,d,t,os⟩):
  codeAny (model prog w) A (.call (.builtin "getset_descriptor.__get__") ⟨[.builtin "object.__class__",.ref a,.ref C],[]⟩) R ⟨h,g,d,t,os⟩:=by
 have b:Shared.TypeIs ⟨h,g,d,t,os⟩ (.builtin "object.__class__") "getset_descriptor":=ycT
 have c:subIn K (.ref C) (.type (".".intercalate ("object.__class__".cutAt '.').dropLast))=some true:=by rw[F.owner_object_class];exact X.ob
 refine codeAny_call_builtin F.slot_gs_get.plain F.entry_gs_get ?_;refine F.slot_gs_get.check _ _ _ _ _ _ _ _ b (F.args_gs_get _ _ _) ?_
 repeat (any_goals (first|assumption|(with_reducible refine ybF I ?_;rw[J])|with_reducible refine Looks.at (looks_subIn k c) ?_|wp_step))
 refine And.intro (Code.quiet_builtin _ (by decide +kernel)) ?_;refine codeAny_builtin F.entry_object_class ?_
 repeat (any_goals (first|assumption|(with_reducible refine ybF I ?_;rw[J])|wp_step))
def zgt(k:K.In h)(X:ExcCls K C)(I:h.get? a=some o)(J:o.cls=.ref C)(U:Q (.done (.ret (.ref C))) ⟨h,g,d,t,os⟩):
  wpAny (model prog w) A (Builtin.«object.__getattribute__» {pos:=[.ref a,.str "__class__" tk],kw:=[]}) Q E ⟨h,g,d,t,os⟩:=by
 have b:Shared.TypeIs ⟨h,g,d,t,os⟩ (.builtin "object.__class__") "getset_descriptor":=ycT;have known:=And.intro ycT (And.intro F.slot_gs_get.lookup F.slot_gs_set.lookup);obtain⟨f,e,c⟩:=known
 repeat (any_goals (first|assumption|(with_reducible refine ybF I ?_;rw[J])|with_reducible refine Looks.at (looks_findIn k X.cl) ?_|wp_step))
 refine zht k X I J ?_
 repeat any_goals first|assumption|wp_step
end
section
variable{prog:Program}{w:World}{A:Around}{E:Z5}{h:Heap}{g:Array GenState}{d:Drawn}{t:Nat}{os:OsState}{a C:Addr}{o:Obj}{K:Frag}
theorem zgu(k:K.In h)(X:ExcCls K C)(J:h.get? a=some o)(hc:o.cls=.ref C)(U:Q () ⟨h,g,d,t,os⟩):
  wpAny M A (checkBuiltinCall "BaseException.__getattribute__" ⟨[.ref a,I],[]⟩) Q E ⟨h,g,d,t,os⟩:=by
 have k1:builtinKind "BaseException.__getattribute__"=some .slot:=by decide +kernel
 have k2:splitId "BaseException.__getattribute__"=some ("BaseException","__getattribute__"):=by decide +kernel
 have fits:=F.args_bexc_ga (.ref a) I;simp only[checkBuiltinCall,k1,k2];refine yaa ?_;unfold isInstance
 repeat (first|(with_reducible refine ybF J ?_;rw[hc])|with_reducible refine Looks.at (looks_subIn k X.be) ?_|wp_step)
 exact U
def zgF(k:K.In h)(X:ExcCls K C)(I:h.get? a=some o)(J:o.cls=.ref C)(U:R (.ok (.ret (.ref C))) ⟨h,g,d,t,os⟩):
  codeAny (model prog w) A (.call (.builtin "BaseException.__getattribute__") ⟨[.ref a,.str "__class__" tk],[]⟩) R ⟨h,g,d,t,os⟩:=
 codeAny_call_builtin F.attr_ValueError.ga.plain F.entry_bexc_ga (zgu k X I J (zgt k X I J U))
theorem zim(k:K.In h)(X:ExcCls K C)(I:h.get? a=some o)(J:o.cls=.ref C)(U:Q (.ref C) ⟨h,g,d,t,os⟩):
  wpAny (model prog w) A (getAttrBy (.ref a) (.str "__class__" tk) fill expr) Q E ⟨h,g,d,t,os⟩:=by
 have f:=F.attr_ValueError.ga.bind (.ref a)
 have e:(expr&&onTheHeap (Value.builtin "BaseException.__getattribute__"))=false:=by cases expr<;>rfl
 have b:(Value.builtin "BaseException.__getattribute__"==Value.builtin "object.__getattribute__")=false:=by decide +kernel
 have c:(onTheHeap (Value.ref C)&&Value.builtin "BaseException.__getattribute__"==Value.builtin "object.__getattribute__")=false:=by rw[b];rfl
 repeat (any_goals (first|assumption|(with_reducible refine ybF I ?_;rw[J])|with_reducible refine Looks.at (looks_findIn k X.ga) ?_|with_reducible refine Looks.at (looks_findIn k X.gt) ?_|wp_step))
 refine zgF k X I J ?_
 repeat any_goals first|assumption|wp_step
def zgG(k:K.In h)(X:ExcCls K C)(I:h.get? a=some o)(J:o.cls=.ref C)(U:Q (some (.ref C)) ⟨h,g,d,t+1,os⟩):wpAny (model prog w) A (getAttr? (.ref a) "__class__") Q E ⟨h,g,d,t,os⟩:=by
 unfold getAttr? getAttrBy?
 repeat (any_goals (first|assumption|with_reducible apply zim k X I J|wp_step))
end
def zoA(X:ExcCls K C):KitX K (.ref a) (.ref C) (fun h=>∃o,h.get? a=some o/\o.cls=.ref C)where
 ty:=fun M h _ p=>by
  obtain⟨o,h1,h2⟩:=p;rw[<-h2];exact Looks.andThen (Looks.ld h1) .now
 it:=fun _ _ k _=>by
  obtain⟨c,d,cd,j,b⟩:=X.is;intro u m r s' kk q;unfold isType loadHead;exact yaa (wpAny_loadPart (kk _ _ (k _ _ b)) (yaf q))
 ne:=fun h tp dd l n j k f=>by
  obtain⟨c,d,cd,i,b⟩:=X.is;refine Bool.eq_false_iff.mpr fun q=>?_
  have e:C=tp:=Value.ref.inj (yb1.mp q);have z:=k _ _ b;rw[e,f]at z;cases z
 ca:=fun {_ _ _ _ _ s} k p q=>by
  obtain⟨o,h1,h2⟩:=p;obtain⟨h,g,d,t,os⟩:=s;exact zgG k X h1 h2 q
end PySem.W
namespace L2
open PySem PySem.Spec PyProof.Rows
def zkT:zfi X (.builtin "isinstance") (fun xs H Q=>∃(a C:Addr) (ob:Obj) (c:V) (J:Value) (k:Bool),xs=[.ref a,c]/\H a=some (.frz ob (.own a))/\ob.cls=.ref C/\PySem.W.ExcCls X.K C/\(∀u,zbD c u->u=J)/\PySem.W.kitOne X.K (.ref C) J=some k/\Q (.bl k) H):=by
 intro pins s σ H xs us Q I r h;obtain⟨a,C,ob,c,J,k,rfl,j,i,Z,g,e,q⟩:=h
 cases r with
 |cons r1 b=>
  cases b with
  |cons f d=>
   cases d;cases (show _=Value.ref a from r1);rw[g _ f];obtain⟨h1,_⟩:=(show zb8 X.prog X.w H s.heap a (.frz ob (.own a))from I.hok a _ j);exact ybe (PySem.W.zoA Z) I.kIn ⟨ob,h1,i⟩ e (fun z=>nomatch z) fun tk=>⟨.bl k,H,I.tok tk,rfl,q⟩
open PySem PySem.Spec PyProof.Rows PySem.SeqAt
theorem zjE(ns:List Int):∀j,j<=ns.length->preSum (fun i=>ns.getD i 0) j=(ns.take j).sum
 |0,_=>by rw[List.take_zero];rfl
 |j+1,h=>by
  have a:=zjE ns j (by omega);show preSum _ j+ns.getD j 0=_
  have e:ns.take (j+1)=ns.take j++[ns[j]]:=by rw[yds,yab (by omega)];rfl
  have b:ns.getD j 0=ns[j]:=by simp[List.getD,show j<ns.length by omega]
  rw[a,e,b,List.sum_append];simp
theorem zh7(ns:List Int)(h:∀n∈ns,0<=n/\n<=1000000):∀j,j<=ns.length->0<=preSum (fun i=>ns.getD i 0) j/\preSum (fun i=>ns.getD i 0) j<=1000000*(j:Int)
 |0,_=>⟨ycP _,ycP _⟩|j+1,b=>by
  have a:=zh7 ns h j (by omega)
  have e:ns.getD j 0=ns[j]:=by simp[List.getD,show j<ns.length by omega]
  have c:=h ns[j] (ya1 (by omega));show 0<=preSum _ j+ns.getD j 0/\preSum _ j+ns.getD j 0<=_;rw[e]
  push_cast
  omega
section
variable{X:Cx}
theorem zo1(J:X.calm=true):zfi X (.builtin "sum") (fun xs H Q=>∃(p:Addr) (ns:List Int),xs=[.ref p]/\SqL X.K H p (ns.map V.int)/\ns.length<=1000/\(∀n∈ns,0<=n/\n<=1000000)/\Q (.int ns.sum) H):=by
 intro pins s σ H xs us Q I r h;obtain⟨p,ns,rfl,D,d,y,q⟩:=h;obtain⟨u,rfl,B⟩:=zhN r;cases B;obtain⟨a,l,pl,G⟩:=I.list D;have k:=pl.isList
 have c:p<s.heap.objs.size:=by obtain⟨_,e,_⟩:=k;exact yap e
 have g:a.length=ns.length:=by have:=l.length;rw[yad]at this;exact this.symm
 refine call_sum_walk (ydp k ?_);refine⟨s.heap.objs.size,[s.heap.objs.size,p],[s.heap.objs.size],a.toArray.size,_,_,fun i=>ns.getD i 0,rfl,Walks.list (A:=X.A.in1) (I.ok.hd J) _ p (yaA c) a.toArray,⟨⟨_,yaq _ rfl,rfl,rfl⟩,k.push _⟩,fun b hm=>?_,fun i v F=>?_,fun j f=>?_,fun h' tk t' E=>?_⟩
 ·show b<(s.heap.push _).objs.size;rw[yba];simp only[yat,ya2,ycQ]at hm
  rcases hm with z|z
  ·rw[z];exact ybY _
  ·rw[z];exact ydr c
 ·have m:a[i]?=some v:=by simpa using F
  have hi:i<ns.length:=by rw[<-g];exact(yaj.mp m).1
  obtain⟨u,w,C⟩:=l.get (i:=i) (x:=.int ns[i]) (by rw[yao,yab hi];rfl);rw[m]at w;cases w;obtain⟨t,rfl⟩:=C;exact⟨t,by simp[List.getD,hi]⟩
 ·rw[yag,g]at f;have h1:=zh7 ns y (j+1) f
  have e:ns.getD j 0=ns[j]:=by simp[List.getD,f]
  have h2:=y ns[j] (ya1 f);refine⟨?_,?_⟩
  ·show InLong (ns.getD j 0);rw[e];exact⟨by omega,by omega⟩
  ·have:((j+1:Nat):Int)<=1000:=by omega
   exact⟨by omega,by omega⟩
 ·rw[yag,g,zjE ns ns.length (yai _),List.take_length];refine⟨.int _,H,I.kept (t':=tk) fun b o e=>?_,⟨t',rfl⟩,q⟩;exact E b o (fun hm=>by rw[yaB.mp hm]at e;exact ya6 _ (yap e)) (yae _ e)
end
end L2
namespace S2
open PySem PySem.Spec PyProof.Rows L2
mutual
noncomputable def D.py:D->PyData
 |.non=>.none|.bl b=>.bool b|.int i=>.int i|.str x=>.str x|.tup l=>.tuple (D.pys l)|.lst l=>.list (D.pys l)|.scr l=>.list (l.map PyData.int)|.dic _=>.none|.ref _=>.none|.exc _=>.none
noncomputable def D.pys:List D->List PyData
 |[]=>[]|d::l=>d.py::D.pys l
end
mutual
noncomputable def D.fit:Nat->D->Bool
 |_,.non=>true|_,.bl _=>true|_,.int _=>true|_,.str x=>PyData.strOk x|0,.tup _=>false|n+1,.tup l=>D.fits n l|0,.lst _=>false|n+1,.lst l=>D.fits n l|0,.scr _=>false|_+1,.scr _=>true|_,.dic _=>false|_,.ref _=>false|_,.exc _=>false
noncomputable def D.fits:Nat->List D->Bool
 |_,[]=>true|n,d::l=>d.fit n&&D.fits n l
end
theorem D.fits_iff:∀{l:List D},D.fits n l=true↔∀d∈l,d.fit n=true
 |[]=>by simp[D.fits]
 |d::l=>by simp[D.fits,D.fits_iff (l:=l)]
theorem zjV:∀(l:List Int),PyData.canLayAll0 (l.map PyData.int)=true/\PyData.depthAll (l.map PyData.int)=0
 |[]=>⟨rfl,rfl⟩|i::l=>by
  obtain⟨a,b⟩:=zjV l;exact⟨by simp[PyData.canLayAll0,PyData.canLay0,a],by simp[PyData.depthAll,PyData.depth,b]⟩
mutual
theorem D.lay:∀{n:Nat}{d:D},d.fit n=true->d.py.canLay0=true/\d.py.depth<=n
 |_,.non,_=>⟨rfl,yaY _⟩|_,.bl _,h=>⟨rfl,yaY _⟩|_,.int _,_=>⟨rfl,yaY _⟩|_,.str x,h=>⟨by simpa[D.fit,D.py,PyData.canLay0]using h,yaY _⟩
 |0,.tup _,h=>by simp[D.fit]at h
 |0,.lst _,h=>by simp[D.fit]at h
 |0,.scr _,h=>by simp[D.fit]at h
 |n+1,.scr l,h=>by
  obtain⟨a,b⟩:=zjV l;exact⟨by simpa[D.py,PyData.canLay0]using a,by simp only[D.py,PyData.depth];omega⟩
 |_,.dic _,h=>by simp[D.fit]at h
 |_,.ref _,h=>by simp[D.fit]at h
 |_,.exc _,h=>by simp[D.fit]at h
 |n+1,.tup l,h=>by
  have h':D.fits n l=true:=by simpa[D.fit]using h
  obtain⟨a,b⟩:=D.lays h';exact⟨by simpa[D.py,PyData.canLay0]using a,by simp only[D.py,PyData.depth];omega⟩
 |n+1,.lst l,h=>by
  have h':D.fits n l=true:=by simpa[D.fit]using h
  obtain⟨a,b⟩:=D.lays h';exact⟨by simpa[D.py,PyData.canLay0]using a,by simp only[D.py,PyData.depth];omega⟩
theorem D.lays:∀{n:Nat}{l:List D},D.fits n l=true->PyData.canLayAll0 (D.pys l)=true/\PyData.depthAll (D.pys l)<=n
 |_,[],_=>⟨rfl,yaY _⟩|n,d::l,h=>by
  simp only[D.fits,yac]at h;obtain⟨a,b⟩:=D.lay h.1;obtain⟨c,e⟩:=D.lays h.2;exact⟨by simp[D.pys,PyData.canLayAll0,a,c],by simp only[D.pys,PyData.depthAll];omega⟩
end
section
variable{X:Cx}{cl:Cf}{w:Wd}
def TopV.lstI(h:TopV cl w v (.lst ds)):∃a xs,v=.ref a/\w.H a=some (.lst xs)/\Shds cl w xs ds:=by
 cases h with
 |sh h=>cases h with
  |lst e k r=>exact⟨_,_,rfl,e,r⟩
 |ow e t=>cases t with
  |lst r=>exact⟨_,_,rfl,e,r⟩
def TopV.tupI(h:TopV cl w v (.tup ds)):∃a xs,v=.ref a/\w.H a=some (.tup xs)/\w.ow a=none/\Shds cl w xs ds:=by
 cases h with
 |sh h=>cases h with
  |tup e k r=>exact⟨_,_,rfl,e,k,r⟩
 |ow e t=>cases t
def TopV.intI(h:TopV cl w v (.int i)):v=.int i:=by
 cases h with
 |sh h=>cases h;rfl|ow e t=>cases t
def TopV.strI(h:TopV cl w v (.str i)):v=.str i:=by
 cases h with
 |sh h=>cases h;rfl|ow e t=>cases t
def TopV.blI(h:TopV cl w v (.bl i)):v=.bl i:=by
 cases h with
 |sh h=>cases h;rfl|ow e t=>cases t
def TopV.nonI(h:TopV cl w v .non):v=.non:=by
 cases h with
 |sh h=>cases h;rfl|ow e t=>cases t
def Shd.scrI(I:X.K=cl.K)(h:Shd cl w v (.scr l)):∃a,v=.ref a/\SqL X.K w.H a (l.map V.int):=by
 cases h with
 |scr e k=>exact⟨_,rfl,.inl (.inr ⟨_,e⟩)⟩|scrK h=>exact⟨_,rfl,by rw[I];exact h _⟩
theorem TopV.scrI(I:X.K=cl.K)(h:TopV cl w v (.scr l)):∃a,v=.ref a/\SqL X.K w.H a (l.map V.int):=by
 cases h with
 |sh h=>exact h.scrI I|ow e t=>cases t
def zjy(I:Inv X pins σ w.H s)(J:X.K=cl.K)(h:Shd cl w v (.scr l))(r:zbD v u):∃as,Reads s.heap u (D.scr l).py as:=by
  obtain⟨a,rfl,f⟩:=h.scrI J;cases r;obtain⟨d,c,p,_⟩:=I.list f;obtain⟨o,g,j,n,hd⟩:=id p.isList
  have go:∀{l:List Int}{us:List Value},Vals (l.map V.int) us->∃as,ReadsAll s.heap us (l.map PyData.int) as:=by
   intro l
   induction l with
   |nil=>intro us h;cases h;exact⟨_,.nil⟩|cons i l e=>
    intro us h
    cases h with
    |cons h1 h2=>
     obtain⟨t,rfl⟩:=h1;obtain⟨as,b⟩:=e h2;exact⟨_,.cons (.int i t) b⟩
  obtain⟨as,b⟩:=go c;exact⟨_,.list g j hd (by simpa using b)⟩
def zoR(h:(D.tup l).fit n=true):∃m,n=m+1:=by
 cases n with
 |zero=>simp[D.fit]at h|succ m=>exact⟨m,rfl⟩
def zoS(h:(D.lst l).fit n=true):∃m,n=m+1:=by
 cases n with
 |zero=>simp[D.fit]at h|succ m=>exact⟨m,rfl⟩
mutual
theorem zs7{pins:Z3}{σ:St}{s:Shared}(I:Inv X pins σ w.H s)(J:X.K=cl.K):∀{v:V}{d:D}{n:Nat},Shd cl w v d->d.fit n=true->∀{u:Value},zbD v u->∃as,Reads s.heap u d.py as
 |_,_,_,.non,_,_,r=>by cases r;exact⟨_,.none⟩
 |_,_,_,.bl b,_,_,r=>by cases r;exact⟨_,.bool b⟩
 |_,_,_,.int i,_,_,r=>by obtain⟨t,rfl⟩:=r;exact⟨_,.int i t⟩
 |_,_,_,.str x,_,_,r=>by obtain⟨t,rfl⟩:=r;exact⟨_,.str x t⟩
 |_,_,n,.tup (a:=a) e _ rs,h,_,r=>by
  obtain⟨n,rfl⟩:=zoR h;cases r;obtain⟨g,c,p,_⟩:=I.tuple (SqT.of (K:=X.K) e);obtain⟨o,j,l,n,hd⟩:=id p;obtain⟨as,f⟩:=zeu I J rs (by simpa[D.fit]using h) c;exact⟨_,.tuple j l hd (by simpa using f)⟩
 |_,_,n,.lst (a:=a) e _ rs,h,_,r=>by
  obtain⟨n,rfl⟩:=zoS h;cases r;obtain⟨g,c,p,_⟩:=I.list (SqL.of (K:=X.K) e);obtain⟨o,j,l,n,hd⟩:=id p.isList;obtain⟨as,f⟩:=zeu I J rs (by simpa[D.fit]using h) c;exact⟨_,.list j l hd (by simpa using f)⟩
 |_,_,n,.scr e k,h,_,r=>zjy I J (.scr e k) r|_,_,n,.scrK e,h,_,r=>zjy I J (.scrK e) r|_,_,n,.dicK _ _ _,h,_,_=>by simp[D.fit]at h
 |_,_,n,.dicT _ _ _,h,_,_=>by simp[D.fit]at h
 |_,_,n,.dicN _ _,h,_,_=>by simp[D.fit]at h
 |_,_,n,.dicX _ _ _,h,_,_=>by simp[D.fit]at h
 |_,_,n,.ref _,h,_,_=>by simp[D.fit]at h
 |_,_,n,.exc _ _ _,h,_,_=>by simp[D.fit]at h
theorem zeu{pins:Z3}{σ:St}{s:Shared}(I:Inv X pins σ w.H s)(J:X.K=cl.K):∀{vs:List V}{ds:List D}{n:Nat},Shds cl w vs ds->D.fits n ds=true->∀{us:List Value},Vals vs us->∃as,ReadsAll s.heap us (D.pys ds) as
 |_,_,_,.nil,_,_,r=>by cases r;exact⟨_,.nil⟩
 |_,_,n,.cons h t,f,_,r=>by
  simp only[D.fits,yac]at f
  cases r with
  |cons r1 c=>
   obtain⟨as,a⟩:=zs7 I J h f.1 r1;obtain⟨bs,b⟩:=zeu I J t f.2 c;exact⟨_,.cons a b⟩
end
def zh5(I:Inv X pins σ w.H s)(J:X.K=cl.K)(h:TopV cl w v d)(f:d.fit n=true)(r:zbD v u):∃as,Reads s.heap u d.py as:=by
 cases h with
 |sh h=>exact zs7 I J h f r|ow e t=>
  cases t with
  |lst rs=>
   cases n with
   |zero=>simp[D.fit]at f|succ n=>
    cases r;obtain⟨c,a,p,_⟩:=I.list (SqL.of (K:=X.K) e);obtain⟨o,g,i,n,hd⟩:=id p.isList;obtain⟨as,b⟩:=zeu I J rs (by simpa[D.fit]using f) a;exact⟨_,.list g i hd (by simpa using b)⟩
  |dicK _=>simp[D.fit]at f|dicT _=>simp[D.fit]at f|dicN=>simp[D.fit]at f|dicX _=>simp[D.fit]at f
noncomputable def zeX(d e:D):Bool:=d.py.eqv e.py
def eqD(d e:D):Option D:=if d.fit 9&&e.fit 9 then some (.bl (zeX d e))else none
noncomputable def neD(d e:D):Option D:=if d.fit 9&&e.fit 9 then some (.bl (!zeX d e))else none
theorem zwc(J:X.K=cl.K)(U:X.A.units+64<cLine):OpD X cl (compareOp .Eq) eqD:=by
 intro pins s σ H x y v u Q I c b h;obtain⟨w,d,e,r,rfl,l,k,a,q⟩:=h;unfold eqD at a;split at a
 ·rename_i hf;cases a;rw[yac]at hf;obtain⟨as,g⟩:=zh5 I J l hf.1 c;obtain⟨bs,f⟩:=zh5 I J k hf.2 b;obtain⟨j,d1⟩:=D.lay hf.1;obtain⟨i,d2⟩:=D.lay hf.2;exact SeqAt.compareEq_reads g f j i (by omega) ⟨.bl _,w.H,I,rfl,q _ w (Grow.refl _) (.bl _)⟩
 ·cases a
def zwa(J:X.K=cl.K)(U:X.A.units+64<cLine):OpD X cl (compareOp .NotEq) neD:=by
 intro pins s σ H x y v u Q I c b h;obtain⟨w,d,e,r,rfl,l,k,a,q⟩:=h;unfold neD at a;split at a
 ·rename_i hf;cases a;rw[yac]at hf;obtain⟨as,g⟩:=zh5 I J l hf.1 c;obtain⟨bs,f⟩:=zh5 I J k hf.2 b;obtain⟨j,d1⟩:=D.lay hf.1;obtain⟨i,d2⟩:=D.lay hf.2;exact SeqAt.compareNe_reads g f j i (by omega) ⟨.bl _,w.H,I,rfl,q _ w (Grow.refl _) (.bl _)⟩
 ·cases a
noncomputable def zgA:D->Option (List D)|.lst l=>some l|.tup l=>some l|_=>none
noncomputable def zif(d:D)(l:List D):Bool:=l.any fun e=>zeX e d
def inD(d e:D):Option D:=match zgA e with|some l=>if d.fit 8&&D.fits 8 l then some (.bl (zif d l))else none|none=>none
def zkZ(d e:D):Option D:=match zgA e with|some l=>if d.fit 8&&D.fits 8 l then some (.bl (!zif d l))else none|none=>none
def zeq{s:Shared}{I:List Value}{d:D}(J:ReadsAll s.heap I (D.pys ds) as)(f:D.fits 8 ds=true):(I.toArray.any fun y=>(SeqAt.readOf s.heap y).eqv d.py)=zif d ds:=by
 rw[SeqAt.any_by_data (vs:=I.toArray) (xs:=D.pys ds) (as:=as) (by simpa using J) (D.lays f).1]
 have:∀{l:List D},((D.pys l).any fun y=>y.eqv d.py)=zif d l:=by
  intro l
  induction l with
  |nil=>rfl|cons e l a=>
   show(e.py.eqv d.py||(D.pys l).any fun y=>y.eqv d.py)=(zeX e d||zif d l);rw[a];rfl
 exact this
theorem zcF{A:Around}{s:Shared}{d:D}(U:A.units+64<cLine)(J:Reads s.heap x d.py bs)(fd:d.fit 8=true):∀{I:List Value}{ds:List D}{as:List Addr},ReadsAll s.heap I (D.pys ds) as->D.fits 8 ds=true->∀y,y∈I.toArray->SeqAt.EqAt A.in1 s y x ((SeqAt.readOf s.heap y).eqv d.py)
 |[],[],_,_,_,y,a=>by simp at a
 |[],_::_,_,h,_,_,_=>by cases h
 |_::_,[],_,h,_,_,_=>by cases h
 |v::I,e::ds,_,h,f,y,a=>by
  simp only[D.fits,yac]at f
  cases h with
  |cons h1 h2=>
   simp at a
   rcases a with rfl|a
   ·rw[ziQ (D.lay f.1).1 h1];refine SeqAt.eqAt_reads _ _ _ _ _ _ _ _ h1 J (D.lay f.1).1 (D.lay fd).1 ?_;have:=(D.lay f.1).2;show A.units+1+_<cLine;omega
   ·exact zcF U J fd h2 f.2 y (by simpa using a)
def zlq(h:zgA e=some l):e=.lst l\/e=.tup l:=by
 cases e<;>simp[zgA]at h
 ·exact .inr (by rw[h])
 ·exact .inl (by rw[h])
theorem zwb(J:X.K=cl.K)(U:X.A.units+64<cLine):OpD X cl (compareOp .In) inD:=by
 intro pins s σ H x y v u Q I m i h;obtain⟨w,d,e,r,rfl,n,k,b,q⟩:=h;unfold inD at b;split at b
 ·rename_i l o;split at b
  ·rename_i hf;cases b;rw[yac]at hf;obtain⟨bs,j⟩:=zh5 I J n hf.1 m
   rcases zlq o with rfl|rfl
   ·obtain⟨a,xs,rfl,e,rs⟩:=k.lstI;cases i;obtain⟨g,f,p,_⟩:=I.list (SqL.of (K:=X.K) e);obtain⟨as,c⟩:=zeu I J rs hf.2 f;refine SeqAt.in_listAt _ p.isList (zcF U j hf.1 c hf.2) ?_;rw[zeq c hf.2];exact⟨.bl _,w.H,I,rfl,q _ w (Grow.refl _) (.bl _)⟩
   ·obtain⟨a,xs,rfl,e,_,rs⟩:=k.tupI;cases i;obtain⟨g,f,p,_⟩:=I.tuple (SqT.of (K:=X.K) e);obtain⟨as,c⟩:=zeu I J rs hf.2 f;refine SeqAt.in_tupleAt _ p (zcF U j hf.1 c hf.2) ?_;rw[zeq c hf.2];exact⟨.bl _,w.H,I,rfl,q _ w (Grow.refl _) (.bl _)⟩
  ·cases b
 ·cases b
def ztU(J:X.K=cl.K)(U:X.A.units+64<cLine):OpD X cl (compareOp .NotIn) zkZ:=by
 intro pins s σ H x y v u Q I m i h;obtain⟨w,d,e,r,rfl,n,k,b,q⟩:=h;unfold zkZ at b;split at b
 ·rename_i l o;split at b
  ·rename_i hf;cases b;rw[yac]at hf;obtain⟨bs,j⟩:=zh5 I J n hf.1 m
   rcases zlq o with rfl|rfl
   ·obtain⟨a,xs,rfl,e,rs⟩:=k.lstI;cases i;obtain⟨g,f,p,_⟩:=I.list (SqL.of (K:=X.K) e);obtain⟨as,c⟩:=zeu I J rs hf.2 f;refine SeqAt.notIn_listAt _ p.isList (zcF U j hf.1 c hf.2) ?_;rw[zeq c hf.2];exact⟨.bl _,w.H,I,rfl,q _ w (Grow.refl _) (.bl _)⟩
   ·obtain⟨a,xs,rfl,e,_,rs⟩:=k.tupI;cases i;obtain⟨g,f,p,_⟩:=I.tuple (SqT.of (K:=X.K) e);obtain⟨as,c⟩:=zeu I J rs hf.2 f;refine SeqAt.notIn_tupleAt _ p (zcF U j hf.1 c hf.2) ?_;rw[zeq c hf.2];exact⟨.bl _,w.H,I,rfl,q _ w (Grow.refl _) (.bl _)⟩
  ·cases b
 ·cases b
def zb1:D->D->Option D
 |.int i,.int j=>some (.int (i+j))|.tup a,.tup b=>if small (a.length+b.length)then some (.tup (a++b))else none
 |.lst a,.lst b=>if small (a.length+b.length)then some (.lst (a++b))else none
 |.str a,.str b=>if small (a.length+b.length)then some (.str (a++b))else none
 |_,_=>none
def ztZ:OpD X cl (binaryOp .Add) zb1:=by
 intro pins s σ H x y v u Q I m k h;obtain⟨w,d,e,r,rfl,B,A,f,q⟩:=h;unfold zb1 at f;split at f
 ·cases f;rename_i i j;obtain rfl:=B.intI;obtain rfl:=A.intI;exact ztO pins s σ w.H _ _ v u Q I m k ⟨i,j,rfl,rfl,q _ w (Grow.refl _) (.int _)⟩
 ·rename_i a b;split at f
  ·rename_i n;cases f;obtain⟨p,xs,rfl,ep,kp,rs⟩:=B.tupI;obtain⟨p2,ys,rfl,g,C,c⟩:=A.tupI
   by_cases o:xs=[]
   ·subst o;cases rs;exact zok pins s σ w.H _ _ v u Q I m k ⟨p,p2,ys,rfl,rfl,SqT.of ep,SqT.of g,q _ w (Grow.refl _) (.tup g C c)⟩
   ·refine zqX pins s σ w.H _ _ v u Q I m k ⟨p,p2,xs,ys,rfl,rfl,SqT.of ep,SqT.of g,o,by rw[rs.length,c.length];exact zbp n,fun z=>?_,fun z l t=>?_⟩
    ·subst z;cases c;rw[yaS]at q;exact q _ w (Grow.refl _) (.tup ep kp rs)
    ·exact q _ (w.add l _) (zaF t _) (Shd.newT t (rs.append c))
  ·cases f
 ·rename_i a b;split at f
  ·rename_i n;cases f;obtain⟨p,xs,rfl,ep,rs⟩:=B.lstI;obtain⟨p2,ys,rfl,g,c⟩:=A.lstI;exact ztN pins s σ w.H _ _ v u Q I m k ⟨p,p2,xs,ys,rfl,rfl,ep,g,by rw[rs.length,c.length];exact zbp n,fun l t=>q _ (w.add l _) (zaF t _) (Shd.newL t (rs.append c))⟩
  ·cases f
 ·rename_i a b;split at f
  ·rename_i n;cases f;obtain rfl:=B.strI;obtain rfl:=A.strI;exact zkw pins s σ w.H _ _ v u Q I m k ⟨a,b,rfl,rfl,zbp n,q _ w (Grow.refl _) (.str _)⟩
  ·cases f
 ·cases f
noncomputable def zlj:D->D->Option D|.int i,.int j=>some (.int (i-j))|_,_=>none
def ztS:OpD X cl (binaryOp .Sub) zlj:=by
 intro pins s σ H x y v u Q I c b h;obtain⟨w,d,e,r,rfl,g,f,a,q⟩:=h;unfold zlj at a;split at a
 ·cases a;rename_i i j;obtain rfl:=g.intI;obtain rfl:=f.intI;exact ztH pins s σ w.H _ _ v u Q I c b ⟨i,j,rfl,rfl,q _ w (Grow.refl _) (.int _)⟩
 ·cases a
noncomputable def zcr(i:Int):Bool:=decide (-(2 ^ 64)<i/\i<2 ^ 64)
def zhk:D->D->Option D
 |.int i,.int j=>if zcr i||zcr j then some (.int (i*j))else none
 |.tup a,.int j=>if decide (1<=j/\j<=1000/\a≠[]/\a.length<=1000)then some (.tup (List.replicate j.toNat a).flatten)else none
 |.lst a,.int j=>if decide (0<=j/\j<=1000/\a.length<=1000)then some (.lst (List.replicate j.toNat a).flatten)else none
 |_,_=>none
theorem ztV:OpD X cl (binaryOp .Mult) zhk:=by
 intro pins s σ H x y v u Q I A m h;obtain⟨w,d,e,r,rfl,C,B,b,q⟩:=h;unfold zhk at b;split at b
 ·rename_i i j;split at b
  ·rename_i f;cases b;obtain rfl:=C.intI;obtain rfl:=B.intI;refine ztK pins s σ w.H _ _ v u Q I A m ⟨i,j,rfl,rfl,?_,q _ w (Grow.refl _) (.int _)⟩;rw[yc8]at f;exact f.imp (fun z=>yah z) fun z=>yah z
  ·cases b
 ·rename_i a j;split at b
  ·rename_i f;cases b;have g:=yah f;obtain⟨p,xs,rfl,ep,kp,rs⟩:=C.tupI;obtain rfl:=B.intI;have c:=rs.length;obtain⟨k,rfl⟩:∃k:Nat,j=(k:Int):=⟨j.toNat,by omega⟩;have D:xs≠[]:=fun z=>g.2.2.1 (by cases a with|nil=>rfl|cons _ _=>rw[z]at c;cases c)
   by_cases G:k=1
   ·subst G;cases A;obtain⟨t,rfl⟩:=m;obtain⟨E,L,⟨o,F,J,n,hd⟩,_⟩:=I.tuple (SqT.of (K:=X.K) ep);refine PySem.zop F J hd ⟨.ref p,w.H,I,rfl,q _ w (Grow.refl _) (.tup ep kp ?_)⟩;simpa using rs
   ·refine zqU pins s σ w.H _ _ v u Q I A m ⟨p,k,xs,rfl,rfl,SqT.of ep,D,by omega,by omega,by omega,fun l c=>q _ (w.add l _) (zaF c _) (Shd.newT c (rs.flat _))⟩
  ·cases b
 ·rename_i a j;split at b
  ·rename_i f;cases b;have g:=yah f;obtain⟨p,xs,rfl,ep,rs⟩:=C.lstI;obtain rfl:=B.intI;have c:=rs.length;refine ztI pins s σ w.H _ _ v u Q I A m ⟨p,j,xs,rfl,rfl,ep,by omega,by omega,?_,fun l c=>q _ (w.add l _) (zaF c _) (Shd.newL c (rs.flat _))⟩;refine yal (ybv (show xs.length<=1000 by omega) (show j.toNat<=1000 by omega)) (by decide)
  ·cases b
 ·cases b
noncomputable def zky:D->D->Option D|.int i,.int j=>if 0<j then some (.int (i % j))else none|_,_=>none
noncomputable def zuI:D->D->Option D|.int i,.int j=>if 0<j/\j<1073741824 then some (.int (i / j))else none|_,_=>none
noncomputable def ztk:D->D->Option D|.int i,.int j=>if 0<=j/\j<=100/\i.natAbs<1000 then some (.int (i ^ j.toNat))else none|_,_=>none
def ztW:OpD X cl (binaryOp .Mod) zky:=by
 intro pins s σ H x y v u Q I c b h;obtain⟨w,d,e,r,rfl,k,g,a,q⟩:=h;unfold zky at a;split at a
 ·rename_i i j;split at a
  ·rename_i f;cases a;obtain rfl:=k.intI;obtain rfl:=g.intI;exact ztL pins s σ w.H _ _ v u Q I c b ⟨i,j,rfl,rfl,f,q _ w (Grow.refl _) (.int _)⟩
  ·cases a
 ·cases a
def ztY:OpD X cl (binaryOp .FloorDiv) zuI:=by
 intro pins s σ H x y v u Q I c b h;obtain⟨w,d,e,r,rfl,k,g,a,q⟩:=h;unfold zuI at a;split at a
 ·rename_i i j;split at a
  ·rename_i f;cases a;obtain rfl:=k.intI;obtain rfl:=g.intI;exact zqW pins s σ w.H _ _ v u Q I c b ⟨i,j,rfl,rfl,f,q _ w (Grow.refl _) (.int _)⟩
  ·cases a
 ·cases a
theorem ztT:OpD X cl (binaryOp .Pow) ztk:=by
 intro pins s σ H x y v u Q I f c h;obtain⟨w,d,e,r,rfl,k,g,a,q⟩:=h;unfold ztk at a;split at a
 ·rename_i i j;split at a
  ·rename_i b;cases a;obtain rfl:=k.intI;obtain rfl:=g.intI;exact ztJ pins s σ w.H _ _ v u Q I f c ⟨i,j,rfl,rfl,⟨b.1,by omega,ycS b.2.2 (by decide)⟩,q _ w (Grow.refl _) (.int _)⟩
  ·cases a
 ·cases a
noncomputable def ziW:D->Option D|.int i=>some (.int (-i))|_=>none
def zse:UnD X cl (unaryOp .USub) ziW:=by
 intro pins s σ H x v Q I b h;obtain⟨w,d,r,rfl,c,a,q⟩:=h;unfold ziW at a;split at a
 ·cases a;rename_i i;obtain rfl:=c.intI;exact zsd pins s σ w.H _ v Q I b ⟨i,rfl,q _ w (Grow.refl _) (.int _)⟩
 ·cases a
noncomputable def zrY(p:Int->Int->Bool):D->D->Option D|.int i,.int j=>some (.bl (p i j))|_,_=>none
def zhh(ho:OpR X (compareOp op) (rI0 fun i j=>.bl (p i j))):OpD X cl (compareOp op) (zrY p):=by
 intro pins s σ H x y v u Q I c b h;obtain⟨w,d,e,r,rfl,g,f,a,q⟩:=h;unfold zrY at a;split at a
 ·cases a;rename_i i j;obtain rfl:=g.intI;obtain rfl:=f.intI;exact ho pins s σ w.H _ _ v u Q I c b ⟨i,j,rfl,rfl,q _ w (Grow.refl _) (.bl _)⟩
 ·cases a
noncomputable def zdD:D->Bool|.non=>true|_=>false
def zmx(d e:D):Option D:=if zdD e then some (.bl (zdD d))else none
def zkx(d e:D):Option D:=if zdD e then some (.bl (!zdD d))else none
def TopV.non_iff(h:TopV cl w v d):decide (v=.non)=zdD d:=by
 cases h with
 |sh h=>cases h<;>simp[zdD]|ow e t=>cases t<;>simp[zdD]
def zij(h:zdD d=true):d=.non:=by cases d<;>simp[zdD]at h;rfl
def ztX:OpD X cl (compareOp .Is) zmx:=by
 intro pins s σ H x y v u Q I f c h;obtain⟨w,d,e,r,rfl,i,b,a,q⟩:=h;unfold zmx at a;split at a
 ·rename_i g;cases a;rw[zij g]at b;obtain rfl:=b.nonI;refine ztM pins s σ w.H _ _ v u Q I f c ⟨rfl,?_⟩;rw[i.non_iff];exact q _ w (Grow.refl _) (.bl _)
 ·cases a
def zq0:OpD X cl (compareOp .IsNot) zkx:=by
 intro pins s σ H x y v u Q I f c h;obtain⟨w,d,e,r,rfl,i,b,a,q⟩:=h;unfold zkx at a;split at a
 ·rename_i g;cases a;rw[zij g]at b;obtain rfl:=b.nonI;refine zqV pins s σ w.H _ _ v u Q I f c ⟨rfl,?_⟩;rw[i.non_iff];exact q _ w (Grow.refl _) (.bl _)
 ·cases a
def ixD:D->D->Option D
 |.lst l,.int i=>atI l i|.tup l,.int i=>atI l i|.scr l,.int i=>(atI l i).map D.int|_,_=>none
def zjt(r:Shds cl w xs ds)(h:atI ds i=some d):∃v,atI xs i=some v/\Shd cl w v d:=by
 unfold atI at h ⊢;rw[r.length]
 cases e:ixN ds.length i with
 |none=>rw[e]at h;cases h|some j=>
  rw[e]at h;exact r.at h
def zwx(J:X.K=cl.K):IxD X cl ixD:=by
 intro value slice pins s σ H x y v u Q I m g h a;obtain⟨w,d,e,r,rfl,o,n,b,q⟩:=h;unfold ixD at b;split at b
 ·rename_i l i;obtain⟨p,xs,rfl,ep,rs⟩:=o.lstI;obtain rfl:=n.intI;obtain⟨z,f,A⟩:=zjt rs b;exact zmw value slice pins s σ w.H _ _ v u Q I m g ⟨p,xs,i,z,rfl,rfl,SqL.of ep,f,q _ w (Grow.refl _) A⟩ a
 ·rename_i l i;obtain⟨p,xs,rfl,ep,_,rs⟩:=o.tupI;obtain rfl:=n.intI;obtain⟨z,f,A⟩:=zjt rs b;exact zuu value slice pins s σ w.H _ _ v u Q I m g ⟨p,xs,i,z,rfl,rfl,SqT.of ep,f,q _ w (Grow.refl _) A⟩ a
 ·rename_i l i;obtain⟨p,rfl,ep⟩:=o.scrI J;obtain rfl:=n.intI
  cases c:atI l i with
  |none=>rw[c]at b;cases b|some k=>
   rw[c]at b;cases b
   have f:atI (l.map V.int) i=some (.int k):=by
    unfold atI at c ⊢;rw[yad]
    cases e:ixN l.length i with
    |none=>rw[e]at c;cases c|some j=>
     rw[e]at c;have t:l[j]?=some k:=c;show(l.map V.int)[j]?=_;rw[yao,t];rfl
   exact zmw value slice pins s σ w.H _ _ v u Q I m g ⟨p,_,i,_,rfl,rfl,ep,f,q _ w (Grow.refl _) (.int _)⟩ a
 ·cases b
def zdB:List D->Option D
 |[.lst l]=>some (.int l.length)|[.tup l]=>some (.int l.length)|[.scr l]=>some (.int l.length)|[.str x]=>if small x.length then some (.int x.length)else none
 |_=>none
def zuP(J:X.K=cl.K):zkX X cl (.builtin "len") zdB:=by
 intro pins s σ H xs us Q I r h;obtain⟨w,ds,d,rfl,b,a,q⟩:=h;unfold zdB at a;split at a
 ·rename_i l;cases a
  cases b with
  |cons h1 h2=>
   cases h2;obtain⟨p,ys,rfl,ep,rs⟩:=h1.lstI;refine zc6 pins s σ w.H _ us Q I r ⟨p,ys,rfl,.inl (SqL.of ep),?_⟩;rw[rs.length];exact q _ w (Grow.refl _) (.int _)
 ·rename_i l;cases a
  cases b with
  |cons h1 h2=>
   cases h2;obtain⟨p,ys,rfl,ep,_,rs⟩:=h1.tupI;refine zc6 pins s σ w.H _ us Q I r ⟨p,ys,rfl,.inr (SqT.of ep),?_⟩;rw[rs.length];exact q _ w (Grow.refl _) (.int _)
 ·rename_i l;cases a
  cases b with
  |cons h1 h2=>
   cases h2;obtain⟨p,rfl,ep⟩:=h1.scrI J;refine zc6 pins s σ w.H _ us Q I r ⟨p,l.map V.int,rfl,.inl ep,?_⟩;rw[yad];exact q _ w (Grow.refl _) (.int _)
 ·rename_i x;split at a
  ·rename_i c;cases a
   cases b with
   |cons h1 h2=>
    cases h2;obtain rfl:=h1.strI;exact ziv pins s σ w.H _ us Q I r ⟨x,rfl,zbp c,q _ w (Grow.refl _) (.int _)⟩
  ·cases a
 ·cases a
noncomputable def zcq:List D->Option D
 |[.lst l]=>some (.tup l)|[.tup l]=>some (.tup l)|_=>none
def zo0:zkX X cl (.type "tuple") zcq:=by
 intro pins s σ H xs us Q I r h;obtain⟨w,ds,d,rfl,b,a,q⟩:=h;unfold zcq at a;split at a
 ·rename_i l;cases a
  cases b with
  |cons h1 h2=>
   cases h2;obtain⟨p,ys,rfl,ep,rs⟩:=h1.lstI;exact zfg pins s σ w.H _ us Q I r ⟨p,ys,rfl,.inl ⟨SqL.of ep,fun l c=>q _ (w.add l _) (zaF c _) (Shd.newT c rs)⟩⟩
 ·rename_i l;cases a
  cases b with
  |cons h1 h2=>
   cases h2;obtain⟨p,ys,rfl,ep,kp,rs⟩:=h1.tupI;exact zfg pins s σ w.H _ us Q I r ⟨p,ys,rfl,.inr ⟨SqT.of ep,q _ w (Grow.refl _) (.tup ep kp rs)⟩⟩
 ·cases a
noncomputable def zmp:List D->Option D
 |[.lst l]=>some (.lst l)|[.tup l]=>some (.lst l)|_=>none
def zrI:zrS X cl (.type "list") zmp:=by
 intro pins s σ H xs us Q I r h;obtain⟨w,ds,d,rfl,c,a,q⟩:=h;unfold zmp at a;split at a
 ·rename_i l;cases a
  cases c with
  |cons h1 h2=>
   cases h2;obtain⟨p,ys,rfl,ep,rs⟩:=h1.lstI;exact zfC pins s σ w.H _ us Q I r ⟨p,ys,rfl,.inl (SqL.of ep),fun l b=>q _ _ w (Grow.refl _) b (.lst rs)⟩
 ·rename_i l;cases a
  cases c with
  |cons h1 h2=>
   cases h2;obtain⟨p,ys,rfl,ep,_,rs⟩:=h1.tupI;exact zfC pins s σ w.H _ us Q I r ⟨p,ys,rfl,.inr (SqT.of ep),fun l b=>q _ _ w (Grow.refl _) b (.lst rs)⟩
 ·cases a
noncomputable def zhA:List D->Option (List Bool)
 |[]=>some []|.bl b::l=>(zhA l).map (b::·)|_=>none
def zo5:∀{xs:List V},Shds cl w xs ds->zhA ds=some bs->xs=bs.map V.bl:=by
 induction ds generalizing bs with
 |nil=>intro xs r h;cases r;cases h;rfl|cons d ds c=>
  intro xs r e
  cases r with
  |cons h t=>
   cases d with
   |bl b=>
    cases h;unfold zhA at e
    cases a:zhA ds with
    |none=>rw[a]at e;cases e|some cs=>rw[a]at e;cases e;rw[c t a];rfl
   |_=>cases e
def zpM:List D->Option D
 |[.lst l]=>(zhA l).map fun bs=>.bl (bs.all id)|_=>none
def zuQ(J:X.calm=true):zkX X cl (.builtin "all") zpM:=by
 intro pins s σ H xs us Q I r h;obtain⟨w,ds,d,rfl,c,a,q⟩:=h;unfold zpM at a;split at a
 ·rename_i l
  cases b:zhA l with
  |none=>rw[b]at a;cases a|some bs=>
   rw[b]at a;cases a
   cases c with
   |cons h1 h2=>
    cases h2;obtain⟨p,ys,rfl,ep,rs⟩:=h1.lstI;obtain rfl:=zo5 rs b;exact zja J pins s σ w.H _ us Q I r ⟨p,bs,rfl,SqL.of ep,q _ w (Grow.refl _) (.bl _)⟩
 ·cases a
noncomputable def ze5:List D->Option (List Int)
 |[]=>some []|.int b::l=>(ze5 l).map (b::·)|_=>none
def zmC:∀{xs:List V},Shds cl w xs ds->ze5 ds=some bs->xs=bs.map V.int:=by
 induction ds generalizing bs with
 |nil=>intro xs r h;cases r;cases h;rfl|cons d ds c=>
  intro xs r e
  cases r with
  |cons h t=>
   cases d with
   |int b=>
    cases h;unfold ze5 at e
    cases a:ze5 ds with
    |none=>rw[a]at e;cases e|some cs=>rw[a]at e;cases e;rw[c t a];rfl
   |_=>cases e
def zss:List D->Option D
 |[.lst l]=>(ze5 l).bind fun ns=>if decide (ns.length<=1000)&&ns.all (fun n=>decide (0<=n/\n<=1000000))then some (.int ns.sum)else none
 |_=>none
def zuO(J:X.calm=true):zkX X cl (.builtin "sum") zss:=by
 intro pins s σ H xs us Q I r h;obtain⟨w,ds,d,rfl,e,a,q⟩:=h;unfold zss at a;split at a
 ·rename_i l
  cases c:ze5 l with
  |none=>rw[c]at a;cases a|some ns=>
   rw[c]at a;dsimp only[Option.bind]at a;split at a
   ·rename_i b;cases a;rw[yac,ybs]at b
    cases e with
    |cons h1 h2=>
     cases h2;obtain⟨p,ys,rfl,ep,rs⟩:=h1.lstI;obtain rfl:=zmC rs c;exact zo1 J pins s σ w.H _ us Q I r ⟨p,ns,rfl,SqL.of ep,yah b.1,fun n f=>yah (b.2 n f),q _ w (Grow.refl _) (.int _)⟩
   ·cases a
 ·cases a
end
end S2
namespace L2
open PySem PySem.Spec PyProof.Rows
end L2
namespace S2
open PySem PySem.Spec PyProof.Rows L2
def zdr(g g':D->D->Option D)(f h k:Fe):Fe:=fun ρ S=>(f ρ S).bind fun a S1=>(h ρ S1).bind fun b S2=>match(g a b).bind isB with
 |some true=>(k ρ S2).bind fun c d=>Out.of (g' b c) d|some false=>.ok (.bl false) S2|none=>.bad
section
variable{X:Cx}{cl:Cf}{E:St->XK}{a b c e:Expr}{f h k:Fe}{pos:Pos}
def zjn(J:∀x y H Q,(∃w d e r,w.H=H/\TopV cl w x d/\TopV cl w y e/\g d e=some r/\∀v w',Grow w w'->Shd cl w' v r->Q v w'.H)->r x y H Q)
  (I:∀x y H Q,(∃w d e r,w.H=H/\TopV cl w x d/\TopV cl w y e/\g' d e=some r/\∀v w',Grow w w'->Shd cl w' v r->Q v w'.H)->r' x y H Q) (q:tE cl E (zdr g g' f h k) σ H Q):zli r r' (tH cl E f) (tH cl E h) (tH cl E k) σ H Q:=by
 obtain⟨B,w,ρ,S,rfl,R,q⟩:=q;refine⟨B,w,ρ,S,rfl,R,?_⟩;unfold zdr at q
 cases hf:f ρ S with
 |bad=>rwa[hf]at q|exc c S1=>rwa[hf]at q|ok d S1=>
  rw[hf]at q;intro v D K F1 h1;refine⟨B,D,ρ,S1,rfl,K,?_⟩;dsimp only[Out.bind]at q
  cases p:h ρ S1 with
  |bad=>rwa[p]at q|exc c S2=>rw[p]at q;exact fun m R2 F2=>q m R2 (F1.trans F2)|ok e S2=>
   rw[p]at q;intro y m R2 F2 h2;dsimp only at q
   cases j:g d e with
   |none=>rw[j]at q;exact q.elim|some z=>
    rw[j]at q;dsimp only[Option.bind]at q
    cases s:isB z with
    |none=>rw[s]at q;exact q.elim|some bb=>
     rw[s]at q;rw[zeg s]at j;refine J _ _ _ _ ⟨m,d,e,_,rfl,(h1.up F2).top R2,h2.top R2,j,fun u t gr sh=>⟨bb,zhV sh,?_⟩⟩;have A:=R2.grow gr
     cases bb with
     |false=>exact zoE (q _ t A (F1.trans (F2.trans gr.fut)) (.bl _))|true=>
      refine zoD ⟨B,t,ρ,S2,rfl,A,?_⟩;dsimp only at q
      cases o:k ρ S2 with
      |bad=>rwa[o]at q|exc c G=>rw[o]at q;exact fun l i F4=>q l i (F1.trans (F2.trans (gr.fut.trans F4)))|ok c G=>
       rw[o]at q;intro L l i F4 h4;dsimp only at q
       cases a:g' e c with
       |none=>rw[a]at q;exact q.elim|some F=>
        rw[a]at q;exact I _ _ _ _ ⟨l,e,c,F,rfl,(h2.up (gr.fut.trans F4)).top i,h4.top i,a,fun u C b n=>q u C (i.grow b) (F1.trans (F2.trans (gr.fut.trans (F4.trans b.fut)))) n⟩
def znz(ho:OpD X cl (compareOp op) g)(J:OpD X cl (compareOp I) g')(ha:PE X a (tH cl E f))(hb:PE X b (tH cl E h))(U:PE X c (tH cl E k))(hm:lastMarks [op,I] [b,c]=false):PE X (.Compare a [op,I] [b,c] pos) (tE cl E (zdr g g' f h k)):=
 PE.imp (zod ho J ha hb U hm) fun _ _ _ q=>zjn (fun _ _ _ _ z=>z) (fun _ _ _ _ z=>z) q
def znp(ho:OpD X cl (compareOp op) g)(J:OpD X cl (compareOp I) g')(ha:PE X a (tH cl E f))(hb:PE X b (tH cl E h))(U:PE X c (tH cl E k))(hm:lastMarks [op,I] [b,c]=false):PT X (.Compare a [op,I] [b,c] pos) (tTr cl E (zdr g g' f h k)):=
 PT.imp (znQ ho J ha hb U hm) fun _ _ _ q=>zjn (fun _ _ _ _ z=>z) (fun _ _ _ _ z=>z) (zhQ q)
def zff{α:Type}(l:List α)(lo hi:Option Int):List α:=(l.drop (HT.sIx l.length 0 lo)).take (HT.sIx l.length l.length hi-HT.sIx l.length 0 lo)
def slD(d:D)(lo hi:Option Int):Option D:=match d with
 |.lst l=>some (.lst (zff l lo hi))|.tup l=>some (.tup (zff l lo hi))|_=>none
def zdS(o:Option Fe)(ρ:Env)(S:Sto):Out (Option Int):=match o with
 |none=>.ok none S|some f=>(f ρ S).bind fun d S1=>match d with|.int i=>.ok (some i) S1|_=>.bad
def eSl(f:Fe)(lo hi:Option Fe):Fe:=fun ρ S=>(f ρ S).bind fun d S1=>(zdS lo ρ S1).bind fun l S2=>(zdS hi ρ S2).bind fun u a=>Out.of (slD d l u) a
def zis(r:Shds cl w xs ds)(lo hi:Option Int):Shds cl w (zpI xs lo hi) (zff ds lo hi):=by
 unfold zpI zff;rw[r.length];exact(r.drop _).take _
noncomputable def SlD(X:Cx)(cl:Cf):Prop:=SlR X fun x lo hi H Q=>∃w d r,w.H=H/\TopV cl w x d/\slD d lo hi=some r/\∀v w',Grow w w'->Shd cl w' v r->Q v w'.H
def zvW:SlD X cl:=by
 intro pins s σ H x v e c lo hi f Q I g hs pl pu h;obtain⟨w,d,r,rfl,j,b,q⟩:=h;unfold slD at b;split at b
 ·rename_i l;cases b;obtain⟨p,xs,rfl,ep,rs⟩:=j.lstI;exact zqh pins s σ w.H _ v e c lo hi f Q I g hs pl pu ⟨p,xs,rfl,SqL.of ep,fun i a=>q _ (w.add i _) (zaF a _) (Shd.newL a (zis rs lo hi))⟩
 ·rename_i l;cases b;obtain⟨p,xs,rfl,ep,kp,rs⟩:=j.tupI
  by_cases hw:HT.sIx xs.length 0 lo=0/\HT.sIx xs.length xs.length hi=xs.length
  ·refine zkk pins s σ w.H _ v e c lo hi f Q I g hs pl pu ⟨p,xs,rfl,SqT.of ep,hw.1,hw.2,q _ w (Grow.refl _) (.tup ep kp ?_)⟩
   have:zff l lo hi=l:=by
    unfold zff;rw[<-rs.length,hw.1,hw.2,List.drop_zero,Nat.sub_zero,List.take_of_length_le (by rw[rs.length];exact yai _)]
   rw[this];exact rs
  ·exact zsK pins s σ w.H _ v e c lo hi f Q I g hs pl pu ⟨p,xs,rfl,SqT.of ep,hw,fun i a=>q _ (w.add i _) (zaF a _) (Shd.newT a (zis rs lo hi))⟩
 ·cases b
noncomputable def zvb(cl:Cf)(E:St->XK)(o:Option Fe):TO:=match o with|none=>zlh|some f=>zsj (tH cl E f)
def zvS{lo hi:Option Expr}{fl I:Option Fe}{p2:Pos}(he:PE X e (tH cl E f))(U:PO X lo (zvb cl E fl))(J:PO X hi (zvb cl E I)):PE X (.Subscript e (.Slice lo hi none p2) pos) (tE cl E (eSl f fl I)):=by
 refine PE.imp (zn7 (zvW (cl:=cl)) he U J) ?_;rintro σ H Q ⟨B,w,ρ,S,rfl,R,q⟩;refine⟨B,w,ρ,S,rfl,R,?_⟩;unfold eSl at q
 cases hf:f ρ S with
 |bad=>rwa[hf]at q|exc c S1=>rwa[hf]at q|ok d S1=>
  rw[hf]at q;intro v m p F1 h1;dsimp only[Out.bind]at q
  have last:∀(l u:Option Int) (a:Wd) (g:Sto),Rel cl B σ a ρ g->Fut m a->(match Out.of (slD d l u) g with
    |.ok d S'=>∀v w',Rel cl B σ w' ρ S'->Fut w w'->Shd cl w' v d->Q v w'.H|.exc c S'=>∀w',Rel cl B σ w' ρ S'->Fut w w'->E σ (.ref (cl c)) none w'.H|.bad=>False)->∃w d r,w.H=a.H/\TopV cl w v d/\slD d l u=some r/\∀v w',Grow w w'->Shd cl w' v r->Q v w'.H:=by
   intro l u a g h F3 n
   cases o:slD d l u with
   |none=>rw[o]at n;exact n.elim|some r=>
    rw[o]at n;exact⟨a,d,r,rfl,(h1.up F3).top h,o,fun s w' gr sh=>n s w' (h.grow gr) (F1.trans (F3.trans gr.fut)) sh⟩
  have second:∀(l:Option Int) (j:Wd) (S2:Sto),Rel cl B σ j ρ S2->Fut m j->(match(zdS I ρ S2).bind fun u g=>Out.of (slD d l u) g with
    |.ok d S'=>∀v w',Rel cl B σ w' ρ S'->Fut w w'->Shd cl w' v d->Q v w'.H|.exc c S'=>∀w',Rel cl B σ w' ρ S'->Fut w w'->E σ (.ref (cl c)) none w'.H|.bad=>False)->zvb cl E I σ j.H fun u z=>∃w d r,w.H=z/\TopV cl w v d/\slD d l u=some r/\∀v w',Grow w w'->Shd cl w' v r->Q v w'.H:=by
   intro l j S2 R2 F2 b
   cases I with
   |none=>exact last l none j S2 R2 F2 b|some I=>
    refine⟨B,j,ρ,S2,rfl,R2,?_⟩;unfold zdS at b;dsimp only at b
    cases k:I ρ S2 with
    |bad=>rwa[k]at b|exc c g=>rw[k]at b;exact fun a h F3=>b a h (F1.trans (F2.trans F3))|ok x g=>
     rw[k]at b;intro y a h F3 t;dsimp only[Out.bind]at b
     cases x with
     |int i=>
      refine⟨i,(t.top h).intI,?_⟩;exact last l (some i) a g h (F2.trans F3) b
     |_=>exact b.elim
  cases fl with
  |none=>exact second none m S1 p (Fut.refl _) q|some fl=>
   refine⟨B,m,ρ,S1,rfl,p,?_⟩;unfold zdS at q;dsimp only at q
   cases k:fl ρ S1 with
   |bad=>rwa[k]at q|exc c g=>rw[k]at q;exact fun a h F3=>q a h (F1.trans F3)|ok dl S2=>
    rw[k]at q;intro y j R2 F2 h2;dsimp only[Out.bind]at q
    cases dl with
    |int i=>
     refine⟨i,(h2.top R2).intI,?_⟩;exact second (some i) j S2 R2 F2 q
    |_=>exact q.elim
noncomputable def zeF(T:String)(d:D):Option D:=
 if T="int"then(match d with|.int _=>some (.bl true)|.bl _=>some (.bl true)|.non=>some (.bl false)|.str _=>some (.bl false)|.tup _=>some (.bl false)|.lst _=>some (.bl false)|_=>none)
 else if T="bool"then(match d with|.int _=>some (.bl false)|.bl _=>some (.bl true)|.non=>some (.bl false)|.str _=>some (.bl false)|.tup _=>some (.bl false)|.lst _=>some (.bl false)|_=>none)
 else if T="tuple"then(match d with|.int _=>some (.bl false)|.bl _=>some (.bl false)|.non=>some (.bl false)|.str _=>some (.bl false)|.tup _=>some (.bl true)|.lst _=>some (.bl false)|_=>none)
 else if T="str"then(match d with|.int _=>some (.bl false)|.bl _=>some (.bl false)|.non=>some (.bl false)|.str _=>some (.bl true)|.tup _=>some (.bl false)|.lst _=>some (.bl false)|_=>none)
 else none
def zeh{K:PySem.W.Frag}{t:Value}{r:D}{T:String}{b1 b2 U J:Bool}(I:(if T="int"then some (D.bl b1)else if T="bool"then some (.bl b2)else if T="tuple"then some (.bl U)else if T="str"then some (.bl J)else none)=some r)(k1:PySem.W.kitOne K t (.type "int")=some b1)(k2:PySem.W.kitOne K t (.type "bool")=some b2)(k3:PySem.W.kitOne K t (.type "tuple")=some U)(k4:PySem.W.kitOne K t (.type "str")=some J):∃b,PySem.W.kitOne K t (.type T)=some b/\r=.bl b:=by
 split at I
 ·rename_i e;cases I;exact⟨b1,by rw[e];exact k1,rfl⟩
 split at I
 ·rename_i e;cases I;exact⟨b2,by rw[e];exact k2,rfl⟩
 split at I
 ·rename_i e;cases I;exact⟨U,by rw[e];exact k3,rfl⟩
 split at I
 ·rename_i e;cases I;exact⟨J,by rw[e];exact k4,rfl⟩
 ·cases I
def zrr{r:D}{T:String}(I:(if T="int"then none else if T="bool"then none else if T="tuple"then none else if T="str"then none else none)=some r):False:=by
 simp at I
def zrq{K:PySem.W.Frag}{w:Wd}(h:TopV cl w v d)(I:zeF T d=some r):∃t b,TyOf K w.H v t/\PySem.W.kitOne K t (.type T)=some b/\r=.bl b:=by
 cases d with
 |int i=>obtain rfl:=h.intI;obtain⟨b,h1,h2⟩:=zeh (K:=K) (t:=.type "int") I (by with_unfolding_all rfl) (by with_unfolding_all rfl) (by with_unfolding_all rfl) (by with_unfolding_all rfl);exact⟨_,b,.int _,h1,h2⟩
 |bl i=>obtain rfl:=h.blI;obtain⟨b,h1,h2⟩:=zeh (K:=K) (t:=.type "bool") I (by with_unfolding_all rfl) (by with_unfolding_all rfl) (by with_unfolding_all rfl) (by with_unfolding_all rfl);exact⟨_,b,.bl _,h1,h2⟩
 |non=>obtain rfl:=h.nonI;obtain⟨b,h1,h2⟩:=zeh (K:=K) (t:=.type "NoneType") I (by with_unfolding_all rfl) (by with_unfolding_all rfl) (by with_unfolding_all rfl) (by with_unfolding_all rfl);exact⟨_,b,.non,h1,h2⟩
 |str i=>obtain rfl:=h.strI;obtain⟨b,h1,h2⟩:=zeh (K:=K) (t:=.type "str") I (by with_unfolding_all rfl) (by with_unfolding_all rfl) (by with_unfolding_all rfl) (by with_unfolding_all rfl);exact⟨_,b,.str _,h1,h2⟩
 |tup i=>obtain⟨_,_,rfl,e,_⟩:=h.tupI;obtain⟨b,h1,h2⟩:=zeh (K:=K) (t:=.type "tuple") I (by with_unfolding_all rfl) (by with_unfolding_all rfl) (by with_unfolding_all rfl) (by with_unfolding_all rfl);exact⟨_,b,.tup e,h1,h2⟩
 |lst i=>obtain⟨_,_,rfl,e,_⟩:=h.lstI;obtain⟨b,h1,h2⟩:=zeh (K:=K) (t:=.type "list") I (by with_unfolding_all rfl) (by with_unfolding_all rfl) (by with_unfolding_all rfl) (by with_unfolding_all rfl);exact⟨_,b,.lst e,h1,h2⟩
 |_=>exact(zrr I).elim
theorem zix:bootBuiltins "isinstance"=some (.builtin "isinstance"):=by decide +kernel
def zqr(I:Gl X "isinstance")(hm:X.mg "isinstance"=none)(a3:Gl X x)(U:X.mg x=none)(J:bootBuiltins x=some (.type T))(hn:x ≠ "__name__")(a4:(x==("__debug__":Str))=false)(hp:zbV e=true)(he:PE X e (tH cl E f)):
  PE X (.Call (.Name "isinstance" p) [e,.Name x p2] [] pos) (tE cl E (eUn (zeF T) f)):=by
 refine PE.imp (zed zi9 I hm zix (zbH he (zbH (zl5 (v:=.ty T) a3 U J rfl hn a4) zdp rfl) (zbi hp)) (he:=zbi hp) (ae:=rfl)) ?_;rintro σ H Q ⟨B,w,ρ,S,rfl,R,q⟩;refine⟨B,w,ρ,S,rfl,R,?_⟩;unfold eUn at q
 cases hf:f ρ S with
 |bad=>rwa[hf]at q|exc c S1=>rwa[hf]at q|ok d S1=>
  rw[hf]at q;intro v g a F1 h1;dsimp only[Out.bind]at q
  cases I:zeF T d with
  |none=>rw[I]at q;exact q.elim|some r=>
   rw[I]at q;obtain⟨t,b,h2,h,rfl⟩:=zrq (K:=X.K) (h1.top a) I;exact⟨v,t,T,b,rfl,h2,h,q _ g a F1 (.bl _)⟩
def zi6(f:Fe):Fi:=fun ρ S=>(f ρ S).bind fun d S1=>match d with|.scr l=>.ok (l.map D.int) S1|_=>.bad
def zsN(I:X.K=cl.K)(he:PE X e (tE cl E f)):PI X tg e (tI cl E (zi6 f)):=by
 refine PI.imp (zlV he) ?_;rintro σ H Q ⟨B,w,ρ,S,rfl,R,q⟩;refine⟨B,w,ρ,S,rfl,R,?_⟩;unfold zi6 at q
 cases hf:f ρ S with
 |bad=>rwa[hf]at q|exc c S1=>rwa[hf]at q|ok d S1=>
  rw[hf]at q;intro v w' n o h';dsimp only[Out.bind]at q
  cases d with
  |scr l=>
   obtain⟨a,rfl,_⟩:=h'.scrI I
   have h:∀b,Fut w' b->SqL X.K b.H a (l.map V.int):=fun b F1=>by
    obtain⟨p,e,m⟩:=(h'.up F1).scrI I;cases e;exact m
   refine⟨a,rfl,⟨_,h _ (Fut.refl _)⟩,q _ w' n o ?_⟩;refine⟨fun b F1 i hi=>⟨_,(l.map V.int)[i]'(by simpa using hi),h _ F1,yab (by simpa using hi)⟩,fun b F1=>⟨_,h _ F1,by simp⟩,fun b F1 i d x H1 hd y=>?_⟩;obtain⟨rfl,k⟩:=y;have g:=k _ (h _ F1);rw[yao]at g hd
   cases j:l[i]? with
   |none=>rw[j]at g;cases g|some z=>
    rw[j]at g hd;cases g;cases hd;exact⟨b,rfl,Grow.refl _,.int _⟩
  |_=>exact q.elim
def za1(f:Fe):Fi:=fun ρ S=>(f ρ S).bind fun d S1=>match d with|.lst l=>.ok l S1|.tup l=>.ok l S1|.scr l=>.ok (l.map D.int) S1|_=>.bad
def zsO(J:X.K=cl.K)(he:PE X e (tE cl E f)):PI X tg e (tI cl E (za1 f)):=by
 intro pins s σ H a I q;obtain⟨B,w,ρ,S,rfl,R,q⟩:=q;unfold za1 at q
 cases hf:f ρ S with
 |bad=>rw[hf]at q;exact q.elim|exc c S1=>
  refine zlo he pins s σ w.H a I ⟨B,w,ρ,S,rfl,R,?_⟩;unfold zj6;rw[hf]at q ⊢;exact q
 |ok d S1=>
  rw[hf]at q;dsimp only[Out.bind]at q
  cases d with
  |lst l=>
   refine zlo he pins s σ w.H a I ⟨B,w,ρ,S,rfl,R,?_⟩;unfold zj6;rw[hf];exact q
  |tup l=>
   refine zsM he pins s σ w.H a I ⟨B,w,ρ,S,rfl,R,?_⟩;unfold zi5;rw[hf];exact q
  |scr l=>
   refine zsN J he pins s σ w.H a I ⟨B,w,ρ,S,rfl,R,?_⟩;unfold zi6;rw[hf];exact q
  |_=>exact q.elim
end
end S2
namespace L2
open PySem PySem.Spec PyProof.Rows
noncomputable abbrev IsT(h:Heap)(T:Addr)(os:List Value):Prop:=h.get? T=some {cls:=.type "tuple",data:=.seq os.toArray}
noncomputable abbrev Stops(h:Heap)(e:Addr):Prop:=∃o,h.get? e=some o/\o.cls=.type "StopIteration"
structure ZSt(a l m i:Nat)(f:Value)(h:Heap):Prop where
 z:IsZip h (a+4) (a+2) (a+3) f
 ti:IsT h (a+2) [.ref a,.ref (a+1)]
 to:∃x y,IsT h (a+3) [x,y]
 i1:h.IsTupleIter a l i
 i2:h.IsTupleIter (a+1) m i
section
variable{prog:Program}{w:World}{A:Around}{E:Z5}{s:Shared}{a l m k:Nat}{us vs:Array Value}
def zjk{h h':Heap}{t:Addr}(p:h.IsTuple t vs)(q:∀o,h.get? t=some o->h'.get? t=some o):h'.IsTuple t vs:=by
 obtain⟨o,a,r⟩:=p;exact⟨o,q o a,r⟩
theorem zpQ{β:Type}{f:Value×Nat->β->Sem (ForInStep β)}{b:β}{Q:β->Shared->Prop}{x0 y0:Value}
  (hf:∀(c l n:Nat) (vs:Array Value) (os:List Value) (s:Shared) (Q:ForInStep β->Shared->Prop),l<c->c<a+3->os.length=2->IsZip s.heap (a+4) (a+2) (a+3) .ellipsis->IsT s.heap (a+3) os->s.heap.IsTupleIter c l k->s.heap.IsTuple l vs->k<=vs.size →
   (∀x h' tk,vs[k]?=some x->IsT h' (a+3) (os.set n x)->h'.IsTupleIter c l (k+1)->h'.objs.size=s.heap.objs.size->(∀(d:Nat) (o:Obj),d≠a+3->d≠c->s.heap.get? d=some o->h'.get? d=some o)->Q (.yield b) {s with heap:=h',toks:=tk}) →
   (k=vs.size->∀h' e tk,(∀(d:Nat) (o:Obj),d≠a+4->d≠c->s.heap.get? d=some o->h'.get? d=some o)->Stops h' e->E (.ref e) {s with heap:=h',toks:=tk})->wpAny (model prog w) A (f (.ref c,n) b) Q E s)
  (hl:l<a) (hm:m<a) (J:IsZip s.heap (a+4) (a+2) (a+3) .ellipsis) (hO:IsT s.heap (a+3) [x0,y0]) (h1:s.heap.IsTupleIter a l k) (h2:s.heap.IsTupleIter (a+1) m k) (hu:s.heap.IsTuple l us) (hv:s.heap.IsTuple m vs) (hk:k<=us.size) (I:k<=vs.size)
  (hQ:∀x y h' tk,us[k]?=some x->vs[k]?=some y->IsT h' (a+3) [x,y]->h'.IsTupleIter a l (k+1)->h'.IsTupleIter (a+1) m (k+1)->h'.objs.size=s.heap.objs.size->(∀(d:Nat) (o:Obj),d≠a->d≠a+1->d≠a+3->s.heap.get? d=some o->h'.get? d=some o)->Q b {s with heap:=h',toks:=tk})
  (U:(k=us.size\/k=vs.size)->∀h' e tk,(∀(d:Nat) (o:Obj),(d<a\/a+4<d)->s.heap.get? d=some o->h'.get? d=some o)->Stops h' e->E (.ref e) {s with heap:=h',toks:=tk}):
  wpAny (model prog w) A (forIn [((.ref a:Value),0),(.ref (a+1),1)] b f) Q E s:=by
 rw[ycB];refine yaa (hf a l 0 us _ s _ hl (by omega) rfl J hO h1 hu hk (fun x g tk G u z r k1=>?_) (fun e h' B tk k1=>U (.inl e) h' B tk fun d o p q=>k1 d o (by omega) (by omega) q));show wpAny _ _ (forIn [((.ref (a+1):Value),1)] b f) _ _ _;rw[ycB];refine yaa (hf (a+1) m 1 vs _ _ _ (by omega) (by omega) rfl (k1 _ _ (by omega) (by omega) J) u (h2.at fun o e=>k1 _ o (by omega) (by omega) e) (zjk hv fun o e=>k1 _ o (by omega) (by omega) e) I (fun y g2 h F t v j k2=>?_) (fun e h' B i k2=>U (.inr e) h' B i fun d o p q=>k2 d o (by omega) (by omega) (k1 d o (by omega) (by omega) q)));exact yaf (hQ x y g2 h G F t (z.at fun o e=>k2 _ o (by omega) (by omega) e) v (j.trans r) fun d o D p2 C e=>k2 d o C p2 (k1 d o C D e))
theorem zji{Q:Z5}(hh:A.handled=none)(Z:ZSt a l m k .none s.heap)(hl:l<a)(hm:m<a)(hu:s.heap.IsTuple l us)(U:s.heap.IsTuple m vs)(hk:k<=us.size)(a3:k<=vs.size)
  (hQ:∀x y h' tk,us[k]?=some x->vs[k]?=some y->ZSt a l m (k+1) (rawInt s.heap.objs.size) h'->IsT h' s.heap.objs.size [x,y]->(∀(c:Nat) (o:Obj),(c<a\/a+4<c)->s.heap.get? c=some o->h'.get? c=some o)->Q (.ref s.heap.objs.size) {s with heap:=h',toks:=tk})
  (hE:(k=us.size\/k=vs.size)->∀h' e tk,(∀(c:Nat) (o:Obj),(c<a\/a+4<c)->s.heap.get? c=some o->h'.get? c=some o)->Stops h' e->E (.ref e) {s with heap:=h',toks:=tk}):
  wpAny (model prog w) A (Builtin.«zip.__next__» ⟨[.ref (a+4)],[]⟩) (fun fin s'=>∃v,fin=.done (.ret v)/\Q v s') E s:=by
 obtain⟨G,N,⟨x0,y0,S⟩,h1,h2⟩:=Z;show wpAny _ _ (field (.ref (a+4)) 2 >>= _) _ _ _;refine yaa (ybG G rfl (x:=.bool false) rfl ?_);show wpAny _ _ (field (.ref (a+4)) 3 >>= _) _ _ _;refine yaa (ybG G rfl (x:=.ref (a+2)) rfl ?_);refine yaa (yb2 N rfl ?_);show wpAny _ _ (Builtin.SmallTypes.ownedTupleIsFree (.ref (a+4)) >>= _) _ _ _;refine yaa ?_;unfold Builtin.SmallTypes.ownedTupleIsFree;refine yaa (ybG G rfl (x:=.none) rfl (yaf ?_));simp only[ycM];refine yaa (ydo ?_);refine yaa (ybG G rfl (x:=.ref (a+3)) rfl ?_);refine yaa (ycE G (by simp) fun g r C=>?_);replace r:IsZip g (a+4) (a+2) (a+3) .ellipsis:=r;have k₁:∀(c:Nat) (o:Obj),c≠a+4->s.heap.get? c=some o->g.get? c=some o:=fun c o J e=>C.extBut _ _ J e
 refine yaa (zpQ (a:=a) (l:=l) (m:=m) (k:=k) (us:=us) (vs:=vs) (fun c l n vs os s Q J V ho G S N U hk O he=>?_) hl hm r (k₁ _ _ (by omega) S) (h1.at fun o e=>k₁ _ o (by omega) e) (h2.at fun o e=>k₁ _ o (by omega) e) (zjk hu fun o e=>k₁ _ o (by omega) e) (zjk U fun o e=>k₁ _ o (by omega) e) hk a3 (fun x y b tk O hy i i1 i2 f k₂=>?_) (fun e h' e' tk k'=>hE e h' e' tk fun c o J q=>k' c o J (k₁ c o (by omega) q)))
 ·have D:=ziq (prog:=prog) (w:=w) hh c l (yaA J) vs;refine yaa (wpAny_onRaise ?_);show wpAny _ _ (Builtin.SmallTypes.nextOf (.ref c) >>= _) _ _ _
  rcases Nat.lt_or_eq_of_le hk with P|rfl
  ·refine yaa (D.item k _ _ _ P ⟨N,U⟩ fun x b F px I f=>yaf ?_);have i:IsT b (a+3) os:=f.extBut _ _ (yaO V) S;refine yaa (yb2 i rfl ?_)
   have X:os.length<=9:=by omega
   refine yaa (wpAny_updateSeq i rfl ?_ (by simp;exact yal X (by decide)) (by simp;exact yal X (by decide)));have h:=Heap.SameBut.update b (a+3) (Obj.mapSeq (·.setIfInBounds n x));refine yaa (wpAny_letGo (yaf (O x _ F px ?_ (I.1.at fun o e=>h.extBut _ _ (yaA V) e) (h.1.trans f.1) fun d o c1 T e=>h.extBut _ _ c1 (f.extBut _ _ T e))));show Heap.get? _ (a+3)=_;rw[yca _ i rfl];simp[Obj.mapSeq]
  ·refine yaa (D.done _ _ _ ⟨N,U⟩ fun b e f hs=>?_);obtain⟨Y,H,M⟩:=hs;have j:=f _ _ (show a+4≠c by omega) G
   have R:e≠a+4:=fun x=>by subst x;rw[j]at H;cases H;simp at M
   exact ycE j (by simp) fun L _ h=>he rfl L e _ (fun d o c1 T q=>h.extBut _ _ c1 (f _ _ T q)) ⟨Y,h.extBut _ _ R H,M⟩
 ·refine yaa (yb2 i rfl ?_);refine yaa (wpAny_newTuple ?_ (hsz:=by show(2:Nat)<=_;decide));have j:IsZip b (a+4) (a+2) (a+3) .ellipsis:=k₂ _ _ (by omega) (by omega) (by omega) r;have hsz:b.objs.size=s.heap.objs.size:=f.trans C.1;show wpAny _ _ (Builtin.SmallTypes.ownedTupleHandOut (.ref (a+4)) (.ref b.objs.size) >>= _) _ _ _;refine yaa ?_;unfold Builtin.SmallTypes.ownedTupleHandOut;refine yaa (ycE (yae _ j) (by simp) fun K t B=>?_);replace t:IsZip K (a+4) (a+2) (a+3) (rawInt b.objs.size):=t;refine ycE t (by simp) fun u p z=>?_
  replace p:IsZip u (a+4) (a+2) (a+3) (rawInt b.objs.size):=p;have lt:a+4<b.objs.size:=yap j;have up:∀(c:Nat) (o:Obj),c≠a+4->b.get? c=some o->u.get? c=some o:=fun c o c1 e=>z.extBut _ _ c1 (B.extBut _ _ c1 (yae _ e))
  have W:IsT u b.objs.size [x,y]:=z.extBut _ _ (yaO lt) (B.extBut _ _ (yaO lt) (yaq _ rfl));rw[hsz]at p W;refine yaf ⟨_,rfl,?_⟩;show Q (.ref b.objs.size) _;rw[hsz];exact hQ x y u tk O hy ⟨p,up _ _ (by omega) (k₂ _ _ (by omega) (by omega) (by omega) (k₁ _ _ (by omega) N)),⟨x,y,up _ _ (by omega) i⟩,i1.at fun o e=>up _ o (by omega) e,i2.at fun o e=>up _ o (by omega) e⟩ W fun c o J e=>up c o (by omega) (k₂ c o (by omega) (by omega) (by omega) (k₁ c o (by omega) e))
def zml:Meets (Builtin.«zip.__new__» ⟨[.type "zip",.ref l,.ref m],[]⟩) (fun _ R s=>s.heap.IsTuple l us/\s.heap.IsTuple m vs ∧
   ∀h' n,n=s.heap.objs.size->(∀(c:Nat) (o:Obj),s.heap.get? c=some o->h'.get? c=some o)->ZSt n l m 0 .none h'->R (.ok (.ret (.ref (n+4)))) {s with heap:=h'}):=
 .of_wp fun prog w A R s h=>by
  obtain⟨q,g,d,tk,os⟩:=s;obtain⟨f,b,h⟩:=h;have k:=sub_zip;have j:Heap.IsTuple (Shared.heap ⟨q,g,d,tk,os⟩) l us:=f;have i:Heap.IsTuple (Shared.heap ⟨q.push {cls:=.type "tuple_iterator",data:=.fields #[.ref l,.int 0 0]},g,d,tk,os⟩) m vs:=zjk b fun o e=>yae _ e
  wp_walk using yb4 j,yb4 i
  refine⟨_,rfl,?_⟩;have p {h:Heap}{o':Obj}{a:Addr}{o:Obj} (e:h.get? a=some o):(h.push o').get? a=some o:=yae _ e
  have u:∀{h:Heap}{o:Obj}{a:Addr},a=h.objs.size->o.isFreed=false->(h.push o).get? a=some o:=fun e r=>by rw[e];exact yaq _ r
  simp only[yba];exact h _ _ rfl (fun c o e=>p (p (p (p (p e))))) ⟨u (by simp only[yba]) rfl,p (p (u (by simp only[yba]) rfl)),⟨_,_,p (u (by simp only[yba]) rfl)⟩,⟨_,p (p (p (p (u rfl rfl)))),rfl,rfl⟩,⟨_,p (p (p (u (by simp only[yba]) rfl))),rfl,rfl⟩⟩
end
noncomputable def zFp(a:Nat):List Addr:=(List.range 5).map (a+·)
theorem zfj{a b:Nat}:b∈zFp a↔a<=b/\b<a+5:=by
 unfold zFp;rw[yar];exact⟨fun⟨j,c,e⟩=>by rw[yaX]at c;have e:a+j=b:=e;omega,fun⟨h1,h2⟩=>⟨b-a,yaX.mpr (by omega),by show a+(b-a)=b;omega⟩⟩
theorem ziG{a b:Nat}(h:b ∉ zFp a):b<a\/a+4<b:=by rw[zfj]at h;omega
theorem ZSt.keep{a l m i:Nat}{f:Value}{h h':Heap}(Z:ZSt a l m i f h)(k:∀(c:Nat) (o:Obj),a<=c->c<a+5->h.get? c=some o->h'.get? c=some o):ZSt a l m i f h':=
 ⟨k _ _ (by omega) (by omega) Z.z,k _ _ (by omega) (by omega) Z.ti,let ⟨x,y,e⟩:=Z.to;⟨x,y,k _ _ (by omega) (by omega) e⟩,Z.i1.at fun o e=>k _ o (by omega) (by omega) e,Z.i2.at fun o e=>k _ o (by omega) (by omega) e⟩
section
variable{X:Cx}{pins:Z3}{σ:St}{H:Hp}{s:Shared}
noncomputable def ItZ(l m:Addr):It:=
 ⟨fun i H=>∃xs ys,H l=some (.tup xs)/\H m=some (.tup ys)/\i<xs.length/\i<ys.length,
  fun i H v H'=>∃t x y xs ys,v=.ref t/\H t=none/\H'=upd H t (.tup [x,y])/\H l=some (.tup xs)/\H m=some (.tup ys)/\xs[i]?=some x/\ys[i]?=some y,
  fun i H=>∃xs ys,H l=some (.tup xs)/\H m=some (.tup ys)/\i<=xs.length/\i<=ys.length/\(i=xs.length\/i=ys.length)⟩
def zpR{fp:List Addr}{T:Addr}{h2:Heap}{tk:Nat}{us:List Value}{ys:List V}(I:Inv X pins σ H s)(hf:∀b∈fp,zne X pins H b)(J:T=s.heap.objs.size)(te:IsT h2 T us)
  (k:∀b o,b ∉ fp->s.heap.get? b=some o->h2.get? b=some o) (r:Vals ys us) (U:us.length<=9):Inv X pins σ (upd H T (.tup ys)) {s with heap:=h2,toks:=tk}/\H T=none:=by
 have fr:H T=none:=by rw[J];exact I.hok.fresh (yai _)
 refine⟨?_,fr⟩;have f:Inv X pins σ H {s with heap:=h2,toks:=tk}:=I.turnedL (ch:=fp) (fun b o d q=>k b o d q) hf;refine f.track fr (by rw[J];exact I.sz) (by rw[J];exact yaO I.lt) (fun z c q=>?_) (fun p a=>?_) ?_
 ·obtain⟨v,e⟩:=I.cell z c q;rw[J];exact yaA e.lt
 ·rw[J];exact yaA (yap (I.pin p a).1)
 ·exact⟨yal (r.length ▸ U) (by decide),us,r,_,te,rfl,_,rfl⟩
theorem znk{P:Program}{w:World}{K:PySem.W.Frag}{elts:List Expr}{x1:Nat}{pos:Pos}{a l m:Nat}(hl:l<a)(hm:m<a):
  Turn P w K (.Tuple elts x1 pos) (ItZ l m) (zFp a) (a+4) (fun i h=>ZSt a l m i .none h)where
 mem:=zfj.mpr (by omega)
 obj:=fun i h st b d=>by
  obtain⟨hz,hI,⟨x,y,hO⟩,⟨o1,Z,_,d1⟩,⟨o2,Y,_,d2⟩⟩:=st;obtain⟨h1,h2⟩:=zfj.mp d;obtain⟨j,rfl⟩:∃j,b=a+j:=⟨b-a,(ybX h1).symm⟩
  match j,h2 with
  |0,_=>exact⟨_,Z,fun v e=>by rw[d1]at e;cases e⟩
  |1,_=>exact⟨_,Y,fun v e=>by rw[d2]at e;cases e⟩
  |2,_=>exact⟨_,hI,fun v e=>by cases e⟩
  |3,_=>exact⟨_,hO,fun v e=>by cases e⟩
  |4,_=>exact⟨_,hz,fun v e=>by cases e⟩
  |j+5,h=>omega
 keep:=fun i h h' st k=>st.keep fun c o c1 c2 e=>k _ (zfj.mpr ⟨c1,c2⟩) _ e
 item:=by
  intro X U N V n i pins s σ H E I hf st Q;subst U N V;obtain⟨xs,ys,g1,g2,hi,O⟩:=Q;obtain⟨us,g,t1,_⟩:=I.tuple (SqT.of g1);obtain⟨vs,f,B,_⟩:=I.tuple (SqT.of g2);have p:s.TypeIs (.ref (a+4)) "zip":=⟨_,st.z,rfl⟩;unfold pyNext
  refine yaa (yc4 (yaW (name:=Str.ofString "__next__") p yc9 (ya0 yc9 p F.entry_zip_next
   (zji (A:=X.A.in1) (I.ok.hd n) st hl hm t1 B (by rw[yag,<-g.length];exact ycq hi) (by rw[yag,<-f.length];exact ycq O) (fun x y h' tk u t a1 a4 a5=>yaf ?_)
    (fun e=>by rw[yag,yag,<-g.length,<-f.length]at e;omega)) (F.args_zip_next_1 _))))
  have C:a+4<s.heap.objs.size:=yap st.z;refine⟨_,rfl,wpAny_letOwnedTupleGo_zip a1.z fun r D sb=>?_⟩;have kb:∀(c:Nat) (o:Obj),c≠a+4->h'.get? c=some o->r.get? c=some o:=fun c o n e=>(sb.2 c n).trans e
  obtain⟨x',M,L⟩:=g.get (yab hi);obtain⟨y',J,G⟩:=f.get (yab O);rw[List.getElem?_toArray,M]at u;cases u;rw[List.getElem?_toArray,J]at t;cases t;obtain⟨I2,fr⟩:=zpR (tk:=tk) (h2:=r) I hf rfl (kb _ _ (yaO C) a4) (fun b o d q=>kb b o (by have:=ziG d;omega) (a5 b o (ziG d) q)) (.cons L (.cons G .nil)) (by simp);refine⟨.ref s.heap.objs.size,_,I2,rfl,⟨_,_,_,xs,ys,rfl,fr,rfl,g1,g2,yab hi,yab O⟩,⟨D,kb _ _ (by omega) a1.ti,let ⟨x,y,e⟩:=a1.to;⟨x,y,kb _ _ (by omega) e⟩,a1.i1.at fun o e=>kb _ o (by omega) e,a1.i2.at fun o e=>kb _ o (by omega) e⟩,fun b d=>?_⟩;rw[zam (fun e=>by have:=(zfj.mp (e ▸ d)).2;omega)];exact(hf b d).1
 done:=by
  intro X U N V n i pins s σ H E I hf st Q;subst U N V;obtain⟨xs,ys,g1,g2,h1,h2,hi⟩:=Q;obtain⟨us,g,t1,_⟩:=I.tuple (SqT.of g1);obtain⟨vs,f,B,_⟩:=I.tuple (SqT.of g2);have p:s.TypeIs (.ref (a+4)) "zip":=⟨_,st.z,rfl⟩;unfold pyNext
  refine yaa (yc4 (yaW (name:=Str.ofString "__next__") p yc9 (ya0 yc9 p F.entry_zip_next
   (zji (A:=X.A.in1) (I.ok.hd n) st hl hm t1 B (by rw [yag,<-g.length];exact h1) (by rw [yag,<-f.length];exact h2) (fun x y h' tk u t=>by
     have Z:=(ybK.mp u).1;have Y:=(ybK.mp t).1;rw[yag,<-g.length]at Z;rw[yag,<-f.length]at Y
     omega) (fun _ h' e tk hk R=>?_)) (F.args_zip_next_1 _))))
  obtain⟨o,ho,S⟩:=R;refine yaa (ycn (T:="StopIteration") (b:=true) ⟨o,ho,S⟩ isSubtype_stop ?_);exact yaf ⟨rfl,I.turnedL (ch:=zFp a) (fun b o d q=>hk b o (ziG d) q) hf⟩
 self:=fun _ _ _ _ _ st h=>wpAny_pyIter_zip st.z h
theorem zo2:bootBuiltins "zip"=some (.type "zip"):=by decide +kernel
def zrZ(I:Inv X pins σ H1 s1)(g1:H1 l=some (.tup xs))(g2:H1 m=some (.tup ys))(q:R (ItZ l m) H1):
  wpAny (model X.prog X.w) X.A (call (.type "zip") [.ref l,.ref m]) (fun v s2=>wpAny (model X.prog X.w) X.A (pyIter v) (PIE X pins σ (.Tuple elts x1 tp) R) X.xe s2) X.xe s1:=by
 obtain⟨us,i,t1,_⟩:=I.tuple (SqT.of g1);obtain⟨vs,h,d,_⟩:=I.tuple (SqT.of g2);refine callType_new F.called_zip (by decide) (F.typeCall_zip_2 _ _) (F.newCall_zip_2 _ _) (fun o=>F.args_object_init_3 o _ _) F.entry_zip_new zml ⟨t1,d,fun h' n b f Z=>?_⟩;refine⟨⟨_,Z.z,rfl⟩,wpAny_pyIter_zip Z.z ?_⟩;refine⟨n+4,zFp n,_,_,H1,rfl,I.kept (t':=s1.toks) f,znk ?_ ?_,Z,fun c g=>?_,q⟩
 ·obtain⟨o,a,_⟩:=t1;rw[b];exact yap a
 ·obtain⟨o,a,_⟩:=d;rw[b];exact yap a
 ·have e:s1.heap.objs.size<=c:=b ▸ (zfj.mp g).1;exact I.fpOk e (I.hok.fresh e)
end
end L2
namespace S2
open PySem PySem.Spec PyProof.Rows L2
section
variable{X:Cx}{cl:Cf}{E:St->XK}{e tg:Expr}{f:Fe}{own:Bool}{pos pos':Pos}
noncomputable def zdh(l:List D):List D:=l.zipIdx.map fun p=>.tup [.int p.2,p.1]
def zfb(l:List D):(zdh l).length=l.length:=by unfold zdh;rw[yad,List.length_zipIdx]
def zfc{l:List D}{i:Nat}{d:D}(h:(zdh l)[i]?=some d):∃y,l[i]?=some y/\d=.tup [.int i,y]:=by
 unfold zdh at h;rw[yao,List.getElem?_zipIdx]at h
 cases a:l[i]? with
 |none=>rw[a]at h;cases h|some y=>
  rw[a]at h;refine⟨y,rfl,?_⟩;have:=Option.some.inj h;rw[<-this];simp
def zkP(f:Fe):Fi:=fun ρ S=>(zao [f] ρ S).bind fun ds S1=>match ds with|[.lst l]=>.ok (zdh l) S1|[.tup l]=>.ok (zdh l) S1|_=>.bad
theorem zpx(I:∀w',Fut w w'->S w'.H a xs)(r:Shds cl w xs l):ItOk cl w (ItE S a) (zdh l):=by
 have k:=r.length;have h:=zfb l;refine⟨fun b F1 i hi=>⟨xs,xs[i]'(by omega),I b F1,yab (by omega)⟩,fun b F1=>⟨xs,I b F1,by omega⟩,fun b F1 i d x H1 hd y=>?_⟩;obtain⟨t,v,rfl,ht,rfl,f⟩:=y;obtain⟨z,e,rfl⟩:=zfc hd;have g:=f xs (I b F1);obtain⟨d',c,j⟩:=r.get g;rw[e]at c;cases c;exact⟨b.add t _,rfl,zaF ht _,Shd.newT ht (.cons (.int _) (.cons (j.up F1) .nil))⟩
def zqk(J:Gl X "enumerate")(hm:X.mg "enumerate"=none)(U:PA X [e] (tAs cl E [f]))(hs:starEach [e] X.env=[(false,eval e X.env)]):PI X (.Tuple es kk tp) (.Call (.Name "enumerate" p) [e] [] pos) (tI cl E (zkP f)):=by
 intro pins s σ H b I q;obtain⟨B,w,ρ,S,rfl,R,q⟩:=q;unfold zkP at q;have L:=zn1 (elts:=es) (x1:=kk) (tp:=tp) (p:=p) (pos:=pos) J hm U rfl hs pins s σ w.H b I;have T:=zn0 (elts:=es) (x1:=kk) (tp:=tp) (p:=p) (pos:=pos) J hm U rfl hs pins s σ w.H b I
 cases hf:zao [f] ρ S with
 |bad=>rw[hf]at q;exact q.elim|exc c S1=>
  refine L ⟨B,w,ρ,S,rfl,R,?_⟩;rw[hf]at q ⊢;exact q
 |ok ds S1=>
  rw[hf]at q;dsimp only[Out.bind]at q;split at q
  ·rename_i g S' a;split at a
   ·rename_i l;cases a;refine L ⟨B,w,ρ,S,rfl,R,?_⟩;rw[hf];intro vs w' R2 F2 sh
    cases sh with
    |cons h1 h2=>
     cases h2
     cases h1 with
     |lst ep k r=>exact⟨_,rfl,⟨_,SqL.of ep⟩,q _ w' R2 F2 (zpx (fun d F1=>SqL.of (F1.keep _ _ ep k).1) r)⟩
   ·rename_i l;cases a;refine T ⟨B,w,ρ,S,rfl,R,?_⟩;rw[hf];intro vs w' R2 F2 sh
    cases sh with
    |cons h1 h2=>
     cases h2
     cases h1 with
     |tup ep k r=>exact⟨_,rfl,⟨_,SqT.of ep⟩,q _ w' R2 F2 (zpx (fun d F1=>SqT.of (F1.keep _ _ ep k).1) r)⟩
   ·cases a
  ·rename_i a;split at a<;>cases a
  ·exact q.elim
noncomputable def zhH:List D->List D->List D
 |x::xs,y::ys=>.tup [x,y]::zhH xs ys|_,_=>[]
theorem zfF:∀(xs ys:List D),(zhH xs ys).length=min xs.length ys.length
 |[],_=>by simp[zhH]
 |_::_,[]=>by simp[zhH]
 |_::xs,_::ys=>by simp[zhH,zfF xs ys]
theorem zg4:∀{xs ys:List D}{i:Nat}{d:D},(zhH xs ys)[i]?=some d->∃x y,xs[i]?=some x/\ys[i]?=some y/\d=.tup [x,y]
 |[],_,_,_,h=>by simp[zhH]at h
 |_::_,[],_,_,h=>by simp[zhH]at h
 |x::xs,y::ys,0,d,h=>by
  simp only[zhH,ycF,Option.some.injEq]at h;exact⟨x,y,rfl,rfl,h.symm⟩
 |x::xs,y::ys,i+1,d,h=>by
  simp only[zhH,ycG]at h ⊢;exact zg4 h
def zrX(f g:Fe):Fi:=fun ρ S=>(zao [f,g] ρ S).bind fun ds S1=>match ds with|[.tup l,.tup k]=>.ok (zhH l k) S1|_=>.bad
theorem zuw(h1:∀w',Fut w w'->w'.H U=some (.tup xs))(h2:∀w',Fut w w'->w'.H J=some (.tup ys))(r1:Shds cl w xs ds)(I:Shds cl w ys es):ItOk cl w (ItZ U J) (zhH ds es):=by
 have p:=r1.length;have o:=I.length;have n:=zfF ds es;refine⟨fun a F1 i hi=>⟨xs,ys,h1 a F1,h2 a F1,by omega,by omega⟩,fun a F1=>⟨xs,ys,h1 a F1,h2 a F1,by omega,by omega,by omega⟩,fun a F1 i d x H1 hd y=>?_⟩;obtain⟨t,v1,v2,h,g,rfl,ht,rfl,g1,g2,k,j⟩:=y;obtain⟨m,l,c,b,rfl⟩:=zg4 hd;cases (h1 a F1).symm.trans g1;cases (h2 a F1).symm.trans g2;obtain⟨d1,f,s1⟩:=r1.get k;obtain⟨d2,e,s2⟩:=I.get j;rw[c]at f;cases f;rw[b]at e;cases e;exact⟨a.add t _,rfl,zaF ht _,Shd.newT ht (.cons (s1.up F1) (.cons (s2.up F1) .nil))⟩
def zsL(U:Gl X "zip")(hm:X.mg "zip"=none)(ha:PA X [a,e] (tAs cl E [fa,f]))(hs:starEach [a,e] X.env=(false,eval a X.env)::starEach [e] X.env)(J:(backTo pos (starEach [e] X.env)).any (·.1)=false):PI X (.Tuple es kk tp) (.Call (.Name "zip" p) [a,e] [] pos) (tI cl E (zrX fa f)):=by
 intro pins s σ H o I q;refine Call_ (ze4 I U hm L2.zo2 (ya3 (thn (ha pos pins s σ H (fun vs H1=>∃l m xs ys,vs=[.ref l,.ref m]/\H1 l=some (.tup xs)/\H1 m=some (.tup ys)/\o (ItZ l m) H1) I ?_) fun us s1 ⟨vs,H1,r,r1,i⟩=>?_) hs J))
 ·obtain⟨B,w,ρ,S,rfl,R,q⟩:=q;refine⟨B,w,ρ,S,rfl,R,?_⟩;dsimp only[zrX]at q
  cases hf:zao [fa,f] ρ S with
  |bad=>rw[hf]at q;exact q.elim|exc c S1=>rwa[hf]at q|ok ds S1=>
   rw[hf]at q;dsimp only[Out.bind]at q;intro vs w' R2 F2 sh
   have j:(∃l k,ds=[.tup l,.tup k])\/(match ds with|[.tup l,.tup k]=>Out.ok (zhH l k) S1|_=>.bad)=.bad:=by
    split
    ·exact .inl ⟨_,_,rfl⟩
    ·exact .inr rfl
   rcases j with⟨l,k,rfl⟩|e
   ·cases sh with
    |cons h1 h2=>
     cases h2 with
     |cons h2 n=>
      cases n
      cases h1 with
      |tup d k1 r1=>
       cases h2 with
       |tup b k2 h=>
        exact⟨_,_,_,_,rfl,(Fut.refl w').keep _ _ d k1 |>.1,(Fut.refl w').keep _ _ b k2 |>.1,q _ w' R2 F2 (zuw (fun g F1=>(F1.keep _ _ d k1).1) (fun g F1=>(F1.keep _ _ b k2).1) r1 h)⟩
   ·rw[e]at q;exact q.elim
 ·obtain⟨l,m,xs,ys,rfl,g1,g2,q⟩:=i
  cases r1 with
  |cons a1 r1=>
   cases r1 with
   |cons a2 r1=>cases r1;cases a1;cases a2;exact zrZ r g1 g2 q
noncomputable def zeU(j c:Int):List D:=(List.range ((j+c-1) / c).toNat).map fun(i:Nat)=>.int (i*c)
def zkN(f g h:Fe):Fi:=fun ρ S=>(zao [f,g,h] ρ S).bind fun ds S1=>match ds with|[.int i,.int j,.int c]=>if i=0/\0<=j/\j<=1000/\1<=c/\c<=1000 then .ok (zeU j c) S1 else .bad|_=>.bad
def zuy:ItOk cl w (Itq 0 c ((j+c-1) / c).toNat) (zeU j c):=by
 have e:(zeU j c).length=((j+c-1) / c).toNat:=by unfold zeU;rw[yad,ybu]
 refine⟨fun a F1 i h=>by rw[e]at h;exact h,fun a F1=>by rw[e];exact yai _,fun a F1 i d x H1 hd y=>?_⟩;obtain⟨rfl,rfl⟩:=y;unfold zeU at hd;rw[yao]at hd
 cases b:(List.range ((j+c-1) / c).toNat)[i]? with
 |none=>rw[b]at hd;cases hd|some k=>
  rw[b]at hd;have:=(yaj.mp b).2;rw[ydl]at this;subst this;cases hd;refine⟨a,rfl,Grow.refl _,?_⟩;rw[Int.zero_add];exact .int _
def zqi(J:Gl X "range")(hm:X.mg "range"=none)(U:PA X [a,b,e] (tAs cl E [fa,fb,f]))(hs:starEach [a,b,e] X.env=(false,eval a X.env)::starEach [b,e] X.env)(I:(backTo pos (starEach [b,e] X.env)).any (·.1)=false):PI X tg (.Call (.Name "range" p) [a,b,e] [] pos) (tI cl E (zkN fa fb f)):=by
 refine PI.imp (zlT J hm U hs I) ?_;rintro σ H Q ⟨B,w,ρ,S,rfl,R,q⟩;refine⟨B,w,ρ,S,rfl,R,?_⟩;unfold zkN at q
 cases hf:zao [fa,fb,f] ρ S with
 |bad=>rwa[hf]at q|exc c S1=>rwa[hf]at q|ok ds S1=>
  rw[hf]at q;intro vs w' o r h';dsimp only[Out.bind]at q;split at q
  ·rename_i k S' d;split at d
   ·rename_i i j c;split at d
    ·rename_i g;obtain⟨rfl,h1,h2,h,h4⟩:=g;cases d
     cases h' with
     |cons a1 a2=>cases a1;cases a2 with
      |cons n m=>cases n;cases m with
       |cons c1 l=>
        cases c1;cases l;exact⟨j,c,rfl,h1,h2,h,h4,q _ w' o r zuy⟩
    ·cases d
   ·cases d
  ·rename_i d;split at d<;>first|(split at d<;>cases d)|cases d
  ·exact q.elim
def zrU(i:Nat)(fe:Fe):Fs:=fun ρ S=>match ρ[i]? with
 |some (some (true,.lst l))=>(match fe ρ S with
  |.ok (.lst k) S'=>if small (l.length+k.length)then .nx (ρ.set i (some (true,.lst (l++k)))) S' else .bad
  |.ok _ _=>.bad|.exc c S'=>.ex c ρ S'|.bad=>.bad)
 |_=>.bad
def zsD(hN:X.N[i]?=some x)(U:Vis X.env.scope x)(hd:(x==("__debug__":Str))=false)(J:(x==("__classdict__":Str))=false)(he:PE X e (tH cl E f))
  (ae:zbV e=true) (I:(ap.endLine==cp.line)=true):PS X (.Expr (.Call (.Attribute (.Name x pos') "extend" ap) [e] [] cp) pos) (tS cl E own (zrU i f)):=by
 refine PS.imp (zf4 (zl4 (es:=[]) ya7 PySem.F.slot_list_extend PySem.F.type_list_extend zmh (zbg hN U hd J) (zbH he zdp (zbi ae)) (hfew:=zil (by simp[ae]) (by simp)) (aa:=I) (hs:=zbi ae) (ah:=rfl))) ?_;rintro A σ H ⟨B,w,ρ,S,rfl,R,q⟩;unfold zrU at q;split at q
 ·rename_i l u;obtain⟨a,xs,p,h1,h2,t⟩:=R.list u;refine⟨_,p,.inl ⟨rfl,_,SqL.of h2⟩,B,w,ρ,S,rfl,R,?_⟩
  cases hf:f ρ S with
  |bad=>rwa[hf]at q|exc c S1=>rw[hf]at q;exact fun w' m r=>q σ w' m r|ok d S1=>
   rw[hf]at q;intro v w' m r h'
   cases d with
   |lst k=>
    dsimp only at q
    cases n:small (l.length+k.length)with
    |false=>rw[n,if_neg (by decide)]at q;exact q.elim
    |true=>
     rw[n,if_pos rfl]at q;obtain⟨z,g,j,h,o,t'⟩:=m.list u;rw[p]at j;cases j;obtain⟨b,zs,rfl,y,s⟩:=(h'.top m).lstI;refine⟨a,b,g,zs,rfl,rfl,o,y,by rw[t'.length,s.length];exact zbp n,?_⟩;exact q σ (w'.mut a (.lst (g++zs))) (m.mut (d0:=.non) p h (.lst (t'.append s))) (r.trans (zc9 (by rw[h];exact yaC _)))
   |_=>exact q.elim
 ·exact q.elim
end
section
variable{X:Cx}{cl:Cf}{E:St->XK}{e:Expr}{f:Fe}{pos':Pos}
def eMt(g:List D->D->Option D)(i:Nat)(f:Fe):Fe:=fun ρ S=>match ρ[i]? with|some (some (_,.lst l))=>(f ρ S).bind fun d S1=>Out.of (g l d) S1|_=>.bad
def zg1(l:List D)(d:D):Option D:=if d.fit 8&&D.fits 8 l then some (.int ((l.countP (zeX · d):Nat):Int))else none
def zgU(l:List D)(d:D):Option D:=if d.fit 8&&D.fits 8 l&&decide (l.length<=1000000)&&zif d l then some (.int ((l.findIdx (zeX · d):Nat):Int))else none
def Rel.lstAny{B:Base}{σ:St}{w:Wd}{ρ:Env}{S:Sto}{i:Nat}{o:Bool}{l:List D}(R:Rel cl B σ w ρ S)(h:ρ[i]?=some (some (o,.lst l))):∃a xs,σ[i]?=some (some (.ref a))/\w.H a=some (.lst xs)/\Shds cl w xs l:=by
 cases o with
 |true=>obtain⟨a,xs,b,_,h2,t⟩:=R.list h;exact⟨a,xs,b,h2,t⟩|false=>
  obtain⟨v,b,sh⟩:=R.slots i false _ h
  cases sh with
  |lst ep k r=>exact⟨_,_,b,ep,r⟩
noncomputable def MtB(X:Cx)(cl:Cf)(id:String)(g:List D->D->Option D):Prop:=MtM X id fun x vs H Q=>∃(a:Addr) (xs:List V) (l:List D) (w:Wd) (d:D) (v:V) (r:Int),w.H=H/\x=.ref a/\vs=[v]/\w.H a=some (.lst xs)/\Shds cl w xs l/\TopV cl w v d/\g l d=some (.int r)/\Q (.int r) H
theorem zfB{s:Shared}{d:D}:∀{I:List Value}{ds:List D}{as:List Addr},ReadsAll s.heap I (D.pys ds) as->D.fits 8 ds=true->I.countP (fun y=>(SeqAt.readOf s.heap y).eqv d.py)=ds.countP (zeX · d)
 |[],[],_,_,_=>rfl|[],_::_,_,h,_=>by cases h
 |_::_,[],_,h,_=>by cases h
 |v::I,e::ds,_,h,f=>by
  simp only[D.fits,yac]at f
  cases h with
  |cons h1 h2=>
   rw[List.countP_cons,List.countP_cons,zfB h2 f.2,ziQ (D.lay f.1).1 h1];rfl
theorem zfn{s:Shared}{d:D}:∀{I:List Value}{ds:List D}{as:List Addr},ReadsAll s.heap I (D.pys ds) as->D.fits 8 ds=true->∀(m:Nat) (hm:m<I.length),∃e,ds[m]?=some e/\(SeqAt.readOf s.heap I[m]).eqv d.py=zeX e d
 |[],_,_,_,_,m,hm=>by simp at hm
 |_::_,[],_,h,_,_,_=>by cases h
 |v::I,e::ds,_,h,f,m,hm=>by
  simp only[D.fits,yac]at f
  cases h with
  |cons h1 h2=>
   cases m with
   |zero=>exact⟨e,rfl,by show(SeqAt.readOf s.heap v).eqv d.py=_;rw[ziQ (D.lay f.1).1 h1];rfl⟩
   |succ m=>
    obtain⟨b,a,h4⟩:=zfn h2 f.2 m (by simpa using hm);exact⟨b,by simpa using a,by simpa using h4⟩
theorem zgM{s:Shared}:∀{I:List Value}{ds:List D}{as:List Addr},ReadsAll s.heap I (D.pys ds) as->I.length=ds.length
 |[],[],_,_=>rfl|[],_::_,_,h=>by cases h
 |_::_,[],_,h=>by cases h
 |_::I,_::ds,_,h=>by
  cases h with
  |cons _ h2=>rw[yan,yan,zgM h2]
def zor(J:X.K=cl.K)(U:X.A.units+64<cLine):MtB X cl "list.count" zg1:=by
 intro pins s σ H x vs v us Q I f g h;obtain⟨a,xs,l,w,d,p,r,rfl,rfl,rfl,o,sh,tv,b,q⟩:=h;unfold zg1 at b;split at b
 ·rename_i hf;cases b;rw[yac]at hf;cases f;obtain⟨u,rfl,i⟩:=g.one;obtain⟨bs,j⟩:=zh5 I J tv hf.1 i;obtain⟨z,k,n,r,t,e⟩:=I.lstM o;obtain⟨as,c⟩:=zeu I J sh hf.2 r;refine ycs F.slot_list_count ⟨_,e,rfl⟩ F.entry_list_count (F.args_list_count_2 _ _) (SeqAt.list_countAt a _ n none #[] u (fun y=>(SeqAt.readOf s.heap y).eqv d.py)) ⟨e,fun y m=>zcF U j hf.1 c hf.2 y m,?_⟩;rw[zfB c hf.2];exact⟨.int _,w.H,I.tok _,⟨_,rfl⟩,q⟩
 ·cases b
theorem zoq(J:X.K=cl.K)(U:X.A.units+64<cLine):MtB X cl "list.index" zgU:=by
 intro pins s σ H x vs v us Q I k o h;obtain⟨a,xs,l,w,d,G,r,rfl,rfl,rfl,D,sh,tv,f,q⟩:=h;unfold zgU at f;split at f
 ·rename_i hf;cases f;simp only[yac,ybh]at hf;obtain⟨⟨⟨f1,f2⟩,M⟩,j⟩:=hf;cases k;obtain⟨u,rfl,p⟩:=o.one;obtain⟨bs,t⟩:=zh5 I J tv f1 p;obtain⟨z,g,n,r,L,e⟩:=I.lstM D;obtain⟨as,c⟩:=zeu I J sh f2 r;have hlen:=zgM c
  have b:l.findIdx (zeX · d)<l.length:=by
   rw[List.findIdx_lt_length];unfold zif at j;rwa[List.any_eq_true]at j
  refine ycs F.slot_list_index ⟨_,e,rfl⟩ F.entry_list_index (F.args_list_index_2 _ _) (SeqAt.list_indexAt a _ n none #[] u (fun y=>(SeqAt.readOf s.heap y).eqv d.py) (l.findIdx (zeX · d)) (by rw[yag];omega) (by omega) ?_ ?_) ⟨e,fun y C=>zcF U t f1 c f2 y C,?_⟩
  ·obtain⟨E,h1,h2⟩:=zfn (d:=d) c f2 (l.findIdx (zeX · d)) (by omega);simp only[List.getElem_toArray];rw[h2];rw[yab b]at h1;cases h1;exact List.findIdx_getElem (w:=b)
  ·intro m hm i
   have B:m<g.length:=by rwa[yag]at hm
   obtain⟨E,h1,h2⟩:=zfn (d:=d) c f2 m B;simp only[List.getElem_toArray];rw[h2];rw[yab (by omega)]at h1;cases h1;exact List.not_of_lt_findIdx i
  ·exact⟨.int _,w.H,I.tok _,⟨_,rfl⟩,q⟩
 ·cases f
def zsV{id:String}{ap cp:Pos}(slot:Slot "list" name id)(I:typeOf (.builtin id)=pure (.type "method_descriptor"))(hm:MtB X cl id g)(U:∀l d r,g l d=some r->∃n,r=.int n)
  (hN:X.N[i]?=some x) (hv:Vis X.env.scope x) (hd:(x==("__debug__":Str))=false) (a3:(x==("__classdict__":Str))=false) (he:PE X e (tH cl E f)) (ae:zbV e=true) (J:(ap.endLine==cp.line)=true):
  PE X (.Call (.Attribute (.Name x pos') name ap) [e] [] cp) (tE cl E (eMt g i f)):=by
 refine PE.imp (zl4 (es:=[]) ya7 slot I hm (zbg hN hv hd a3) (zlp he zpk (zbi ae)) (hfew:=zil (by simp[ae]) (by simp)) (aa:=J) (hs:=zbi ae) (ah:=rfl)) ?_;rintro σ H Q ⟨B,w,ρ,S,rfl,R,q⟩
 have key:(∃o l,ρ[i]?=some (some (o,.lst l)))\/eMt g i f ρ S=.bad:=by
  unfold eMt;split
  ·rename_i o l b;exact .inl ⟨o,l,b⟩
  ·exact .inr rfl
 rcases key with⟨o,l,b⟩|v
 ·have y:eMt g i f ρ S=(f ρ S).bind fun d S1=>Out.of (g l d) S1:=by unfold eMt;rw[b]
  rw[y]at q;obtain⟨a,xs,s,h2,t⟩:=R.lstAny b;refine⟨_,s,.inl ⟨rfl,_,SqL.of h2⟩,B,w,ρ,S,rfl,R,?_⟩
  cases hf:f ρ S with
  |bad=>rw[hf]at q;exact q.elim|exc c S1=>
   rw[hf]at q;simp only[zao,hf,Out.bind];exact q
  |ok d S1=>
   rw[hf]at q;simp only[zao,hf,Out.bind];intro vs w' p z sh;dsimp only[Out.bind]at q
   cases j:g l d with
   |none=>rw[j]at q;exact q.elim|some r=>
    rw[j]at q;obtain⟨n,rfl⟩:=U l d r j;obtain⟨A,k,h,m,t'⟩:=p.lstAny b;rw[s]at h;cases h
    cases sh with
    |cons h1 u=>
     cases u;exact⟨a,k,l,w',d,_,n,rfl,rfl,rfl,m,t',h1.top p,j,q _ w' p z (.int _)⟩
 ·rw[v]at q;exact q.elim
end
noncomputable def znf(g:Str->Str->Option Bool)(C:Str):D->Option D
 |.exc c=>(g c C).map .bl|_=>none
noncomputable def zuN(cl:Cf)(C:Str):Value:=if C="ValueError"then .type "ValueError"else .ref (cl C)
section
variable{X:Cx}{cl:Cf}{E:St->XK}{own:Bool}{e:Expr}{f fe:Fe}{pos pos':Pos}
def Shd.excI(h:Shd cl w v (.exc c)):∃a ob,v=.ref a/\w.H a=some (.frz ob (.own a))/\ob.cls=.ref (cl c):=by
 cases h with
 |exc h1 _ h2=>exact⟨_,_,rfl,h1,h2⟩
theorem TopV.excI(h:TopV cl w v (.exc c)):∃a ob,v=.ref a/\w.H a=some (.frz ob (.own a))/\ob.cls=.ref (cl c):=by
 cases h with
 |sh h=>exact h.excI|ow _ t=>cases t
theorem zkU:bootBuiltins "ValueError"=some (.type "ValueError"):=by decide +kernel
def zpl(hg:Gl X "isinstance")(hm:X.mg "isinstance"=none)(hC:PE X (.Name C p2) (tC vC))(J:∀u,zbD vC u->u=zuN cl C)
  (U:∀c b,g c C=some b->PySem.W.ExcCls X.K (cl c)/\PySem.W.kitOne X.K (.ref (cl c)) (zuN cl C)=some b) (I:zbV e=true) (he:PE X e (tH cl E f)):
  PE X (.Call (.Name "isinstance" p) [e,.Name C p2] [] pos) (tE cl E (eUn (znf g C) f)):=by
 refine PE.imp (zed zkT hg hm zix (zbH he (zbH hC zdp rfl) (zbi I)) (he:=zbi I) (ae:=rfl)) ?_;rintro σ H Q ⟨B,w,ρ,S,rfl,R,q⟩;refine⟨B,w,ρ,S,rfl,R,?_⟩;unfold eUn at q
 cases hf:f ρ S with
 |bad=>rwa[hf]at q|exc c S1=>rwa[hf]at q|ok d S1=>
  rw[hf]at q;intro v j i F1 h1;dsimp only[Out.bind]at q
  cases d with
  |exc c=>
   dsimp only[znf]at q
   cases h:g c C with
   |none=>rw[h]at q;exact q.elim|some b=>
    rw[h]at q;obtain⟨k1,k2⟩:=U c b h;obtain⟨a,ob,rfl,h2,k⟩:=(h1.top i).excI;exact⟨a,_,ob,vC,_,b,rfl,h2,k,k1,J,k2,q _ j i F1 (.bl _)⟩
  |_=>exact q.elim
end
end S2
namespace PySem.F
end PySem.F
namespace L2
open PySem PySem.Spec PyProof.Rows
end L2
namespace PySem.F
end PySem.F
namespace L2
open PySem PySem.Spec PyProof.Rows
end L2
namespace S2
open PySem PySem.Spec PyProof.Rows L2
noncomputable def zaU(f:Str)(o:Bool)(d:D):List (Str×Bool×D)->List (Str×Bool×D)
 |[]=>[(f,o,d)]|(g,x)::r=>if g=f then(g,o,d)::r else(g,x)::zaU f o d r
def Ob.put(ob:Ob)(f:Str)(o:Bool)(d:D):Ob:=⟨ob.cls,zaU f o d ob.fs⟩
section
variable{cl:Cf}{w:Wd}{n:Nat}
def zds.len(h:zds cl w n fs gs):fs.length=gs.length:=Paired.length h
def zds.look(h:zds cl w n fs gs)(e:gs.lookup f=some (o,d)):∃v,fs.lookup f=some v/\zjh cl w (.fld n f) o v d:=by
 induction h with
 |nil=>cases e| @cons p q j i h t c=>
  obtain⟨h1,h2⟩:=h;obtain⟨g,v⟩:=p;obtain⟨g',o',d'⟩:=q;have b:g=g':=h1;subst b;rw[yaz]at e ⊢
  cases a:f==g with
  |true=>
   rw[a]at e;cases e;have:=eq_of_beq a;subst this;exact⟨v,rfl,h2⟩
  |false=>
   rw[a]at e;exact c e
def zds.miss(h:zds cl w n fs gs)(e:gs.lookup f=none):fs.lookup f=none:=by
 induction h with
 |nil=>rfl| @cons p q i d h t c=>
  obtain⟨h1,h2⟩:=h;obtain⟨g,v⟩:=p;obtain⟨g',o',d'⟩:=q;have a:g=g':=h1;subst a;rw[yaz]at e ⊢
  cases b:f==g with
  |true=>rw[b]at e;cases e|false=>rw[b]at e;exact c e
def zds.put(h:zds cl w n fs gs)(I:zjh cl w (.fld n f) o y d):zds cl w n (zdy f y fs) (zaU f o d gs):=by
 induction h with
 |nil=>exact .cons ⟨rfl,I⟩ .nil| @cons p q e c h t i=>
  obtain⟨h1,h2⟩:=h;obtain⟨g,v⟩:=p;obtain⟨g',o',d'⟩:=q;have b:g=g':=h1;subst b;show zds cl w n (if g=f then(g,y)::e else(g,v)::zdy f y e) (if g=f then(g,o,d)::c else(g,o',d')::zaU f o d c)
  by_cases a:g=f
  ·subst a;rw[if_pos rfl,if_pos rfl];exact .cons ⟨rfl,I⟩ t
  ·rw[if_neg a,if_neg a];exact .cons ⟨rfl,h2⟩ i
def zds.keepBut(f:Fut w w')(k:∀a o g,g≠x->w.H a=some o->w.ow a=some (.fld n g)->w'.H a=some o/\w'.ow a=some (.fld n g))(h:zds cl w n fs gs)(I:∀q∈gs,q.1=x->q.2.1=false):zds cl w' n fs gs:=by
 induction h with
 |nil=>exact .nil| @cons p q r m h t c=>
  obtain⟨h1,h2⟩:=h;refine .cons ⟨h1,?_⟩ (c fun q i=>I q (yas _ i))
  by_cases b:q.1=x
  ·have j:=I q yay b;rw[j]at h2 ⊢
   rcases h2 with⟨_,h2⟩|⟨e,_⟩|⟨e,_⟩
   ·exact .inl ⟨rfl,Shd.up f h2⟩
   ·cases e
   ·cases e
  ·exact h2.keep f fun a o l d=>k a o q.1 b l d
def zds.keepF(f:Fut w w')(k:∀a o g,w.H a=some o->w.ow a=some (.fld n g)->w'.H a=some o/\w'.ow a=some (.fld n g))(h:zds cl w n fs gs):zds cl w' n fs gs:=by
 induction h with
 |nil=>exact .nil| @cons p q i e h t b=>exact .cons ⟨h.1,h.2.keep f fun a o d c=>k a o q.1 d c⟩ b
variable{B:Base}{σ:St}{ρ:Env}{S:Sto}
def World'.atObj(W:World' cl B w S)(h:S[n]?=some ob)(e:w.mu[n]?=some a):zu4 cl w n a ob:=by
 obtain⟨c,b,x⟩:=W.obj n ob h;rw[e]at b;cases b;exact x
def zgl(h:(S.set n ob)[m]?=some I):(m=n/\I=ob)\/(m≠n/\S[m]?=some I):=by
 by_cases e:n=m
 ·subst e
  have a:n<S.length:=by
   have:=(yaj.mp h).1;rwa[yaD]at this
  rw[yaw a]at h;cases h;exact .inl ⟨rfl,rfl⟩
 ·rw[yaJ e]at h;exact .inr ⟨fun z=>e z.symm,h⟩
def Rel.setf(R:Rel cl B σ w ρ S)(hn:S[n]?=some ob)(I:w.mu[n]?=some a)(how:w.ow a=some (.obj n))(hH:w.H a=some (.ins (cl ob.cls) dx fs))(U:zds cl w n fs ob.fs)(J:Shd cl w y d):
  Rel cl B σ (w.mut a (.ins (cl ob.cls) dx (zdy f y fs))) ρ (S.set n (ob.put f false d))/\Fut w (w.mut a (.ins (cl ob.cls) dx (zdy f y fs))):=by
 have k:=zc9 (w:=w) (p:=a) (o:=.ins (cl ob.cls) dx (zdy f y fs)) (by rw[how];exact yaC _)
 have kp:∀b u,w.H b=some u->w.ow b≠some (.obj n)->(w.mut a (.ins (cl ob.cls) dx (zdy f y fs))).H b=some u/\(w.mut a (.ins (cl ob.cls) dx (zdy f y fs))).ow b=w.ow b:=fun b u j c=>⟨by
  show upd w.H a _ b=_
  rw[zam (fun z=>c (by rw[z];exact how))];exact j,rfl⟩
 have s:B.Fr a=none:=(R.wd.own a _ how).elim (fun z=>by cases z) fun z=>z
 refine⟨⟨⟨fun b u h=>?_,R.wd.own,by rw[yaD];exact R.wd.len,fun m l h=>?_⟩,R.len,fun i o e h=>?_⟩,k⟩
 ·refine⟨?_,(R.wd.fr b u h).2⟩;show upd w.H a _ b=_;rw[zam (fun z=>by rw[z,s]at h;cases h)];exact(R.wd.fr b u h).1
 ·rcases zgl h with⟨rfl,rfl⟩|⟨c,h⟩
  ·refine⟨a,I,how,dx,_,zaC,?_⟩;exact zds.put (U.keepF k fun b u g j r=>⟨(kp b u j (by rw[r];exact fun z=>by cases z)).1,r⟩) (.inl ⟨rfl,J.up k⟩)
  ·obtain⟨b,e,x⟩:=R.wd.obj m l h;exact⟨b,e,x.keep k fun b u j hm=>kp b u j fun z=>by rw[z]at hm;exact c hm.symm⟩
 ·obtain⟨v,t,x⟩:=R.slots i o e h;exact⟨v,t,x.keep k fun b u j q=>⟨(kp b u j (by rw[q];exact fun z=>by cases z)).1,q⟩⟩
def Wd.addF(w:Wd)(p:Addr)(o:HO)(n:Nat)(f:Str):Wd:=⟨upd w.H p o,fun b=>if b=p then some (.fld n f)else w.ow b,w.mu⟩
def Rel.newf(R:Rel cl B σ w ρ S)(hn:S[n]?=some ob)(J:w.mu[n]?=some a)(how:w.ow a=some (.obj n))(U:w.H a=some (.ins (cl ob.cls) dx fs))(hF:zds cl w n fs ob.fs)(I:w.H p=none):
  Rel cl B σ ((w.addF p (.ext (DN cl.P cl.wo p [])) n f).mut a (.ins (cl ob.cls) dx (zdy f (.ref p) fs))) ρ (S.set n (ob.put f true (.dic [])))/\Fut w ((w.addF p (.ext (DN cl.P cl.wo p [])) n f).mut a (.ins (cl ob.cls) dx (zdy f (.ref p) fs))):=by
 have k:a≠p:=zar U I
 have kp:∀b u,w.H b=some u->w.ow b≠some (.obj n)->((w.addF p (.ext (DN cl.P cl.wo p [])) n f).mut a (.ins (cl ob.cls) dx (zdy f (.ref p) fs))).H b=some u/\((w.addF p (.ext (DN cl.P cl.wo p [])) n f).mut a (.ins (cl ob.cls) dx (zdy f (.ref p) fs))).ow b=w.ow b:=fun b u c d=>by
  have j:b≠p:=zar c I;refine⟨?_,?_⟩
  ·show upd (upd w.H p _) a _ b=_;rw[zam (fun z=>d (by rw[z];exact how)),zam j];exact c
  ·show(if b=p then _ else w.ow b)=_;rw[if_neg j]
 have l:Fut w ((w.addF p (.ext (DN cl.P cl.wo p [])) n f).mut a (.ins (cl ob.cls) dx (zdy f (.ref p) fs))):=⟨fun b u c D=>by
  have:=kp b u c (by rw[D];exact fun z=>by cases z)
  exact⟨this.1,this.2.trans D⟩,fun _ _ h=>h⟩
 have G:B.Fr a=none:=(R.wd.own a _ how).elim (fun z=>by cases z) fun z=>z
 have A:B.Fr p=none:=by
  cases z:B.Fr p with
  |none=>rfl|some u=>have:=(R.wd.fr p u z).1;rw[I]at this;cases this
 have Hp:((w.addF p (.ext (DN cl.P cl.wo p [])) n f).mut a (.ins (cl ob.cls) dx (zdy f (.ref p) fs))).H p=some (.ext (DN cl.P cl.wo p [])):=by
  show upd (upd w.H p _) a _ p=_;rw[zam k.symm,zaC]
 have q:((w.addF p (.ext (DN cl.P cl.wo p [])) n f).mut a (.ins (cl ob.cls) dx (zdy f (.ref p) fs))).ow p=some (.fld n f):=if_pos rfl
 have s:((w.addF p (.ext (DN cl.P cl.wo p [])) n f).mut a (.ins (cl ob.cls) dx (zdy f (.ref p) fs))).ow a=some (.obj n):=by
  show(if a=p then _ else w.ow a)=_;rw[if_neg k];exact how
 refine⟨⟨⟨fun b u h=>?_,fun b r h=>?_,by rw[yaD];exact R.wd.len,fun m t h=>?_⟩,R.len,fun i o e h=>?_⟩,l⟩
 ·have:=kp b u (R.wd.fr b u h).1 fun z=>by
   rcases R.wd.own b _ z with y|y
   ·cases y
   ·rw[h]at y;cases y
  exact⟨this.1,this.2.trans (R.wd.fr b u h).2⟩
 ·have h':(if b=p then some (Root.fld n f)else w.ow b)=some r:=h;split at h'
  ·rename_i z;rw[z];exact .inr A
  ·exact R.wd.own b r h'
 ·rcases zgl h with⟨rfl,rfl⟩|⟨d,h⟩
  ·refine⟨a,J,s,dx,_,zaC,?_⟩;refine zds.put (hF.keepF l fun b u g c E=>?_) (.inr (.inl ⟨rfl,p,[],[],[],rfl,q,Hp,.nil,.nil,rfl⟩));have:=kp b u c (by rw[E];exact fun z=>by cases z);exact⟨this.1,this.2.trans E⟩
  ·obtain⟨b,e,x⟩:=R.wd.obj m t h;exact⟨b,e,x.keep l fun b u c hm=>kp b u c fun z=>by rw[z]at hm;exact d hm.symm⟩
 ·obtain⟨v,F,x⟩:=R.slots i o e h
  exact⟨v,F,x.keep l fun b u c C=>by
   have:=kp b u c (by rw[C];exact fun z=>by cases z)
   exact⟨this.1,this.2.trans C⟩⟩
noncomputable def zdZ(ob:Ob):Bool:=decide (ob.fs.map (·.1)).Nodup
def zds.dic(I:Fut w w')(k:∀b o g,g≠f->w.H b=some o->w.ow b=some (.fld n g)->w'.H b=some o/\w'.ow b=some (.fld n g))(J:zjh cl w' (.fld n f) true (.ref a) d):∀{fs:List (Str×V)}{gs:List (Str×Bool×D)},zds cl w n fs gs->(gs.map (·.1)).Nodup->fs.lookup f=some (.ref a)->zds cl w' n fs (zaU f true d gs):=by
 intro fs gs h
 induction h with
 |nil=>intro _ e;cases e| @cons p q m i h t r=>
  intro nd e;obtain⟨h1,h2⟩:=h;obtain⟨g,v⟩:=p;obtain⟨g',o',d'⟩:=q;have l:g=g':=h1;subst l;rw[yau,ybw]at nd;show zds cl w' n ((g,v)::m) (if g=f then(g,true,d)::i else(g,o',d')::zaU f true d i);rw[yaz]at e
  by_cases c:g=f
  ·subst c;rw[if_pos rfl];simp only[ybt]at e;cases e;refine .cons ⟨rfl,J⟩ ?_;have t':zds cl w n m i:=t;exact t'.keepBut I k fun q x s=>absurd (yar.mpr ⟨q,x,s⟩) nd.1
  ·rw[if_neg c];have j:(f==g)=false:=ya5.mpr fun z=>c z.symm
   rw[j]at e;exact .cons ⟨rfl,h2.keep I fun b o j u=>k b o g c j u⟩ (r nd.2 e)
def Rel.setd(R:Rel cl B σ w ρ S)(hn:S[n]?=some ob)(J:w.mu[n]?=some a)(how:w.ow a=some (.obj n))(hH:w.H a=some (.ins (cl ob.cls) dx fs))(hF:zds cl w n fs ob.fs)
  (hl:fs.lookup f=some (.ref c)) (I:w.ow c=some (.fld n f)) (a3:w.H c=some (.ext (DN cl.P cl.wo c xs))) (he:zkd w xs m) (hs:ShdN cl w m ds) (hk:zni w kb k) (U:zbD v u) (hv:Shd cl w v d) (nd:zdZ ob=true):
  Rel cl B σ (w.mut c (.ext (DN cl.P cl.wo c (xs++[(k,kb,u)])))) ρ (S.set n (ob.put f true (.dic (ds++[(nkD k,d)]))))/\Fut w (w.mut c (.ext (DN cl.P cl.wo c (xs++[(k,kb,u)])))):=by
 have j:=zc9 (w:=w) (p:=c) (o:=.ext (DN cl.P cl.wo c (xs++[(k,kb,u)]))) (by rw[I];exact yaC _)
 have kp:∀b o,w.H b=some o->w.ow b≠some (.fld n f)->(w.mut c (.ext (DN cl.P cl.wo c (xs++[(k,kb,u)])))).H b=some o/\(w.mut c (.ext (DN cl.P cl.wo c (xs++[(k,kb,u)])))).ow b=w.ow b:=fun b o q l=>⟨by
  show upd w.H c _ b=_
  rw[zam (fun z=>l (by rw[z];exact I))];exact q,rfl⟩
 have C:B.Fr c=none:=(R.wd.own c _ I).elim (fun z=>by cases z) fun z=>z
 refine⟨⟨⟨fun b o h=>?_,R.wd.own,by rw[yaD];exact R.wd.len,fun y s h=>?_⟩,R.len,fun i o e h=>?_⟩,j⟩
 ·refine⟨?_,(R.wd.fr b o h).2⟩;show upd w.H c _ b=_;rw[zam (fun z=>by rw[z,C]at h;cases h)];exact(R.wd.fr b o h).1
 ·rcases zgl h with⟨rfl,rfl⟩|⟨l,h⟩
  ·refine⟨a,J,how,dx,fs,?_,?_⟩
   ·exact(kp a _ hH (by rw[how];exact fun z=>by cases z)).1
   ·refine zds.dic (a:=c) j (fun b o g A q r=>?_) (.inr (.inl ⟨rfl,c,_,m++[(k,v)],ds++[(nkD k,d)],rfl,I,zaC,?_,?_,rfl⟩)) hF (yah nd) hl
    ·exact⟨(kp b o q (by rw[r];exact fun z=>A (by cases z;rfl))).1,r⟩
    ·exact(he.up j).snoc ⟨rfl,hk.up j,U⟩
    ·exact(hs.up j).snoc (hv.up j)
  ·obtain⟨b,e,x⟩:=R.wd.obj y s h;exact⟨b,e,x.keep j fun b o q hm=>kp b o q fun z=>by rw[z]at hm;exact l hm.symm⟩
 ·obtain⟨t,D,x⟩:=R.slots i o e h;exact⟨t,D,x.keep j fun b o q r=>⟨(kp b o q (by rw[r];exact fun z=>by cases z)).1,r⟩⟩
def Wd.addO(w:Wd)(x dx C:Addr)(n:Nat):Wd:=⟨upd (upd w.H dx (.own x)) x (.ins C dx []),fun b=>if b=x then some (.obj n)else if b=dx then none else w.ow b,w.mu++[x]⟩
theorem Rel.made(R:Rel cl B σ w ρ S)(J:w.H x=none)(I:w.H dx=none)(ne:dx≠x):Rel cl B σ (w.addO x dx (cl c) S.length) ρ (S++[⟨c,[]⟩])/\Fut w (w.addO x dx (cl c) S.length):=by
 have kp:∀b o,w.H b=some o->(w.addO x dx (cl c) S.length).H b=some o/\(w.addO x dx (cl c) S.length).ow b=w.ow b:=fun b o d=>by
  have l:b≠x:=zar d J;have k:b≠dx:=zar d I;refine⟨?_,?_⟩
  ·show upd (upd w.H dx _) x _ b=_;rw[zam l,zam k];exact d
  ·show(if b=x then _ else if b=dx then _ else w.ow b)=_;rw[if_neg l,if_neg k]
 have f:Fut w (w.addO x dx (cl c) S.length):=⟨fun b o d q=>⟨(kp b o d).1,(kp b o d).2.trans q⟩,fun n a h=>by
  show(w.mu++[x])[n]?=some a
  rw[yaZ (yaj.mp h).1];exact h⟩
 have j:B.Fr x=none:=by
  cases z:B.Fr x with
  |none=>rfl|some u=>have:=(R.wd.fr x u z).1;rw[J]at this;cases this
 refine⟨⟨⟨fun b o h=>?_,fun b r h=>?_,by show(w.mu++[x]).length=_;rw[yak,yak,R.wd.len];rfl,fun m ob h=>?_⟩,R.len,fun i o e h=>?_⟩,f⟩
 ·have:=kp b o (R.wd.fr b o h).1;exact⟨this.1,this.2.trans (R.wd.fr b o h).2⟩
 ·have h':(if b=x then some (Root.obj S.length)else if b=dx then none else w.ow b)=some r:=h;split at h'
  ·rename_i z;rw[z];exact .inr j
  ·split at h'
   ·cases h'
   ·exact R.wd.own b r h'
 ·by_cases hm:m<S.length
  ·rw[yaZ hm]at h;obtain⟨b,e,y⟩:=R.wd.obj m ob h;exact⟨b,f.mu _ _ e,y.keep f fun b o d _=>kp b o d⟩
  ·have g:m=S.length:=by
    have:=(yaj.mp h).1;rw[yak,yaH]at this;omega
   subst g;rw[yaG (yai _),ybx]at h;cases h;refine⟨x,?_,if_pos rfl,dx,[],zaC,.nil⟩;show(w.mu++[x])[S.length]?=some x;rw[yaG (by rw[R.wd.len];exact yai _),R.wd.len,ybx];rfl
 ·obtain⟨v,s,y⟩:=R.slots i o e h;exact⟨v,s,y.keep f fun b o d p=>⟨(kp b o d).1,(kp b o d).2.trans p⟩⟩
end
noncomputable def zoj:D->Option (Option Int)|.non=>some none|.int i=>some (some i)|_=>none
def ze0:List D->Option (List (Option Int))
 |[]=>some []|d::r=>(zoj d).bind fun o=>(ze0 r).map (o::·)
def zjN:D->Option NK
 |.tup [.int i,.tup l]=>(ze0 l).map fun os=>(i,os)|_=>none
def zbI(k:NK):List (D×D)->Option D
 |[]=>none|(q,d)::r=>if zjN q=some k then some d else zbI k r
def zl8(o:Option Int):zoj (oDn o)=some o:=by cases o<;>rfl
theorem zgO:∀l:List (Option Int),ze0 (l.map oDn)=some l
 |[]=>rfl|o::l=>by rw[yau];unfold ze0;rw[zl8,zgO l];rfl
def ze1(k:NK):zjN (nkD k)=some k:=by
 show(ze0 (k.2.map oDn)).map (fun os=>(k.1,os))=some k;rw[zgO];rfl
section
variable{cl:Cf}{w:Wd}
theorem zl7:∀{xs:List V}{ds:List D}{os:Z4},Shds cl w xs ds->ze0 ds=some os->xs=os.map oV
 |_,_,os,.nil,h=>by cases h;rfl
 |_,_,os,.cons (v:=v) (d:=d) (ds:=ds) r t,h=>by
  unfold ze0 at h
  cases h1:zoj d with
  |none=>rw[h1]at h;cases h|some o=>
   rw[h1]at h
   cases h2:ze0 ds with
   |none=>rw[h2]at h;cases h|some a=>
    rw[h2]at h;cases h;rw[yau,<-zl7 t h2]
    cases d<;>simp[zoj]at h1<;>subst h1<;>cases r<;>rfl
def zpv(h:Shd cl w v d)(I:zjN d=some k):∃kb,v=.ref kb/\zni w kb k:=by
 unfold zjN at I;split at I
 ·rename_i i l
  cases b:ze0 l with
  |none=>rw[b]at I;cases I|some os=>
   rw[b]at I;cases I
   cases h with
   |tup e o r=>
    cases r with
    |cons r1 t=>
     cases t with
     |cons a t=>
      cases t;cases r1
      cases a with
      |tup f c a=>exact⟨_,rfl,_,⟨e,o⟩,by rw[<-zl7 a b];exact f,c⟩
 ·cases I
theorem zoW:∀{m:List (NK×V)}{ds:List (D×D)},ShdN cl w m ds->∀k:NK,(m.lookup k=none/\zbI k ds=none)\/∃v d,m.lookup k=some v/\zbI k ds=some d/\Shd cl w v d
 |_,_,.nil,k=>.inl ⟨rfl,rfl⟩|_,_,.cons (k:=k') (v:=v) (d:=d) r t,k=>by
  rw[yaz];unfold zbI;rw[ze1]
  by_cases e:k'=k
  ·subst e;rw[if_pos rfl,ybt];exact .inr ⟨v,d,rfl,rfl,r⟩
  ·rw[if_neg (fun z=>e (by cases z;rfl)),ya5.mpr (fun z=>e z.symm)];exact zoW t k
theorem zpG:∀{m:List (NK×V)}{ds:List (D×D)},ShdN cl w m ds->m.length=ds.length
 |_,_,.nil=>rfl|_,_,.cons r t=>by rw[yan,yan,zpG t]
end
noncomputable def zhr(cn f:Str)(d:D)(S:Sto):Option D:=match d with
 |.ref n=>(match S[n]? with
  |some ob=>if ob.cls=cn then(match ob.fs.lookup f with|~~~d=>some d|_=>none)else none
  |none=>none)
 |_=>none
def zdT(cn f:Str)(fe:Fe):Fe:=fun ρ S=>(fe ρ S).bind fun d S1=>match zhr cn f d S1 with|some r=>.ok r S1|none=>.bad
noncomputable def zhG(cl:Cf)(cn f:Str):Prop:=Cls cl.K (cl cn)/\zdR cl.K (cl cn) f
noncomputable def zhK(cn f:Str)(d:D)(S:Sto):Option (Nat×Ob×List (D×D)):=match d with
 |.ref n=>(match S[n]? with
  |some ob=>if ob.cls=cn then(match ob.fs.lookup f with|some (true,.dic ds)=>some (n,ob,ds)|_=>none)else none
  |none=>none)
 |_=>none
section
variable{cl:Cf}{cn:Str}{X:Cx}{E:St->XK}{e:Expr}{fe:Fe}{f:Str}{pos:Pos}{B:Base}{σ:St}{w:Wd}{ρ:Env}{S:Sto}
def zgx(R:Rel cl B σ w ρ S)(I:Shd cl w v (.ref n))(J:S[n]?=some ob):∃a dx fs,v=.ref a/\w.mu[n]?=some a/\w.ow a=some (.obj n)/\w.H a=some (.ins (cl ob.cls) dx fs)/\zds cl w n fs ob.fs:=by
 cases I with
 |ref e=>
  obtain⟨h1,dx,fs,h2,b⟩:=R.wd.atObj J e;exact⟨_,dx,fs,rfl,e,h1,h2,b⟩
def zpK(I:zhG cl cn f)(R:Rel cl B σ w ρ S)(J:Shd cl w v d)(hd:zhr cn f d S=some r):∃a C dx fs y,v=.ref a/\w.H a=some (.ins C dx fs)/\Cls cl.K C/\zdR cl.K C f/\fs.lookup f=some y/\Shd cl w y r:=by
 unfold zhr at hd
 cases d with
 |ref n=>
  dsimp only at hd
  cases c:S[n]? with
  |none=>rw[c]at hd;cases hd|some ob=>
   rw[c]at hd;dsimp only at hd;split at hd
   ·rename_i b;split at hd
    ·rename_i d e;cases hd;obtain⟨a,dx,fs,rfl,_,_,g,h⟩:=zgx R J c;obtain⟨v,lv,fr⟩:=h.look e
     rcases fr with⟨_,fr⟩|⟨z,_⟩|⟨z,_⟩
     ·exact⟨a,_,dx,fs,v,rfl,g,b ▸ I.1,b ▸ I.2,lv,fr⟩
     ·cases z
     ·cases z
    ·cases hd
   ·cases hd
 |_=>cases hd
def zsY(I:zhG cl cn f)(kk:X.K=cl.K)(he:PE X e (tE cl E fe))(J:attributeBase e f X.env (eval e X.env)=eval e X.env):PE X (.Attribute e f pos) (tE cl E (zdT cn f fe)):=by
 refine PE.imp (zeZ he J) ?_;rintro σ H Q ⟨B,w,ρ,S,rfl,R,q⟩;refine⟨B,w,ρ,S,rfl,R,?_⟩;unfold zdT at q
 cases hf:fe ρ S with
 |bad=>rwa[hf]at q|exc c S1=>rwa[hf]at q|ok d S1=>
  rw[hf]at q;intro v g b F1 h1;dsimp only[Out.bind]at q
  cases hd:zhr cn f d S1 with
  |none=>rw[hd]at q;exact q.elim|some r=>
   rw[hd]at q;obtain⟨a,C,dx,fs,y,rfl,k,j,i,h,e5⟩:=zpK I b h1 hd;rw[kk];exact⟨a,C,dx,fs,y,rfl,k,j,i,h,q y g b F1 e5⟩
def zm8(I:zhG cl cn f)(R:Rel cl B σ w ρ S)(J:Shd cl w v d)(hd:zhK cn f d S=some (n,ob,ds)):
  ∃a dx fs c xs m,v=.ref a/\S[n]?=some ob/\w.mu[n]?=some a/\w.ow a=some (.obj n)/\w.H a=some (.ins (cl ob.cls) dx fs)/\zds cl w n fs ob.fs/\Cls cl.K (cl ob.cls)/\zdR cl.K (cl ob.cls) f/\fs.lookup f=some (.ref c)/\w.ow c=some (.fld n f)/\w.H c=some (.ext (DN cl.P cl.wo c xs))/\zkd w xs m/\ShdN cl w m ds:=by
 unfold zhK at hd
 cases d with
 |ref k=>
  dsimp only at hd
  cases g:S[k]? with
  |none=>rw[g]at hd;cases hd|some j=>
   rw[g]at hd;dsimp only at hd;split at hd
   ·rename_i b;split at hd
    ·rename_i q l;cases hd;obtain⟨a,dx,fs,rfl,h,how,o,i⟩:=zgx R J g;obtain⟨v,lv,fr⟩:=i.look l
     rcases fr with⟨z,_⟩|⟨_,c,xs,m,p,rfl,c1,t,s,r,e⟩|⟨_,d0,z,_⟩
     ·cases z
     ·cases e;exact⟨a,dx,fs,c,xs,m,rfl,g,h,how,o,i,b ▸ I.1,b ▸ I.2,lv,c1,t,s,r⟩
     ·cases z
    ·cases hd
   ·cases hd
 |_=>cases hd
end
end S2
namespace L2
open PySem PySem.Spec PyProof.Rows
section
variable{X:Cx}
noncomputable def zy2(ta:TA):TE:=fun σ H Q=>ta σ H fun vs H1=>∃j:Int,vs=[.int j]/\0<=j/\j<=1000/\∀p,H1 p=none->Q (.ref p) (upd H1 p (.rng 0 j))
def ztx{a:Expr}{ta:TA}{p pos:Pos}(J:Gl X "range")(hm:X.mg "range"=none)(U:PA X [a] ta)(hs:autoParam (starEach [a] X.env=[(false,eval a X.env)]) yAW):PE X (.Call (.Name "range" p) [a] [] pos) (zy2 ta):=by
 intro pins s σ H Q I h;refine Call_ (ze4 I J hm boot_range (ya3 (thn (U pos pins s σ H _ I h) fun us s1 ⟨vs,H1,b,r1,d⟩=>?_) hs rfl));obtain⟨j,e,g,f,q⟩:=d;subst e
 cases r1 with
 |cons r c=>
  cases c;obtain⟨t,rfl⟩:=r;refine call_range_1 ⟨.ref s1.heap.objs.size,_,b.laid (a:=s1.heap.objs.size) (o:=.rng 0 j) (fun _ _ q=>yae _ q) (yai _) ⟨_,_,_,yaq _ rfl⟩,rfl,q _ (b.hok.fresh (yai _))⟩
theorem zke:∀(n:Nat) (I:List Value),I.length=n->(∀(i:Nat) (v:Value),I[i]?=some v->∃t,v=.int (i:Int) t)->Vals ((List.range n).map fun(i:Nat)=>V.int (i:Int)) I:=by
 intro n
 induction n with
 |zero=>
  intro I b _;have:I=[]:=yaV b;subst this;exact .nil
 |succ n c=>
  intro I b h
  have e:I=I.take n++[I[n]]:=by
   have:=List.take_append_drop n I
   have h2:I.drop n=[I[n]]:=by
    rw[yck (by omega),List.drop_of_length_le (by omega)]
   rw[h2]at this;exact this.symm
  rw[e,ycb,ybS];refine(c (I.take n) (by rw[ybZ];omega) fun i v a=>?_).append (.cons ?_ .nil)
  ·have hi:i<n:=by
    have:=(yaj.mp a).1;rw[ybZ]at this;omega
   rw[ydm,if_pos hi]at a;exact h i v a
  ·exact h n I[n] (yab (by omega))
theorem zhy(J:X.calm=true):zfi X (.type "list") (fun xs H Q=>∃(p:Addr) (n:Nat),xs=[.ref p]/\H p=some (.rng 0 (n:Int))/\n<=1000/\∀l,H l=none->Q (.ref l) (upd H l (.lst ((List.range n).map fun(i:Nat)=>V.int (i:Int))))):=by
 intro pins s σ H xs us Q I r h;obtain⟨p,n,rfl,d,f,q⟩:=h;obtain⟨u,rfl,a⟩:=zhN r;cases a;obtain⟨t,u,v,c⟩:=I.hok p _ d;refine call_list_range (n:=n) (I.ok.hd J) (show IsRange s.heap p 0 (n:Int) 1 t u v from c) (small_one (by omega) (by omega) (by omega) (by omega)) (by rw[rangeSize_one];split<;>omega) (by omega) fun h' tk acc c' kp e hi=>?_
 refine⟨.ref s.heap.objs.size,_,I.laid (t':=tk) kp (yai _) (show zb8 X.prog X.w _ h' _ (.lst _)from⟨?_,acc.toList,c',zke n acc.toList ?_ ?_,by simpa using e⟩),rfl,q _ (I.hok.fresh (yai _))⟩
 ·rw[yad,ybu];exact yal f (by decide)
 ·have:=hi.1;simpa using this
 ·intro i v b;have:=hi.2 i v (by simpa using b);simpa using this
end
end L2
namespace S2
open PySem PySem.Spec PyProof.Rows L2
def zpF(cn f:Str)(fa fo:Fe):Fe:=fun ρ S=>(fa ρ S).bind fun a S1=>(fo ρ S1).bind fun d S2=>match zjN a,zhK cn f d S2 with
 |some k,some (_,_,ds)=>.ok (.bl (zbI k ds).isNone) S2|_,_=>.bad
noncomputable def zk0(ρ:Env)(i:Nat):Option NK:=match ρ[i]? with|some (~~~a)=>zjN a|_=>none
def zkO(cn f:Str)(fo:Fe)(i:Nat):Fe:=fun ρ S=>(fo ρ S).bind fun d S1=>match zk0 ρ i,zhK cn f d S1 with
 |some k,some (_,_,ds)=>(match zbI k ds with|some r=>.ok r S1|none=>.bad)
 |_,_=>.bad
def zkn(cn f:Str)(fo:Fe)(i:Nat)(fe:Fe):Fs:=fun ρ S=>match fe ρ S with
 |.bad=>.bad|.exc c S1=>.ex c ρ S1|.ok r S1=>(match fo ρ S1 with
  |.bad=>.bad|.exc c S2=>.ex c ρ S2|.ok d S2=>(match zk0 ρ i,zhK cn f d S2 with
   |some k,some (n,ob,ds)=>if(zbI k ds).isNone&&decide (ds.length<=1000000)&&zdZ ob then .nx ρ (S2.set n (ob.put f true (.dic (ds++[(nkD k,r)]))))else .bad
   |_,_=>.bad))
def zeQ(cn f:Str)(fo fe:Fe):Fs:=fun ρ S=>match fe ρ S with
 |.bad=>.bad|.exc c S1=>.ex c ρ S1|.ok r S1=>(match fo ρ S1 with
  |.bad=>.bad|.exc c S2=>.ex c ρ S2|.ok (.ref n) S2=>(match S2[n]? with
   |some ob=>if decide (ob.cls=cn)&&decide (ob.fs.length<1000)then .nx ρ (S2.set n (ob.put f false r))else .bad
   |none=>.bad)
  |.ok _ _=>.bad)
def zko(cn f:Str)(i:Nat):Fs:=fun ρ S=>match ρ[i]? with
 |some (~~~.ref n)=>(match S[n]? with
   |some ob=>if decide (ob.cls=cn)&&decide (ob.fs.length<1000)then .nx ρ (S.set n (ob.put f true (.dic [])))else .bad
   |none=>.bad)
 |_=>.bad
noncomputable def zdq(c m:Str)(d:D)(S:Sto):Bool:=match d with
 |.ref n=>(match S[n]? with|some ob=>decide (ob.cls=c)&&(ob.fs.lookup m).isNone|none=>false)
 |_=>false
def zaJ(c m:Str)(G:List D->Sto->Out D)(fo:Fe)(fs:List Fe):Fe:=fun ρ S=>(fo ρ S).bind fun d S1=>if zdq c m d S1 then(zao fs ρ S1).bind fun ds S2=>G (d::ds) S2 else .bad
def eMk(c:Str)(I:List D)(G:List D->Sto->Out D)(fs:List Fe):Fe:=fun ρ S=>(zao fs ρ S).bind fun ds S1=>(G (.ref S1.length::(ds++I)) (S1++[⟨c,[]⟩])).bind fun r S2=>match r with|.non=>.ok (.ref S1.length) S2|_=>.bad
structure Same'(cl:Cf)(X:Cx):Prop where
 kk:X.K=cl.K
 pp:X.prog=cl.P
 ww:X.w=cl.wo
section
variable{cl:Cf}{cn:Str}{X:Cx}{E:St->XK}{a o e:Expr}{fa fo fe:Fe}{f:Str}{pos apos:Pos}{own:Bool}
def zt4(I:Same' cl X)(J:zhG cl cn f)(σ:St)(H:Hp)(Q:VK)(q:tE cl E (zpF cn f fa fo) σ H Q):
  tOp (fun x y H Q=>∃kb a k xs m,x=.ref kb/\y=.ref a/\zjg H kb k/\H a=some (.ext (DN X.prog X.w a xs))/\zpb H xs m/\Q (.bl (m.lookup k).isNone) H) (tE cl E fa) (zxx X.K (tE cl E fo) f) σ H Q:=by
 obtain⟨B,w,ρ,S,rfl,R,q⟩:=q;refine⟨B,w,ρ,S,rfl,R,?_⟩;unfold zpF at q
 cases hf:fa ρ S with
 |bad=>rwa[hf]at q|exc c S1=>rwa[hf]at q|ok p S1=>
  rw[hf]at q;intro v j s F1 h1;refine⟨B,j,ρ,S1,rfl,s,?_⟩;dsimp only[Out.bind]at q
  cases g:fo ρ S1 with
  |bad=>rwa[g]at q|exc c S2=>rw[g]at q;exact fun e R2 F2=>q e R2 (F1.trans F2)|ok d S2=>
   rw[g]at q;intro y e R2 F2 h2;dsimp only at q
   cases b:zjN p with
   |none=>rw[b]at q;exact q.elim|some k=>
    cases hd:zhK cn f d S2 with
    |none=>rw[b,hd]at q;exact q.elim|some t=>
     obtain⟨n,ob,ds⟩:=t;rw[b,hd]at q;dsimp only at q;obtain⟨a,dx,fs,c,xs,m,rfl,_,_,_,o,_,c1,r,lv,_,l,he,hs⟩:=zm8 J R2 h2 hd;obtain⟨kb,rfl,ks⟩:=zpv (h1.up F2) b;rw[I.kk];refine⟨a,_,dx,fs,_,rfl,o,c1,r,lv,kb,c,k,xs,m,rfl,rfl,ks.at,by rw[I.pp,I.ww];exact l,he.ents,?_⟩
     have:(m.lookup k).isNone=(zbI k ds).isNone:=by
      rcases zoW hs k with⟨i,h⟩|⟨_,_,i,h,_⟩<;>rw[i,h]<;>rfl
     rw[this];exact q _ e R2 (F1.trans F2) (.bl _)
def zsU(J:X.A.units+16<cLine)(I:Same' cl X)(U:zhG cl cn f)(ha:PE X a (tE cl E fa))(ho:PE X o (tE cl E fo))(hb:attributeBase o f X.env (eval o X.env)=eval o X.env)(hm:behindInMarks .NotIn (.Attribute o f apos)=false):PE X (.Compare a [.NotIn] [.Attribute o f apos] pos) (tE cl E (zpF cn f fa fo)):=
 PE.imp (ziU (zpq J) ha (zeZ ho hb) hm) (zt4 I U)
def zsx(J:X.A.units+16<cLine)(I:Same' cl X)(U:zhG cl cn f)(ha:PE X a (tE cl E fa))(ho:PE X o (tE cl E fo))(hb:attributeBase o f X.env (eval o X.env)=eval o X.env)(hm:behindInMarks .NotIn (.Attribute o f apos)=false):PT X (.Compare a [.NotIn] [.Attribute o f apos] pos) (tTr cl E (zpF cn f fa fo)):=
 PT.imp (ziT (zpq J) ha (zeZ ho hb) hm) fun _ _ _ q=>zt4 I U _ _ _ (zhQ q)
def zmu(R:Rel cl B σ w ρ S)(h:zk0 ρ i=some k):∃kb,σ[i]?=some (some (.ref kb))/\zni w kb k:=by
 unfold zk0 at h;split at h
 ·rename_i a hi;obtain⟨v,e,r⟩:=R.slots i false a hi;obtain⟨kb,rfl,ks⟩:=zpv r h;exact⟨kb,e,ks⟩
 ·cases h
def zqt(hN:X.N[i]?=some x)(U:Vis X.env.scope x)(hd:(x==("__debug__":Str))=false)(J:(x==("__classdict__":Str))=false)(hu:X.A.units+16<cLine)(I:Same' cl X)(hk:zhG cl cn f)(ho:PE X o (tE cl E fo))(hb:attributeBase o f X.env (eval o X.env)=eval o X.env)(hs:zhF (.Name x p)):PE X (.Subscript (.Attribute o f apos) (.Name x p) pos) (tE cl E (zkO cn f fo i)):=by
 refine PE.imp (ztB (zuv hu) (zeZ ho hb) (zbg hN U hd J) hs) ?_;rintro σ H Q ⟨B,w,ρ,S,rfl,R,q⟩;refine⟨B,w,ρ,S,rfl,R,?_⟩;unfold zkO at q
 cases hf:fo ρ S with
 |bad=>rwa[hf]at q|exc c S1=>rwa[hf]at q|ok d S1=>
  rw[hf]at q;intro v l j F1 h1;dsimp only[Out.bind]at q
  cases e:zk0 ρ i with
  |none=>rw[e]at q;exact q.elim|some k=>
   cases hd:zhK cn f d S1 with
   |none=>rw[e,hd]at q;exact q.elim|some t=>
    obtain⟨n,ob,ds⟩:=t;rw[e,hd]at q;dsimp only at q;obtain⟨a,dx,fs,c,xs,m,rfl,_,_,_,u,_,c1,C,lv,_,s,he,hs⟩:=zm8 hk j h1 hd;obtain⟨kb,h,ks⟩:=zmu j e
    cases g:zbI k ds with
    |none=>rw[g]at q;exact q.elim|some r=>
     rw[g]at q
     rcases zoW hs k with⟨_,b⟩|⟨y,r',z,b,sh⟩
     ·rw[g]at b;cases b
     ·rw[g]at b;cases b;rw[I.kk];exact⟨a,_,dx,fs,_,rfl,u,c1,C,lv,_,h,c,kb,k,xs,m,y,rfl,rfl,ks.at,by rw[I.pp,I.ww];exact s,he.ents,z,q _ l j F1 sh⟩
def zp9(hN:X.N[i]?=some x)(hv:Vis X.env.scope x)(hd:(x==("__debug__":Str))=false)(a4:(x==("__classdict__":Str))=false)(hu:X.A.units+16<cLine)(I:Same' cl X)(hk:zhG cl cn f)(ho:PE X o (tE cl E fo))(hb:attributeBase o f X.env (eval o X.env)=eval o X.env)(he:PE X e (tE cl E fe))
  (a3:swapsWithSole [.Subscript (.Attribute o f apos) (.Name x p) J] e pos.line X.env=pure false) (U:swappedStores [.Subscript (.Attribute o f apos) (.Name x p) J] e X.env=pure none)
  (ha:∀v,assign (.Subscript (.Attribute o f apos) (.Name x p) J) X.env v=(do
   let ov ← holding [v] (eval (.Attribute o f apos) X.env)
   let iv ← holding [v,ov] (eval (.Name x p) X.env)
   standAt J
   holding [v,ov,iv] (setItem ov iv v)
   release [v,ov,iv] [])):PS X (.Assign [.Subscript (.Attribute o f apos) (.Name x p) J] e pos) (tS cl E own (zkn cn f fo i fe)):=by
 refine PS.imp (zlM he (zpo (zeZ ho hb) (zbg hN hv hd a4) (zqm hu) ha) a3 U rfl) ?_;rintro De σ H ⟨B,w,ρ,S,rfl,R,q⟩;refine⟨B,w,ρ,S,rfl,R,?_⟩;unfold zkn at q
 cases hf:fe ρ S with
 |bad=>rwa[hf]at q|exc c S1=>rw[hf]at q;exact fun w' z C=>q σ w' z C|ok r S1=>
  rw[hf]at q;intro v M R1 F1 h1;dsimp only at q;refine⟨B,M,ρ,S1,rfl,R1,?_⟩
  cases b:fo ρ S1 with
  |bad=>rwa[b]at q|exc c S2=>rw[b]at q;exact fun w' z C=>q σ w' z (F1.trans C)|ok d S2=>
   rw[b]at q;intro y w2 R2 F2 h2;dsimp only at q
   cases h:zk0 ρ i with
   |none=>rw[h]at q;exact q.elim|some k=>
    cases hd:zhK cn f d S2 with
    |none=>rw[h,hd]at q;exact q.elim|some t=>
     obtain⟨n,ob,ds⟩:=t;rw[h,hd]at q;dsimp only at q;split at q
     ·rename_i g;rw[yac,yac]at g;obtain⟨⟨D,L⟩,K⟩:=g;obtain⟨a,dx,fs,c,xs,m,rfl,Q,l,how,G,T,c1,Y,lv,P,F,he,hs⟩:=zm8 hk R2 h2 hd;obtain⟨kb,s,ks⟩:=zmu R2 h
      have j:m.lookup k=none:=by
       rcases zoW hs k with⟨W,_⟩|⟨_,_,_,V,_⟩
       ·exact W
       ·rw[V]at D;cases D
      rw[I.kk];refine⟨a,_,dx,fs,_,rfl,G,c1,Y,lv,_,s,c,kb,k,xs,m,rfl,rfl,ks.at,by rw[I.pp,I.ww];exact F,he.ents,j,by rw[zpG hs];exact yah L,fun u O=>?_⟩;obtain⟨Z,F3⟩:=R2.setd Q l how G T lv P F he hs ks O (h1.up F2) K;rw[I.pp,I.ww];exact q σ _ Z (F1.trans (F2.trans F3))
     ·exact q.elim
def zqa(J:Same' cl X)(I:zhG cl cn f)(ho:PE X o (tE cl E fo))(he:PE X e (tE cl E fe))(hs:swapsWith e (some (.Attribute o f apos)) pos.line X.env=pure false):PS X (.Assign [.Attribute o f apos] e pos) (tS cl E own (zeQ cn f fo fe)):=by
 refine PS.imp (zlL ho he hs) ?_;rintro x σ H ⟨B,w,ρ,S,rfl,R,q⟩;refine⟨B,w,ρ,S,rfl,R,?_⟩;unfold zeQ at q
 cases hf:fe ρ S with
 |bad=>rwa[hf]at q|exc c S1=>rw[hf]at q;exact fun w' j k=>q σ w' j k|ok r S1=>
  rw[hf]at q;intro v p t F1 h1;dsimp only at q;refine⟨B,p,ρ,S1,rfl,t,?_⟩
  cases g:fo ρ S1 with
  |bad=>rwa[g]at q|exc c S2=>rw[g]at q;exact fun w' j k=>q σ w' j (F1.trans k)|ok d S2=>
   rw[g]at q;intro y u R2 F2 h2
   cases d with
   |ref n=>
    dsimp only at q
    cases h:S2[n]? with
    |none=>rw[h]at q;exact q.elim|some ob=>
     rw[h]at q;dsimp only at q;split at q
     ·rename_i b;rw[yac]at b;obtain⟨a,dx,fs,rfl,i,how,l,m⟩:=zgx R2 h2 h;rw[J.kk];refine⟨a,_,dx,fs,rfl,l,yah b.1 ▸ I.1,yah b.1 ▸ I.2,by rw[m.len];exact yah b.2,?_⟩;obtain⟨s,F3⟩:=R2.setf (f:=f) h i how l m (h1.up F2);exact q σ _ s (F1.trans (F2.trans F3))
     ·exact q.elim
   |_=>exact q.elim
def zqc(hN:X.N[i]?=some x)(hv:Vis X.env.scope x)(hd:(x==("__debug__":Str))=false)(J:(x==("__classdict__":Str))=false)(I:Same' cl X)(U:zhG cl cn f)(hs:swapsWith (.Dict [] [] p) (some (.Attribute (.Name x p2) f apos)) pos.line X.env=pure false):PS X (.Assign [.Attribute (.Name x p2) f apos] (.Dict [] [] p) pos) (tS cl E own (zko cn f i)):=by
 refine PS.imp (zlL (zbg hN hv hd J) zqQ hs) ?_;rintro l σ H ⟨B,w,ρ,S,rfl,R,q⟩;intro pd c;unfold zko at q;split at q
 ·rename_i n hi;obtain⟨v,ev,j⟩:=R.slots i false _ hi
  cases d:S[n]? with
  |none=>rw[d]at q;exact q.elim|some ob=>
   rw[d]at q;dsimp only at q;split at q
   ·rename_i b;rw[yac]at b;obtain⟨a,dx,fs,rfl,e,how,g,h⟩:=zgx R j d;rw[I.kk];refine⟨_,ev,a,_,dx,fs,rfl,?_,yah b.1 ▸ U.1,yah b.1 ▸ U.2,by rw[h.len];exact yah b.2,?_⟩
    ·rw[zam (zar g c)];exact g
    ·obtain⟨k,F3⟩:=R.newf (f:=f) d e how g h c;rw[I.pp,I.ww];exact q σ _ k F3
   ·exact q.elim
 ·exact q.elim
end
noncomputable def zhR(C:Addr)(m:Str)(sp:Sp)(dvs:List V)(E:St->XK)(ta:TE)(t:TA):TE:=fun σ H Q=>ta σ H fun x H1=>∃a dx fs,x=.ref a/\H1 a=some (.ins C dx fs)/\fs.lookup m=none ∧
 t σ H1 fun vs H2=>sp (x::(vs++dvs)) H2 Q (E σ)
noncomputable def zph(C:Addr)(sp:Sp)(dvs:List V)(E:St->XK)(t:TA):TE:=fun σ H Q=>t σ H fun vs H1=>∀x dx,H1 x=none->H1 dx=none->dx≠x →
 sp (.ref x::(vs++dvs)) (upd (upd H1 dx (.own x)) x (.ins C dx [])) (fun v H2=>v=.non/\Q (.ref x) H2) (E σ)
section
variable{X:Cx}{CX:CXT}{k:Nat}{f C:Addr}{fd:FuncData}{ps:List Str}{sp:Sp}{dvs:List V}{ds:List Value}{E:St->XK}{x m:Str}{p pos apos:Pos}{e o:Expr}{es:List Expr}{ta:TE}{t:TA}
def zn8(he:PE X o ta)(c:Cls X.K C)(hm:Meth X.K C m f)(F:FnOk X.prog X.w X.K X.mg X.base CX k f fd ps sp)(hr:Room k X.A)(hb:zcW X.K fd ps ds)(hd:Vals dvs ds)(U:zeb CX X E)(ha:PA X (e::es) t)
  (J:starEach (e::es) X.env=(false,eval e X.env)::starEach es X.env) (ae:(backTo pos (starEach es X.env)).any (·.1)=false)
  (ht:eval (.Call (.Attribute o m apos) (e::es) [] pos) X.env=(do
   let ov ← eval o X.env
   standAt apos.atName
   let (f,first) ← holding [ov] (getMethod ov m pl)
   callWith pos f first (backTo pos (starEach (e::es) X.env)) (backToKw pos (keywordEach [] X.env)))):
  PE X (.Call (.Attribute o m apos) (e::es) [] pos) (zhR C m sp dvs E ta t):=by
 intro pins s σ H Q I h;refine PySem.W.methodCall_KW (pl:=pl) (thn (he pins s σ H _ I h) fun u s1 ⟨x,H1,d,g,a,dx,fs,ex,j,l,q⟩=>?_) ht;subst ex;obtain rfl:u=Value.ref a:=g;refine zgX d j c hm l ?_;refine ydk (first:=[.ref a]) (h₀:=X.base) I.ok.mod.kin hm.kp (thn (ha pos pins s1 σ H1 _ d q) fun us s2 ⟨vs,H2,b,r,i⟩=>⟨b.kIn,?_⟩) J ae;exact zhe (us:=.ref a::us) (vs:=.ref a::vs) F hr hb hd U b (.cons rfl r) i
def zl0(he:PE X o ta)(c:Cls X.K C)(hm:Meth X.K C m f)(F:FnOk X.prog X.w X.K X.mg X.base CX k f fd ps sp)(U:Room k X.A)(hb:zcW X.K fd ps ds)(hd:Vals dvs ds)(J:zeb CX X E)
  (ht:eval (.Call (.Attribute o m apos) [] [] pos) X.env=(do
   let ov ← eval o X.env
   standAt apos.atName
   let (f,first) ← holding [ov] (getMethod ov m pl)
   callWith pos f first (backTo pos (starEach [] X.env)) (backToKw pos (keywordEach [] X.env)))):
  PE X (.Call (.Attribute o m apos) [] [] pos) (zhR C m sp dvs E ta zvc):=by
 intro pins s σ H Q I h;refine PySem.W.methodCall_KW (pl:=pl) (thn (he pins s σ H _ I h) fun u s1 ⟨x,H1,b,d,a,dx,fs,ex,e,l,q⟩=>?_) ht;subst ex;obtain rfl:u=Value.ref a:=d;refine zgX b e c hm l ?_;exact PySem.W.callWith_K0 (first:=[.ref a]) b.kIn hm.kp (zhe (us:=[.ref a]) (vs:=[.ref a]) F U hb hd J b (.cons rfl .nil) q)
def zlA(M:Mk X.K C f)(F:FnOk X.prog X.w X.K X.mg X.base CX k f fd ps sp)(U:Room (k+1) X.A)(hb:zcW X.K fd ps ds)(hd:Vals dvs ds)
  (J:zeb CX X E) (I:Inv X pins σ H s) (r:Vals vs us)
  (h:∀x dx,H x=none->H dx=none->dx≠x->sp (.ref x::(vs++dvs)) (upd (upd H dx (.own x)) x (.ins C dx [])) (fun v H2=>v=.non/\Q (.ref x) H2) (E σ)):
  wpAny (model X.prog X.w) X.A (call (.ref C) us) (EP X pins σ Q) X.xe s:=by
 have d:=h (s.heap.objs.size+1) s.heap.objs.size (I.hok.fresh (ycN _)) (I.hok.fresh (yai _)) (yaA (ybY _));have b:=Inv.made (C:=C) I;have c:Vals (V.ref (s.heap.objs.size+1)::(vs++dvs)) (Value.ref (s.heap.objs.size+1)::(us++ds)):=.cons rfl (r.append hd)
 have j:(Value.ref (s.heap.objs.size+1)::us++ds).length=ps.length:=by
  have e:=c.length;rw[F.len _ _ _ _ d]at e;exact e.symm
 refine wpAny_call (zos (f:=f) I.kIn M.makes M.init (yb1.mp M.fn) (ydh (F.run _ X.stack _ _ ⟨Value.ref (s.heap.objs.size+1)::us,[]⟩ (Value.ref (s.heap.objs.size+1)::(us++ds)) _ _ (E σ) (U.make C us [])
  (b.env0.make C us []) (hb _ (Value.ref (s.heap.objs.size+1)::us) b.kIn j) c d) fun r s' a=>?_))
 cases r with
 |error e=>exact J pins σ _ _ e s' b a|ok fl=>
  cases fl with
  |ret u=>
   obtain⟨v,H',l,g,ev,i⟩:=b.after a;subst ev;exact⟨g,⟨V.ref (s.heap.objs.size+1),H',l,rfl,i⟩⟩
  |next=>exact False.elim a|brk=>exact False.elim a|cont=>exact False.elim a
def zn9(M:Mk X.K C f)(F:FnOk X.prog X.w X.K X.mg X.base CX k f fd ps sp)(hr:Room (k+1) X.A)(hg:Gl X x)(hm:X.mg x=some (.ref C))(hb:zcW X.K fd ps ds)(hd:Vals dvs ds)(U:zeb CX X E)
  (ha:PA X (e::es) t) (J:(x==("__debug__":Str))=false) (he:starEach (e::es) X.env=(false,eval e X.env)::starEach es X.env) (ae:(backTo pos (starEach es X.env)).any (·.1)=false):
  PE X (.Call (.Name x p) (e::es) [] pos) (zph C sp dvs E t):=by
 intro pins s σ H Q I h;refine yb5 (zfm I hg hm ?_ J);refine ydk (h₀:=X.base) I.ok.mod.kin M.kp (thn (ha pos pins s σ H _ I h) fun us s1 ⟨vs,H1,a,r,q⟩=>⟨a.kIn,?_⟩) he ae;exact zlA M F hr hb hd U a r q
end
section
variable{cl:Cf}{E:St->XK}{fs:List Fe}{fo:Fe}{G:List D->Sto->Out D}{σ:St}{H:Hp}{Q:VK}{n:Nat}{c m:Str}{ρ:Env}
theorem zfa:∀{fs:List Fe}{S S1:Sto}{ds:List D},zao fs ρ S=.ok ds S1->ds.length=fs.length
 |[],S,S1,ds,h=>by cases h;rfl
 |f::fs,S,S1,ds,h=>by
  unfold zao at h
  cases h1:f ρ S with
  |bad=>rw[h1]at h;cases h|exc c S2=>rw[h1]at h;cases h|ok d S2=>
   rw[h1]at h;dsimp only[Out.bind]at h
   cases h2:zao fs ρ S2 with
   |bad=>rw[h2]at h;cases h|exc c a=>rw[h2]at h;cases h|ok es a=>rw[h2]at h;cases h;rw[yan,yan,zfa h2]
def zmj(R:Rel cl B σ w ρ S)(I:Shd cl w v d)(h:zdq c m d S=true):∃a dx fs,v=.ref a/\w.H a=some (.ins (cl c) dx fs)/\fs.lookup m=none:=by
 unfold zdq at h
 cases d with
 |ref n=>
  dsimp only at h
  cases b:S[n]? with
  |none=>rw[b]at h;cases h|some ob=>
   rw[b]at h;dsimp only at h;rw[yac]at h;obtain⟨a,dx,fs,rfl,_,_,f,g⟩:=zgx R I b;have e:=yah h.1;subst e;exact⟨a,dx,fs,rfl,f,g.miss (by simpa using h.2)⟩
 |_=>cases h
def zt9(q:tE cl E (zaJ c m G fo fs) σ H Q)(I:fs.length+1=n):zhR (cl c) m (zhI cl n false G) [] E (tE cl E fo) (tAs cl E fs) σ H Q:=by
 obtain⟨B,w,ρ,S,rfl,R,q⟩:=q;refine⟨B,w,ρ,S,rfl,R,?_⟩;unfold zaJ at q
 cases e:fo ρ S with
 |bad=>rwa[e]at q|exc c S1=>rwa[e]at q|ok d j=>
 rw[e]at q;intro v o l F0 h0;dsimp only[Out.bind]at q
 cases hok:zdq c m d j with
 |false=>rw[hok]at q;exact q.elim|true=>
 rw[hok,if_pos rfl]at q;obtain⟨a,dx,fs',rfl,s,hm⟩:=zmj l h0 hok;refine⟨a,dx,fs',rfl,s,hm,B,o,ρ,j,rfl,l,?_⟩
 cases hf:zao fs ρ j with
 |bad=>rwa[hf]at q|exc c S1=>rw[hf]at q;exact fun b f F1=>q b f (F0.trans F1)|ok ds S1=>
  rw[hf]at q;intro vs b f F1 h1;dsimp only at q;refine⟨?_,b.base,b.inn,d::ds,S1,rfl,f.wd.enter,?_,?_⟩
  ·rw[yaS,yan,h1.length,zfa hf];exact I
  ·rw[yaS];exact .cons ((h0.up F1).up (zda b)) (h1.up (zda b))
  cases i:G (d::ds) S1 with
  |bad=>rwa[i]at q|exc c S2=>
   rw[i]at q;intro h g F2;obtain⟨k,F3⟩:=f.leave g F2;exact q (b.back h) k (F0.trans (F1.trans F3))
  |ok r S2=>
   rw[i]at q;intro v h g F2 p;obtain⟨k,F3⟩:=f.leave g F2;exact q v (b.back h) k (F0.trans (F1.trans F3)) (Shd.up (zei g) p)
def zt8(q:tN cl E (zaJ c m G fo fs) σ H Q)(I:fs.length+1=n):zhR (cl c) m (zhI cl n true G) [] E (tE cl E fo) (tAs cl E fs) σ H Q:=by
 obtain⟨B,w,ρ,S,rfl,R,q⟩:=q;refine⟨B,w,ρ,S,rfl,R,?_⟩;unfold zaJ at q
 cases g:fo ρ S with
 |bad=>rwa[g]at q|exc c S1=>rwa[g]at q|ok d l=>
 rw[g]at q;intro v x s F0 h0;dsimp only[Out.bind]at q
 cases hok:zdq c m d l with
 |false=>rw[hok]at q;exact q.elim|true=>
 rw[hok,if_pos rfl]at q;obtain⟨a,dx,fs',rfl,C,hm⟩:=zmj s h0 hok;refine⟨a,dx,fs',rfl,C,hm,B,x,ρ,l,rfl,s,?_⟩
 cases hf:zao fs ρ l with
 |bad=>rwa[hf]at q|exc c S1=>rw[hf]at q;exact fun b h F1=>q b h (F0.trans F1)|ok ds S1=>
  rw[hf]at q;intro vs b h F1 h1;dsimp only at q;refine⟨?_,b.base,b.inn,d::ds,S1,rfl,h.wd.enter,?_,?_⟩
  ·rw[yaS,yan,h1.length,zfa hf];exact I
  ·rw[yaS];exact .cons ((h0.up F1).up (zda b)) (h1.up (zda b))
  cases k:G (d::ds) S1 with
  |bad=>rwa[k]at q|exc c S2=>
   rw[k]at q;intro e j F2;obtain⟨p,F3⟩:=h.leave j F2;exact q (b.back e) p (F0.trans (F1.trans F3))
  |ok r S2=>
   rw[k]at q;intro v e j F2 y;obtain⟨p,F3⟩:=h.leave j F2;obtain⟨a,o,i,rfl,k1,k2,t⟩:=y;have f:b.base.Fr a=none:=(j.own a _ k1).elim (fun z=>by cases z) fun z=>z
   have k3:(b.back e).ow a=some .far:=by
    show(if(b.base.Fr a).isSome=true then b.ow a else Root.out (e.ow a))=_;rw[f,k1];rfl
   have A:B.Fr a=none:=by
    cases z:B.Fr a with
    |none=>rfl|some u=>rw[zeM h.wd z]at f;cases f
   have hd:=zi1 (w:=b.back e) (a:=a) (by rw[k3];exact yaC _);have:=q a o ((b.back e).del a) (p.del k3 A) (F0.trans (F1.trans (F3.trans hd))) (if_pos rfl) ((t.up (zei j)).up hd);rwa[zk4 (w:=b.back e) k2]at this
def zzt(J:∀w,Shds cl w dvs I)(q:tE cl E (eMk c I G fs) σ H Q)(U:fs.length+I.length+1=n):zph (cl c) (zhI cl n false G) dvs E (tAs cl E fs) σ H Q:=by
 obtain⟨B,w,ρ,S,rfl,R,q⟩:=q;refine⟨B,w,ρ,S,rfl,R,?_⟩;unfold eMk at q
 cases hf:zao fs ρ S with
 |bad=>rwa[hf]at q|exc c S1=>rwa[hf]at q|ok ds S1=>
  rw[hf]at q;intro vs a i F1 h1;dsimp only[Out.bind]at q;intro x dx k f ne;obtain⟨R2,F2⟩:=i.made (c:=c) k f ne
  have b:(a.addO x dx (cl c) S1.length).mu[S1.length]?=some x:=by
   show(a.mu++[x])[S1.length]?=some x;rw[yaG (by rw[i.wd.len];exact yai _),i.wd.len,ybx];rfl
  refine⟨?_,(a.addO x dx (cl c) S1.length).base,(a.addO x dx (cl c) S1.length).inn,.ref S1.length::(ds++I),S1++[⟨c,[]⟩],rfl,R2.wd.enter,?_,?_⟩
  ·rw[yan,yak,h1.length,zfa hf,(J a).length];exact U
  ·exact .cons (.ref b) (((h1.up F2).up (zda _)).append (J _))
  cases e:G (.ref S1.length::(ds++I)) (S1++[⟨c,[]⟩])with
  |bad=>rwa[e]at q|exc c S2=>
   rw[e]at q;intro d g F3;obtain⟨h,F4⟩:=R2.leave g F3;exact q ((a.addO x dx _ S1.length).back d) h (F1.trans (F2.trans F4))
  |ok r S2=>
   rw[e]at q;intro v d g F3 j
   cases r with
   |non=>
    obtain⟨h,F4⟩:=R2.leave g F3;refine⟨by cases j;rfl,q (.ref x) ((a.addO x dx _ S1.length).back d) h (F1.trans (F2.trans F4)) (.ref (F4.mu _ _ b))⟩
   |_=>exact q.elim
end
end S2
namespace L2
open PySem PySem.Spec PyProof.Rows
end L2
namespace S2
open PySem PySem.Spec PyProof.Rows L2
noncomputable def zwQ:Operator->Option (Int->Int->Int)|.Add=>some (·+·)|.Sub=>some (· - ·)|_=>none
noncomputable def zrV(i:Nat)(g:Int->Int->Int)(fe:Fe):Fs:=fun ρ S=>match ρ[i]? with
 |some (~~~.int a)=>(match fe ρ S with
  |.ok (.int b) S1=>.nx (ρ.set i (~~~.int (g a b))) S1|.ok _ _=>.bad|.exc c S1=>.ex c ρ S1|.bad=>.bad)
 |_=>.bad
noncomputable def lrD:D->Option D|.int n=>if decide (0<=n/\n<=1000)then some (.lst ((List.range n.toNat).map fun(i:Nat)=>D.int (i:Int)))else none|_=>none
section
variable{cl:Cf}{X:Cx}{E:St->XK}{e:Expr}{fe f:Fe}{pos:Pos}{own:Bool}
def zsG(I:zwQ op=some g)(U:X.N.Nodup)(hi:X.N[i]?=some x)(J:Loc X.env.scope x)(he:PE X e (tE cl E fe))(hf:X.fn x=true\/X.env.scope.names.lookup x=some .local):PS X (.AugAssign (.Name x p) op e pos) (tS cl E own (zrV i g fe)):=by
 have main:∀ti:TIp,PIp X op ti->(∀a b H Q,Q (.int (g a b)) H->ti (.int a) (.int b) H Q)->PS X (.AugAssign (.Name x p) op e pos) (tS cl E own (zrV i g fe)):=by
  intro ti m j;refine PS.imp (ztj U hi J he m hf) ?_;rintro t σ H ⟨B,w,ρ,S,rfl,R,q⟩;unfold zrV at q;split at q
  ·rename_i a n;obtain⟨v,ev,l⟩:=R.slots i false _ n;have h:Shd cl w v (.int a):=l;cases h;refine⟨_,ev,B,w,ρ,S,rfl,R,?_⟩
   cases f:fe ρ S with
   |bad=>rwa[f]at q|exc c S1=>rw[f]at q;exact fun w' r s=>q σ w' r s|ok d S1=>
    rw[f]at q;intro y k o F1 h1
    cases d with
    |int b=>
     cases h1;exact j a b _ _ (q _ k (o.put (.int _)) F1)
    |_=>exact q.elim
  ·exact q.elim
 cases op<;>simp[zwQ]at I<;>subst I
 ·exact main zxA zuC fun a b H Q q=>⟨a,b,rfl,rfl,q⟩
 ·exact main zxz zuB fun a b H Q q=>⟨a,b,rfl,rfl,q⟩
theorem zik:∀l:List Nat,Shds cl w (l.map fun(i:Nat)=>V.int (i:Int)) (l.map fun(i:Nat)=>D.int (i:Int))
 |[]=>.nil|a::l=>.cons (.int _) (zik l)
theorem zkV:bootBuiltins "list"=some (.type "list"):=by decide +kernel
theorem zsX(hc:X.calm=true)(hg:Gl X "list")(hm:X.mg "list"=none)(J:Gl X "range")(I:X.mg "range"=none)(he:PE X e (tE cl E f))(hs:starEach [e] X.env=[(false,eval e X.env)]):
  PE X (.Call (.Name "list" p) [.Call (.Name "range" p2) [e] [] U] [] pos) (tN cl E (eUn lrD f)):=by
 refine PE.imp (zf5 (zhy hc) hg hm zkV (zbH (ztx J I (zdu he zgJ hs) hs) zdp)) ?_;rintro σ H Q ⟨B,w,ρ,S,rfl,R,q⟩;refine⟨B,w,ρ,S,rfl,R,?_⟩;unfold eUn at q
 cases hf:f ρ S with
 |bad=>rw[hf]at q;exact q.elim|exc c S1=>rw[hf]at q;simp only[zao,hf,Out.bind];exact q|ok d S1=>
  rw[hf]at q;simp only[zao,hf,Out.bind];intro vs h k F1 sh;dsimp only[Out.bind]at q
  cases a:lrD d with
  |none=>rw[a]at q;exact q.elim|some r=>
   rw[a]at q;unfold lrD at a;split at a
   ·rename_i n;split at a
    ·rename_i i;cases a;have b:=yah i
     cases sh with
     |cons h1 j=>
      cases j;cases h1;refine⟨n,rfl,b.1,b.2,fun pr g=>⟨pr,n.toNat,rfl,?_,by omega,fun l a=>?_⟩⟩
      ·rw[show((n.toNat:Nat):Int)=n by omega];exact zaC
      ·exact q l _ (h.add pr (.rng 0 n)) (k.grow (zaF g _)) (F1.trans (zaF g _).fut) a (.lst (zik _))
    ·cases a
   ·cases a
end
end S2
namespace ST
open PySem PySem.Spec PySem.W PyProof.Rows
section
variable{prog:Program}{w:World}{A:Around}{E:Z5}{s:Shared}
theorem zfE(k:∀b o,h.get? b=some o->o.cls=.type "tuple" -> h'.get? b=some o):∀{vs fs:List Value},KatTups h vs fs->KatTups h' vs fs
 |[],[],_=>trivial|_::_,_::_,t=>by
  obtain⟨⟨a,o,xs,n,e,d,c,hd,hf⟩,t⟩:=t;exact⟨⟨a,o,xs,n,e,k a o d c,c,hd,hf⟩,zfE k t⟩
theorem zlm{a:Addr}{vs fs:List Value}{n:Nat}{p:Array Nat}{P:PySem.Fin->Shared->Prop}(ho:s.heap.get? a=some (seqObj "list" vs.toArray n))(h2:2<=vs.length)(I:vs.length<64)(t:KatTups s.heap vs fs)(J:0<fs.length)(hf:∀v∈fs,∃i t,v=.int i t)
  (h:∀(s':Shared) (G:Array Nat->Shared->Prop),(∀b o,s.heap.get? b=some o->o.cls=.type "tuple" -> s'.heap.get? b=some o)->G p s'->(kas_sort vs.length).kasWp (kas_ask prog w A (tuples' true) vs) G s')
  (U:P (.done (.ret .none)) {s with heap:=sortedHeap s.heap a vs (List.toArray (p.toList.map fun i=>vs.getD i Value.none))}):
  wpAny (model prog w) A (Builtin.«list.sort» ⟨[.ref a],[]⟩) P E s:=by
 rw[list_sort_plain];have H:a<s.heap.objs.size:=yap ho;refine yaa (listItems_at ho rfl ?_);refine yaa (ydv ho rfl ?_ (by rw[yag,ybN];omega) (yaY _));obtain⟨u,g⟩:∃u,(s.heap.update a (Obj.mapSeq fun _=>#[])).get? a=some (seqObj "list" #[] u):=⟨_,get?_update_seq ho (fun _=>#[])⟩;refine yaa (seqEpoch_at g rfl ?_);refine yaa (wpAny_newTuple ?_ (by show vs.length<=_;rw[ybN];omega));refine yaa (wpAny_newList ?_ (yaY _));refine ybC ?_;have f:(((s.heap.update a (Obj.mapSeq fun _=>#[])).push (seqObj "tuple" vs.toArray 0)).push (seqObj "list" #[] 0)).get? a=some (seqObj "list" #[] u):=yae _ (yae _ g)
 have kp:∀b o,s.heap.get? b=some o->o.cls=.type "tuple" -> (((s.heap.update a (Obj.mapSeq fun _=>#[])).push (seqObj "tuple" vs.toArray 0)).push (seqObj "list" #[] 0)).get? b=some o:=by
  intro b o m B
  have k:b≠a:=fun z=>by
   subst z;rw[ho]at m;cases m;exact absurd (Value.type.inj B) (by decide)
  exact yae _ (yae _ ((Heap.SameBut.update s.heap a _).2 b k |>.trans m))
 show wpAny (model prog w) A _ P E {s with heap:=((s.heap.update a (Obj.mapSeq fun _=>#[])).push (seqObj "tuple" vs.toArray 0)).push (seqObj "list" #[] 0)};dsimp only
 have j:¬ vs.toArray.size<2:=by rw[yag];omega
 rw[if_neg j,if_neg j];refine yaa (kat_kind (fs:=fs) (T:=.type "int") (zfE kp t) J (fun v x=>?_) (by decide) ?_)
 ·obtain⟨i,tk,rfl⟩:=hf v x;exact .now
 refine yaa (ybr (kat_run (Q:=fun c s'=>s'={s with heap:=((s.heap.update a (Obj.mapSeq fun _=>#[])).push (seqObj "tuple" vs.toArray 0)).push (seqObj "list" #[] 0)}/\p.size=vs.length/\arrOf c=p.map (kas_item (vs.toArray.zip vs.toArray))/\failedOf c=none)
  (G:=fun q s'=>q=p/\s'={s with heap:=((s.heap.update a (Obj.mapSeq fun _=>#[])).push (seqObj "tuple" vs.toArray 0)).push (seqObj "list" #[] 0)}) rfl h2 I (fun F c s' a1 a2 D C=>?_) (h _ _ kp ⟨rfl,rfl⟩)) ?_ fun _ _ e=>e)
 ·obtain⟨rfl,rfl⟩:=C;exact⟨rfl,a1,a2,D⟩
 rintro⟨⟨⟩,c⟩ s' ⟨rfl,y,r,l⟩;dsimp only;have d:=kat_snds rfl r
 have hsz:(List.toArray (p.toList.map fun i=>vs.getD i Value.none)).size=vs.length:=by rw[yag,yad,ybd,y]
 rw[d];refine yaa (seqEpoch_at f rfl ?_);refine yaa (ydv f rfl ?_ (yaY _) (yal (yb7 hsz) (by rw[ybN];omega)));rw[l];simp only[bne_self_eq_false,yaK,yby];exact yaf U
noncomputable def lxL(a1 a2 I J:Int):Bool:=decide (a1<I\/(a1=I/\a2<J))
def zo6{vs:List Value}{i j:Nat}{x y:Addr}{a1 a2 J I:Int}{t1 t2 u1 U:Tok}{C:Bool->Shared->Prop}(hi:vs.getD i Value.none=.ref x)(hj:vs.getD j Value.none=.ref y)(hx:s.heap.IsTuple x #[.int a1 t1,.int a2 t2])(hy:s.heap.IsTuple y #[.int J u1,.int I U])
  (h:C (lxL a1 a2 J I) s):kas_ask prog w A (tuples' true) vs i j C s:=by
 unfold kas_ask;rw[hi,hj];obtain⟨f,ex,_,nx,dx⟩:=hx;obtain⟨e,c,_,g,d⟩:=hy;refine kat_lt ex dx c d ?_;refine kat_cons (wpAny_eqBool_int ?_)
 by_cases a:a1=J
 ·subst a;rw[ybt];refine kat_yes (kat_cons (wpAny_eqBool_int ?_))
  by_cases b:a2=I
  ·subst b;rw[ybt];refine kat_yes (kat_nil ?_)
   have:lxL a1 a2 a1 a2=decide ((#[Value.int a1 t1,Value.int a2 t2]:Array Value).size<(#[Value.int a1 u1,Value.int a2 U]:Array Value).size):=by simp[lxL]
   rw[<-this];exact h
  ·rw[beq_false_of_ne b];refine kat_no (kat_one _ _ (lt_int ?_))
   have:lxL a1 a2 a1 I=decide (a2<I):=by simp[lxL]
   rwa[this]at h
 ·rw[beq_false_of_ne a];refine kat_no (oneLt_int ?_)
  have:lxL a1 a2 J I=decide (a1<J):=by simp[lxL,a]
  rwa[this]at h
end
end ST
namespace L2
open PySem PySem.Spec PySem.W PyProof.Rows ST
end L2
namespace S2
open PySem PySem.Spec PyProof.Rows L2 ST
noncomputable def zf7:D->Option (Int×Int)|.tup [.int a,.int b]=>some (a,b)|_=>none
section
variable{X:Cx}{cl:Cf}{E:St->XK}{a b:Expr}{f g:Fe}
def zf6(h:Shd cl w v d)(e:zf7 d=some x):∃q,v=.ref q/\w.H q=some (.tup [.int x.1,.int x.2]):=by
 unfold zf7 at e;split at e
 ·cases e
  cases h with
  |tup ep k r=>
   cases r with
   |cons r1 a=>
    cases a with
    |cons a b=>cases b;cases r1;cases a;exact⟨_,rfl,ep⟩
 ·cases e
end
end S2
namespace ST
open PySem PySem.Spec PySem.W PyProof.Rows
noncomputable def Okk{α:Type}(n:Nat)(ans:Nat->Nat->Bool):KasT α->(α->Prop)->Prop
 |.ret a,Q=>Q a|.ask i j k,Q=>i<n/\j<n/\Okk n ans (k (ans i j)) Q
theorem Okk.bind{α β:Type}{f:α->KasT β}{Q:β->Prop}:∀{t:KasT α},Okk n ans t (fun a=>Okk n ans (f a) Q)->Okk n ans (t.bind f) Q
 |.ret a,h=>h|.ask i j k,h=>⟨h.1,h.2.1,Okk.bind (t:=k (ans i j)) h.2.2⟩
theorem Okk.mono{α:Type}{Q J:α->Prop}(I:∀a,Q a->J a):∀{t:KasT α},Okk n ans t Q->Okk n ans t J
 |.ret a,h=>I a h|.ask i j k,h=>⟨h.1,h.2.1,Okk.mono I (t:=k (ans i j)) h.2.2⟩
section
variable{n:Nat}{key:Nat->Int}
noncomputable abbrev ansK(key:Nat->Int)(i j:Nat):Bool:=decide (key i<key j)
noncomputable abbrev KP(key:Nat->Int)(p:Array Nat)(i:Nat):Int:=key (p.getD i 0)
structure Ps(n:Nat)(p:Array Nat):Prop where
 perm:p.toList.Perm (List.range n)
theorem Ps.size(h:Ps n p):p.size=n:=by
 have:=h.perm.length_eq;rwa[ybu,ybd]at this
def Ps.get(h:Ps n p)(hi:i<n):p.getD i 0=p[i]'(by rw[h.size];exact hi):=by
 rw[yaT,ybl (by rw[h.size];exact hi)];rfl
theorem Ps.lt(h:Ps n p)(I:0<n):p.getD i 0<n:=by
 by_cases hi:i<n
 ·rw[h.get hi]
  have:p[i]'(by rw[h.size];exact hi)∈p.toList:=by simp
  exact yaX.mp (h.perm.mem_iff.mp this)
 ·rw[yaT,yb3 (by rw[h.size];omega)];exact I
theorem Ps.ne(h:Ps n p)(inj:∀i j,i<n->j<n->key i=key j->i=j)(hi:i<n)(J:j<n)(I:i≠j):KP key p i≠KP key p j:=by
 intro z
 have a:0<n:=by omega
 have e:=inj _ _ (h.lt a) (h.lt a) z;rw[h.get hi,h.get J]at e;have nd:p.toList.Nodup:=h.perm.nodup_iff.mpr List.nodup_range;have:=(List.getElem_inj (i:=i) (j:=j) (h₀:=by rw[ybd,h.size];exact hi) (h₁:=by rw[ybd,h.size];exact J) nd).mp (by rw[ych,ych];exact e);exact I this
def Ps.of(h:Ps n p)(I:q.Perm p):Ps n q:=⟨(Array.perm_iff_toList_perm.mp I).trans h.perm⟩
noncomputable def Srt(key:Nat->Int)(p:Array Nat)(m:Nat):Prop:=∀i j,i<j->j<m->KP key p i<KP key p j
noncomputable def Dsc(key:Nat->Int)(p:Array Nat)(m:Nat):Prop:=∀i j,i<j->j<m->KP key p j<KP key p i
theorem Srt.next(h:Srt key p m)(J:1<=m)(I:KP key p (m-1)<KP key p m):Srt key p (m+1):=by
 intro i j a c
 by_cases e:j=m
 ·subst e
  by_cases b:i=j-1
  ·rw[b];exact I
  ·exact ycU (h i (j-1) (by omega) (by omega)) I
 ·exact h i j a (by omega)
def Dsc.next(h:Dsc key p m)(J:1<=m)(I:KP key p m<KP key p (m-1)):Dsc key p (m+1):=by
 intro i j a c
 by_cases e:j=m
 ·subst e
  by_cases b:i=j-1
  ·rw[b];exact I
  ·exact ycU I (h i (j-1) (by omega) (by omega))
 ·exact h i j a (by omega)
def zpr(h:Ps n p)(inj:∀i j,i<n->j<n->key i=key j->i=j):∀(f m:Nat),1<=m->m+f<=n->Srt key p m->Okk n (ansK key) (kas_asc p f m) fun r=>m<=r/\r<=m+f/\Srt key p r/\(r<m+f->KP key p r<KP key p (r-1)):=by
 intro f
 induction f with
 |zero=>intro m h1 k hs;exact⟨yai _,yai _,hs,fun z=>absurd z (ya6 _)⟩|succ f q=>
  intro m h1 k hs;have g:=yam (ybV (Nat.succ_pos f)) k;have e:=ycf g;refine⟨h.lt e,h.lt e,?_⟩;dsimp only[ansK]
  by_cases c:key (p.getD m 0)<key (p.getD (m-1) 0)
  ·rw[yax c,if_pos rfl];exact⟨yai _,yb0 ..,hs,fun _=>c⟩
  ·rw[yaE c,if_neg (by decide)];have o:=Nat.sub_one_lt_of_lt h1;have s:KP key p (m-1)<KP key p m:=Int.lt_iff_le_and_ne.mpr ⟨Int.not_lt.mp c,Ne.symm (h.ne inj g (ycS o g) (yaO o))⟩;have l:=Nat.succ_add_eq_add_succ m f;exact Okk.mono (fun r ⟨a,b,c,d⟩=>⟨ybR a,yal b (yb7 l),c,fun z=>d (Nat.lt_of_lt_of_eq z l.symm)⟩) (q (m+1) (Nat.succ_pos m) (yal (yb7 l) k) (hs.next h1 s))
theorem zmb(h:Ps n p)(inj:∀i j,i<n->j<n->key i=key j->i=j):∀(f m:Nat),1<=m->m+f<=n->Dsc key p m->Okk n (ansK key) (kas_desc f p m 0) fun r=>r.1=p/\m<=r.2.1/\r.2.1<=m+f/\r.2.2=0/\Dsc key p r.2.1
 |0,m,h1,o,hs=>⟨rfl,yai _,yai _,rfl,hs⟩|f+1,m,h1,o,hs=>by
  have g:0<n:=by omega
  refine⟨h.lt g,h.lt g,?_⟩;dsimp only[ansK]
  by_cases c:key (p.getD m 0)<key (p.getD (m-1) 0)
  ·rw[yax c,if_pos rfl,if_neg (by decide)];refine Okk.mono ?_ (zmb h inj f (m+1) (by omega) (by omega) (hs.next h1 c));rintro r ⟨a,b,c,d,e⟩;exact⟨a,by omega,by omega,d,e⟩
  ·rw[yaE c,if_neg (by decide)];have k:=h.ne inj (i:=m) (j:=m-1) (by omega) (by omega) (by omega)
   have q:key (p.getD (m-1) 0)<key (p.getD m 0):=by
    have l:key (p.getD m 0)≠key (p.getD (m-1) 0):=k;omega
   refine⟨h.lt g,h.lt g,?_⟩;dsimp only[ansK];rw[yax q,if_pos rfl];exact⟨rfl,yai _,yb0 m (f+1),rfl,hs⟩
def zrw{p q:Array Nat}{i j:Nat}(h:p[i]?=q[j]?):p.getD i 0=q.getD j 0:=by
 rw[yaT,yaT,h]
theorem zqw(hm:m<=p.size)(h:Dsc key p m):Srt key (kas_rev p 0 m) m:=by
 intro i j c b
 have e:∀k,k<m->(kas_rev p 0 m).getD k 0=p.getD (m-1-k) 0:=fun k a=>by
  apply zrw;unfold kas_rev;rw[getElem?_mirror_all hm,if_pos ⟨yaY _,a⟩,Nat.zero_add]
 show key _<key _;rw[e i (by omega),e j b];exact h (m-1-j) (m-1-i) (by omega) (by omega)
theorem zon(h:Ps n p)(h2:2<=n)(inj:∀i j,i<n->j<n->key i=key j->i=j):Okk n (ansK key) (kas_count n p) fun r=>Ps n r.2/\1<=r.1/\r.1<=n/\Srt key r.2 r.1:=by
 have g:=ybR h2;have u:=ybX g;unfold kas_count;refine Okk.bind (Okk.mono ?_ (zpr h inj (n-1) 1 (yai _) (yb7 u) fun i j f o=>absurd (yam f (ybT o)) (Nat.not_lt_zero i)));rw[u];rintro m ⟨a,b,c,d⟩
 by_cases e:m=n
 ·subst e;rw[if_pos (by simp)];exact⟨h,a,yai _,c⟩
 ·rw[if_neg (by simpa using e)]
  by_cases l:m > 1
  ·rw[if_pos l];refine⟨h.lt g,h.lt g,?_⟩;dsimp only[ansK];rw[yax (c 0 (m-1) (Nat.sub_pos_of_lt l) (Nat.sub_one_lt_of_lt a)),if_pos rfl];exact⟨h,a,b,c⟩
  ·rw[if_neg l];obtain rfl:=yda (ydy.mp l) a;have y:=d h2;have v:=ybX h2;unfold kas_descPart
   refine Okk.bind (Okk.mono ?_ (zmb h inj (n-(1+1)) (1+1) (by decide) (yb7 v) (fun i j f o=>by
    obtain rfl:=yda (ybT o) (ycf f);obtain rfl:=Nat.le_zero.mp (ybT f)
    exact y)))
   rintro⟨q,m,z⟩ ⟨a1,a2,k,x,w⟩;dsimp only at a1 a2 k x w ⊢;subst a1 x;rw[v]at k;rw[if_neg (by decide)];unfold kas_tail3;have t:Ps n (kas_rev q 0 m):=h.of (mirror_perm _ _ _ _);have s:=ybR a2;refine Okk.bind (Okk.mono ?_ (zpr t inj (n-m) m s (yb7 (ybX k)) (zqw (by rw[h.size];exact k) w)));rw[ybX k];rintro r ⟨C,B,A,_⟩;exact⟨t,yal s C,B,A⟩
def zom(h:Ps n p)(inj:∀i j,i<n->j<n->key i=key j->i=j)(I:k<n)(hs:Srt key p k):∀(f l r:Nat),l<=r->r<=k->r-l<=f->(∀i,i<l->KP key p i<KP key p k)->(∀i,r<=i->i<k->KP key p k<KP key p i)->Okk n (ansK key) (kas_place p k f l r) fun m=>m<=k/\(∀i,i<m->KP key p i<KP key p k)/\∀i,m<=i->i<k->KP key p k<KP key p i:=by
 intro f
 induction f with
 |zero=>
  intro l r g a hf h1 h2;obtain rfl:=yda g (Nat.le_of_sub_eq_zero (Nat.le_zero.mp hf));exact⟨a,h1,h2⟩
 |succ f s=>
  intro l r g a hf h1 h2;have b:=ycf I;unfold kas_place
  by_cases e:l ≥ r
  ·rw[if_pos e];obtain rfl:=yda g e;exact⟨a,h1,h2⟩
  ·rw[if_neg e];refine⟨h.lt b,h.lt b,?_⟩;dsimp only[ansK];obtain⟨m,hm,w,q,v,u⟩:∃m,(l+r) / 2=m/\l<=m/\m<r/\m-l<=f/\r-(m+1)<=f:=⟨_,rfl,by clear h1 h2;omega⟩;rw[hm];have mk:=yam q a
   by_cases c:key (p.getD k 0)<key (p.getD m 0)
   ·rw[yax c,if_pos rfl];refine s l m w (ycq mk) v h1 fun i hi o=>?_
    by_cases d:i=m
    ·rw[d];exact c
    ·exact ycU c (hs m i (ycH hi (Ne.symm d)) o)
   ·rw[yaE c,if_neg (by decide)];have t:KP key p m<KP key p k:=Int.lt_iff_le_and_ne.mpr ⟨Int.not_lt.mp c,Ne.symm (h.ne inj I (ycS mk I) (yaO mk))⟩;refine s (m+1) r q a u (fun i hi=>?_) h2
    by_cases d:i=m
    ·rw[d];exact t
    ·exact ycU (hs i m (ycH (ybT hi) d) mk) t
def ztQ(inj:∀i j,i<n->j<n->key i=key j->i=j):∀(f:Nat) (p:Array Nat) (k:Nat),Ps n p->k+f=n->Srt key p k->Okk n (ansK key) (kas_bin f p k) fun q=>Ps n q/\Srt key q n:=by
 intro f
 induction f with
 |zero=>intro p k h m hs;exact⟨h,by rw[<-m];exact hs⟩
 |succ f A=>
  intro p k h m hs
  have y:k<n:=by rw[<-m];exact ybV (Nat.succ_pos f)
  unfold kas_bin;refine Okk.bind (Okk.mono ?_ (zom h inj y hs k 0 k (yaY _) (yai _) (yai _) (fun i hi=>absurd hi (Nat.not_lt_zero i)) fun i hi x=>absurd x (ydy.mpr hi)));rintro l ⟨a,b,c⟩;refine A _ (k+1) (h.of (bubble_perm _ _ _)) ((Nat.succ_add_eq_add_succ k f).trans m) ?_
  have v:k<p.size:=by rw[h.size];exact y
  have e:∀i,i<k+1->(bubble p k (k-l)).getD i 0=if i=l then p.getD k 0 else if l<i then p.getD (i-1) 0 else p.getD i 0:=fun i hi=>by
   rw[yaT,getElem?_bubble v (k-l) (Nat.sub_le ..)];rw[Nat.sub_sub_self a]
   by_cases r:i=l
   ·rw[if_pos r,if_pos r,yaT]
   ·rw[if_neg r,if_neg r]
    by_cases o:l<i
    ·rw[if_pos ⟨o,ybT hi⟩,if_pos o,yaT]
    ·rw[if_neg (fun z=>o z.1),if_neg o,yaT]
  intro i j d w;show key _<key _;rw[e i (ycS d w),e j w]
  by_cases g:l<j
  ·rw[if_neg (yaO g),if_pos g];have s:=Nat.sub_one_lt_of_le (ycf g) (ybT w)
   by_cases i1:i=l
   ·rw[if_pos i1];exact c (j-1) (Nat.le_sub_one_of_lt g) s
   ·rw[if_neg i1]
    by_cases i2:l<i
    ·rw[if_pos i2];exact hs (i-1) (j-1) (Nat.sub_lt_sub_right (ycf i2) d) s
    ·rw[if_neg i2];exact hs i (j-1) (yam (ycH (ydy.mp i2) i1) (Nat.le_sub_one_of_lt g)) s
  ·have u:=yam d (ydy.mp g);rw[if_neg (yaA u),if_neg (Nat.lt_asymm u),if_neg g]
   by_cases t:j=l
   ·rw[if_pos t];exact b i u
   ·rw[if_neg t];exact hs i j d (yam (ycH (ydy.mp g) t) a)
theorem zuh(h2:2<=n)(inj:∀i j,i<n->j<n->key i=key j->i=j):Okk n (ansK key) (kas_sort n) fun p=>p.toList.Perm (List.range n)/\(p.toList.map key).Pairwise (· < ·):=by
 have h0:Ps n (List.toArray (List.range n)):=⟨by simp⟩
 have fin:∀q,Ps n q/\Srt key q n->q.toList.Perm (List.range n)/\(q.toList.map key).Pairwise (· < ·):=by
  rintro q ⟨a,b⟩;refine⟨a.perm,?_⟩;rw[List.pairwise_iff_getElem];intro i j hi f g;rw[yad,ybd,a.size]at hi f;rw[ybL,ybL,ych,ych];have:=b i j g f;unfold KP at this;rwa[a.get hi,a.get f]at this
 unfold kas_sort;refine Okk.bind (Okk.mono ?_ (zon h0 h2 inj));rintro⟨m,q⟩ ⟨a,b,c,d⟩;dsimp only at a b c d ⊢
 by_cases e:m<n
 ·rw[if_pos e];rw[show max m 1=m by omega];exact Okk.mono fin (ztQ inj (n-m) q m a (by omega) d)
 ·rw[if_neg e]
  have:m=n:=by omega
  subst this;exact fin q ⟨a,d⟩
end
section
variable{prog:Program}{w:World}{A:Around}{E:Z5}{s:Shared}
theorem znt{a:Addr}{vs:List Value}{n:Nat}{P:PySem.Fin->Shared->Prop}(ho:s.heap.get? a=some (seqObj "list" vs.toArray n))(h2:vs.length<2)
  (I:P (.done (.ret .none)) {s with heap:=sortedHeap s.heap a vs vs.toArray}):wpAny (model prog w) A (Builtin.«list.sort» ⟨[.ref a],[]⟩) P E s:=by
 rw[list_sort_plain];refine yaa (listItems_at ho rfl ?_);refine yaa (ydv ho rfl ?_ (by rw[yag,ybN];omega) (yaY _));obtain⟨e,c⟩:∃e,(s.heap.update a (Obj.mapSeq fun _=>#[])).get? a=some (seqObj "list" #[] e):=⟨_,get?_update_seq ho (fun _=>#[])⟩;refine yaa (seqEpoch_at c rfl ?_);refine yaa (wpAny_newTuple ?_ (by show vs.length<=_;rw[ybN];omega));refine yaa (wpAny_newList ?_ (yaY _));refine ybC ?_;have b:(((s.heap.update a (Obj.mapSeq fun _=>#[])).push (seqObj "tuple" vs.toArray 0)).push (seqObj "list" #[] 0)).get? a=some (seqObj "list" #[] e):=yae _ (yae _ c);show wpAny (model prog w) A _ P E {s with heap:=((s.heap.update a (Obj.mapSeq fun _=>#[])).push (seqObj "tuple" vs.toArray 0)).push (seqObj "list" #[] 0)};dsimp only
 have d:vs.toArray.size<2:=by rw[yag];omega
 rw[if_pos d,if_pos d];refine yaa (yaf ?_);rw[StateT.run_pure];refine yaa (yaf ?_);dsimp only;refine yaa (seqEpoch_at b rfl ?_)
 have f:(arrOf (SortSt.mk' general' (vs.toArray.zip vs.toArray) #[] 7 none)).map (·.2)=vs.toArray:=by
  show(vs.toArray.zip vs.toArray).map (·.2)=vs.toArray;apply Array.toList_inj.mp;simp;exact List.map_snd_zip (yai _)
 refine yaa (ydv b rfl ?_ (yaY _) (by show((arrOf (SortSt.mk' general' (vs.toArray.zip vs.toArray) #[] 7 none)).map (·.2)).size<=_;rw[f,yag,ybN];omega));simp only[bne_self_eq_false,yaK,yby];refine yaf ?_;have:=I;rwa[<-f]at this
end
noncomputable def zkc(h:Heap)(d:Addr)(es:Array DictEntry)(ep:Nat):Prop:=∃o,h.get? d=some o/\o.ExactDict/\o.data=.dict es ep
section
variable{prog:Program}{w:World}{A:Around}{E:Z5}{s:Shared}{d:Addr}{es:Array DictEntry}{ep:Nat}
def zkc.at(x:zkc h d es ep)(e:∀o,h.get? d=some o->h'.get? d=some o):zkc h' d es ep:=let ⟨o,a,r⟩:=x;⟨o,e _ a,r⟩
def zkc.typeIs(x:zkc s.heap d es ep):s.TypeIs (.ref d) "dict":=let ⟨o,a,b,_⟩:=x;⟨o,a,b.1⟩
def zkc.lt(x:zkc h d es ep):d<h.objs.size:=let ⟨_,a,_⟩:=x;yap a
theorem znK{Q:Z5}(hd:(d==sysModules)=false)(hm:zkc s.heap d es ep)
  (I:Q (.ref s.heap.objs.size) {s with heap:=s.heap.push {cls:=.type "dict_keyiterator",data:=.fields #[.ref d,.int 0 0,.int es.size 0,.int ep 0]}}):
  wpAny (model prog w) A (pyIter (.ref d)) Q E s:=by
 obtain⟨o,e,f,b⟩:=id hm;have c:=hm.typeIs;refine wpAny_pyIter_slot c PySem.F.slot_dict_iter (ya0 PySem.F.slot_dict_iter c PySem.F.entry_dict_iter ?_ (PySem.F.args_dict_iter_1 _));unfold Builtin.«dict.__iter__»;refine yaa ?_;unfold Builtin.Dict.dictSlotNone;refine yaa (wpAny_notOrdered_dict c ?_);refine yaf (a:=Value.ref d) ?_;show wpAny _ _ (Builtin.Dict.showsAll d >>= _) _ _ s;unfold Builtin.Dict.showsAll;rw[if_neg (by rw[hd];exact yaR)];refine yaa (yaf ?_);refine yaa (ydt e b ?_);refine yaa (wpAny_dictEpoch e b ?_);refine yaa (yaU (yaf ⟨_,rfl,"dict_keyiterator",_,⟨_,yaq _ rfl,rfl⟩,ya9.lookup,?_⟩));simpa[rawInt]using I
theorem znL{it:Addr}{i:Nat}{e:DictEntry}{Q:Option Value->Shared->Prop}(hit:s.heap.IsKeyIter it d i es.size ep)(hm:zkc s.heap d es ep)(I:es[i]?=some e)
  (J:∀h',h'.IsKeyIter it d (i+1) es.size ep->Heap.SameBut it s.heap h'->Q (some e.key) {s with heap:=h'}):wpAny (model prog w) A (pyNext (.ref it)) Q E s:=by
 obtain⟨o,f,j,hd⟩:=id hit;obtain⟨od,b,h,c⟩:=id hm;unfold pyNext
 refine yaa (yc4 (yaW (name:=Str.ofString "__next__") hit.typeIs ya9
  (ya0 ya9 hit.typeIs yco ?_ (ycl _))))
 refine yaa (yaf ?_);refine yaa (yaa ?_)
 first|refine yaa (ybA hit.typeIs (yaf ?_))|refine yaa (ybU hit.typeIs (yaf ?_))
 refine yaa (wpAny_fieldsOf f hd ?_);simp only[show Builtin.Dict_items.ownsTuple "dict_keyiterator"=false by decide,yaK,yby];show wpAny _ _ (if(Value.ref d==Value.none)=true then _ else _) _ _ s;rw[if_neg (show ¬ ((Value.ref d==Value.none)=true)from yaR)];refine yaa (yaf ?_);refine yaa (ydt b c ?_);rw[if_neg (by simp)];refine yaa (yaf ?_);refine yaa (wpAny_dictEpoch b c ?_);rw[if_neg (by simp)];refine yaf ?_;have g:i<es.size:=(ybK.mp I).1;have k:es[i]=e:=(ybK.mp I).2;simp only[show ¬ ((i:Int)<0)from by omega,yby,yaI,ybl g];refine yaa ?_
 first|refine yaa (ybA hit.typeIs (yaf ?_))|refine yaa (ybU hit.typeIs (yaf ?_))
 refine yaa (wpAny_isOneOf_keyiter hit.typeIs ?_);show wpAny _ _ (setField (.ref it) 1 (rawInt ((i:Int)+1)) >>= _) _ _ s;refine yaa (ydn f hd (by simp) ?_)
 have a:(s.heap.update it (Obj.mapFields (·.setIfInBounds 1 (rawInt ((i:Int)+1))))).IsKeyIter it d (i+1) es.size ep:=
  ⟨_,yca _ f (Obj.isFreed_of_fields (ycC hd _)),(Obj.cls_mapFields ..).trans j,by rw[ycC hd];simp[rawInt]⟩
 refine yaa (ybC ?_);refine yaa (wpAny_isOneOf_keyiter (s:={s with heap:=s.heap.update it (Obj.mapFields (·.setIfInBounds 1 (rawInt ((i:Int)+1))))}) a.typeIs ?_);show wpAny _ _ (pure es[i].key) _ _ _;rw[k];exact yaf (yaf ⟨_,rfl,yaf (J _ a (Heap.SameBut.update ..))⟩)
theorem zqy{it:Addr}{i:Nat}{Q:Option Value->Shared->Prop}(J:A.handled=none)(hit:s.heap.IsKeyIter it d i es.size ep)(hm:zkc s.heap d es ep)(I:es.size<=i)
  (U:∀h',Heap.ExtBut it s.heap h'->Q none {s with heap:=h'}):wpAny (model prog w) A (pyNext (.ref it)) Q E s:=by
 obtain⟨o,f,h,hd⟩:=id hit;obtain⟨od,c,g,e⟩:=id hm;unfold pyNext
 refine yaa (yc4 (yaW (name:=Str.ofString "__next__") hit.typeIs ya9
  (ya0 ya9 hit.typeIs yco ?_ (ycl _))))
 refine yaa (yaf ?_);refine yaa (yaa ?_)
 first|refine yaa (ybA hit.typeIs (yaf ?_))|refine yaa (ybU hit.typeIs (yaf ?_))
 refine yaa (wpAny_fieldsOf f hd ?_);simp only[show Builtin.Dict_items.ownsTuple "dict_keyiterator"=false by decide,yaK,yby];show wpAny _ _ (if(Value.ref d==Value.none)=true then _ else _) _ _ s;rw[if_neg (show ¬ ((Value.ref d==Value.none)=true)from yaR)];refine yaa (yaf ?_);refine yaa (ydt c e ?_);rw[if_neg (by simp)];refine yaa (yaf ?_);refine yaa (wpAny_dictEpoch c e ?_);rw[if_neg (by simp)];refine yaf ?_;simp only[show ¬ ((i:Int)<0)from by omega,yby,yaI,yb3 I];refine yaa ?_
 first|refine yaa (ybA hit.typeIs (yaf ?_))|refine yaa (ybU hit.typeIs (yaf ?_))
 show wpAny _ _ (setField (.ref it) 0 .none >>= _) _ _ s;refine yaa (ydn f hd (by simp) ?_);show wpAny _ _ (newExc (.type "StopIteration") [] >>= _) _ _ _;refine yaa ?_;simp only[newExc,newTuple];refine yaa (yaU ?_ (by size_fits));refine yaa (m:=firstArgMember _ _) (wpAny_of_eq (a:=Value.none) (by first|rfl|(simp only[firstArgMember];rfl)) ?_);refine yaU ?_ (by size_fits);simp only[raiseNew];refine yaa (wpAny_handled ?_);rw[show A.in1.handled=none from J];refine yaa (yaf (wpAny_throw ?_));refine yaa (ycn (T:="StopIteration") (b:=true) ⟨_,yaq _ rfl,rfl⟩ isSubtype_stop ?_);exact yaf (U _ (((Heap.SameBut.update ..).extBut.push _).push _))
def zlF(U:A.handled=none)(I d:Addr)(J:d≠I)(es:Array DictEntry)(ep:Nat):
  Walks prog w A I [I,d] [I] es.size (fun i v=>∃e,es[i]?=some e/\v=e.key) (fun i h=>h.IsKeyIter I d i es.size ep/\zkc h d es ep)where
 sub:=fun b a=>by simp at a;simp[a]
 frame:=fun _ _ _ st k=>⟨st.1.at fun o e=>k I (by simp) o e,st.2.at fun o e=>k d (by simp) o e⟩
 item:=fun i s Q E hi st g=>by
  refine znL st.1 st.2 (ybl hi) fun h' f c=>?_
  exact g _ h' s.toks ⟨_,ybl hi,rfl⟩ ⟨f,st.2.at fun o e=>(c.2 d J).trans e⟩ fun b o a e=>c.extBut b o (fun h=>a (by simp[h])) e
 done:=fun s Q E st g=>zqy U st.1 st.2 (yai _) fun h' j=>g h' s.toks fun b o a e=>j b o (fun h=>a (by simp[h])) e
 self:=fun _ _ _ _ st g=>wpAny_pyIter_keyiter st.1 g
def zqx(lo:(d==sysModules)=false):KdlSrc prog w "dict" d d es.size (fun i v=>∃e,es[i]?=some e/\v=e.key) (fun h=>zkc h d es ep)where
 type:=fun _ hm=>hm.typeIs
 there:=fun _ hm=>⟨hm.lt,hm.lt⟩
 keep:=fun _ _ hm b=>hm.at fun o e=>b d (.inl rfl) o e
 notList:=by decide
 notTuple:=by decide
 hint:=fun _ _ _ _ hm a=>kdl_hint_dict hm.typeIs a
 iter:=fun _ _ c hm=>⟨_,_,(fun _ _ a=>znK lo hm a),zlF c _ d (yaA hm.lt) es ep,⟨⟨_,yaq _ rfl,rfl,rfl⟩,hm.at fun _ e=>yae _ e⟩⟩
theorem ziR{R:List Value->Shared->Prop}(J:A.handled=none)(lo:(d==sysModules)=false)(hm:zkc s.heap d es ep)(I:es.size<=sizeLine)
  (h:∀(h':Heap) (tk:Nat),(∀b o,s.heap.get? b=some o->h'.get? b=some o)->R (es.toList.map (·.key)) {s with heap:=h',toks:=tk}):
  wpAny (model prog w) A (collect (.ref d)) R E s:=by
 have hd:=hm.lt;unfold collect;refine yaa (wpAny_runValue (codeAny_builtin entry_proto_collect' ?_));rw[Around.under_plainId PySem.F.plain_proto_collect _];show wpAny _ A.in1 (newList [] >>= fun l=>again (.builtin "list.__iadd__" ⟨[l,.ref d],[]⟩)) _ _ s;refine yaa (yaU ?_);refine yaf ⟨plainId_quiet PySem.F.plain_list_iadd _,codeAny_builtin entry_list_iadd' ?_⟩;rw[Around.under_plainId PySem.F.plain_list_iadd _];have j:(s.heap.push {cls:=.type "list",data:=.seq ([]:List Value).toArray}).get? s.heap.objs.size=some {cls:=.type "list",data:=.seq #[]}:=yaq _ rfl;show wpAny _ A.in1 (Builtin.List.listExtendWith (.ref s.heap.objs.size) (.ref d) (.ref s.heap.objs.size)) _ _ _
 have n:∀acc:Array Value,ItemsOf (fun i v=>∃e,es[i]?=some e/\v=e.key) acc es.size->acc.toList=es.toList.map (·.key):=fun acc p=>by
  apply ybn;intro i;rw[yao,ycR,ycR]
  by_cases hi:i<es.size
  ·have m:i<acc.size:=by rw[p.1];exact hi
   obtain⟨e,u,t⟩:=p.2 i acc[i] (ybl m);rw[ybl m,u,t];rfl
  ·rw[yb3 (by rw[p.1];omega),yb3 (by omega)];rfl
 have key:=kdl_extend (A:=A) (s:={s with heap:=s.heap.push {cls:=.type "list",data:=.seq ([]:List Value).toArray}}) (zqx (prog:=prog) (w:=w) (es:=es) (ep:=ep) lo)
  (R:=fun(q:Result) (s':Shared)=>∃(h':Heap) (tk:Nat) (a:Array Value) (c':Nat),q=.ok (.ret (.ref s.heap.objs.size))/\s'={s with heap:=h',toks:=tk} ∧
   (∀b o,s.heap.get? b=some o->h'.get? b=some o)/\h'.get? s.heap.objs.size=some {cls:=.type "list",dict:=none,data:=.seq a c',slots:=#[]}/\a.toList=es.toList.map (·.key))
  J (hm.at fun _ e=>yae _ e) s.heap.objs.size (yaO hd) (yaO hd) (.ref s.heap.objs.size) 0 j
  (fun h' tk a c' k g c=>⟨h',tk,a,c',rfl,rfl,fun b o e=>k b o (yaA (yap e)) (yae _ e),g,n _ c⟩) I
 refine ybr key (fun fin s' x=>?_) fun e s' x=>?_
 ·cases fin with
  |done f=>
   obtain⟨h',tk,a,c',e,rfl,k,g,c⟩:=x;cases e;show wpAny _ A (load s.heap.objs.size >>= _) _ _ _;refine yaa (wpAny_load g ?_);refine yaf ?_;show R a.toList _;rw[c];exact h h' tk k
  |again c₁=>
   refine⟨x.1,ydh x.2 fun q r y=>?_⟩;obtain⟨h',tk,a,c',rfl,rfl,k,g,c⟩:=y;show wpAny _ A (load s.heap.objs.size >>= _) _ _ _;refine yaa (wpAny_load g ?_);refine yaf ?_;show R a.toList _;rw[c];exact h h' tk k
 ·obtain⟨h',tk,a,c',e,_⟩:=x;cases e
end
theorem Okk.res{α:Type}{Q:α->Prop}:∀{t:KasT α},Okk n ans t Q->∃a,Q a/\∀(cmp:Nat->Nat->(Bool->Shared->Prop)->Shared->Prop) (s:Shared) (G:α->Shared->Prop),(∀i j C,i<n->j<n->C (ans i j) s->cmp i j C s)->G a s->t.kasWp cmp G s
 |.ret a,h=>⟨a,h,fun _ _ _ _ g=>g⟩|.ask i j k,h=>by
  obtain⟨a,q,f⟩:=Okk.res (t:=k (ans i j)) h.2.2;exact⟨a,q,fun cmp s G b g=>b i j _ h.1 h.2.1 (f cmp s G b g)⟩
noncomputable abbrev IP:=Int×Int
noncomputable def zfx(p:IP):Int:=p.1*4000001+p.2
noncomputable def smP(p:IP):Prop:=-1000000<=p.2/\p.2<=1000000
theorem zua(J:smP p)(I:smP q):lxL p.1 p.2 q.1 q.2=decide (zfx p<zfx q):=by
 unfold lxL zfx;unfold smP at J I;rw[decide_eq_decide];omega
theorem zmr(J:smP p)(I:smP q)(h:zfx p=zfx q):p=q:=by
 obtain⟨a,b⟩:=p;obtain⟨c,d⟩:=q;unfold zfx at h;unfold smP at J I
 have h1:a=c:=by simp only at h J I;omega
 have h2:b=d:=by simp only at h J I;omega
 rw[h1,h2]
noncomputable def zvn(h:Heap)(x:Addr×IP):Prop:=∃t u,h.IsTuple x.1 #[.int x.2.1 t,.int x.2.2 u]
noncomputable abbrev rfs(vs:List (Addr×IP)):List Value:=vs.map fun x=>Value.ref x.1
theorem zmQ:∀{vs:List (Addr×IP)},(∀x∈vs,zvn h x)->∃fs,KatTups h (rfs vs) fs/\fs.length=vs.length/\∀v∈fs,∃i t,v=.int i t
 |[],_=>⟨[],KatTups.nil,rfl,fun v a=>nomatch a⟩|x::vs,b=>by
  obtain⟨t,u,o,e,c,n,d⟩:=b x (.head _);obtain⟨fs,h1,h2,g⟩:=zmQ (vs:=vs) fun y f=>b y (.tail _ f)
  refine⟨.int x.2.1 t::fs,KatTups.cons e c d rfl h1,congrArg Nat.succ h2,fun v a=>?_⟩
  rcases yat.mp a with rfl|a
  ·exact⟨_,_,rfl⟩
  ·exact g v a
section
variable{prog:Program}{w:World}{A:Around}{E:Z5}{s:Shared}
theorem znu(I:vs.length<64)(hs:∀x∈vs,smP x.2)(nd:(vs.map (·.2)).Nodup):∃out:List (Addr×IP),out.Perm vs/\(out.map fun x=>zfx x.2).Pairwise (· < ·) ∧
  ∀(A:Around) (E:Z5) (s:Shared) (n:Nat) (P:PySem.Fin->Shared->Prop),s.heap.get? B=some (seqObj "list" (rfs vs).toArray n)->(∀x∈vs,zvn s.heap x)->P (.done (.ret .none)) {s with heap:=sortedHeap s.heap B (rfs vs) (rfs out).toArray}->wpAny (model prog w) A (Builtin.«list.sort» ⟨[.ref B],[]⟩) P E s:=by
 by_cases h2:2<=vs.length
 ·let key:Nat->Int:=fun i=>zfx (vs.getD i (0,0,0)).2
  have gd:∀i,i<vs.length->vs.getD i (0,0,0)=vs[i]!:=fun i hi=>by rw[yav,List.getElem!_eq_getElem?_getD];rfl
  have ge:∀i (hi:i<vs.length),vs.getD i (0,0,0)=vs[i]:=fun i hi=>by rw[yav,yab hi];rfl
  have inj:∀i j,i<vs.length->j<vs.length->key i=key j->i=j:=by
   intro i j hi b e
   have J:zfx vs[i].2=zfx vs[j].2:=by rw[<-ge i hi,<-ge j b];exact e
   have t:=zmr (hs _ (ya1 hi)) (hs _ (ya1 b)) J;have np:=List.pairwise_iff_getElem.mp nd
   rcases Nat.lt_trichotomy i j with d|he|h
   ·exact absurd (by rw[ybL,ybL];exact t) (np i j (by rw[yad];exact hi) (by rw[yad];exact b) d)
   ·exact he
   ·exact absurd (by rw[ybL,ybL];exact t.symm) (np j i (by rw[yad];exact b) (by rw[yad];exact hi) h)
  obtain⟨p,⟨m,z⟩,v⟩:=Okk.res (zuh h2 inj);have d:∀i∈p.toList,i<vs.length:=fun i hi=>yaX.mp (m.mem_iff.mp hi)
  refine⟨p.toList.map fun i=>vs.getD i (0,0,0),?_,?_,?_⟩
  ·have:=m.map fun i=>vs.getD i (0,0,0)
   refine this.trans (List.Perm.of_eq ?_);apply List.ext_getElem
   ·rw[yad,ybu]
   ·intro i h1 h2;rw[ybL,ydl,ge i h2]
  ·rw[ybb];exact z
  ·intro A E s n P g a f;obtain⟨fs,t1,K,t3⟩:=zmQ a
   have H:(rfs (p.toList.map fun i=>vs.getD i (0,0,0))).toArray=List.toArray (p.toList.map fun i=>(rfs vs).getD i Value.none):=by
    congr 1;unfold rfs;rw[ybb];apply ydb;intro i hi;have q:=d i hi;show Value.ref (vs.getD i (0,0,0)).1=_;rw[ge i q,yav,yao,yab q];rfl
   rw[H]at f;refine zlm (fs:=fs) (p:=p) g (by unfold rfs;rw[yad];exact h2) (by unfold rfs;rw[yad];exact I) t1 (by omega) t3 (fun s' G k D=>?_) f;rw[show(rfs vs).length=vs.length from yad ..];refine v _ s' G (fun i j C hi b F=>?_) D;obtain⟨a1,a2,x1⟩:=a vs[i] (ya1 hi);obtain⟨M,L,u⟩:=a vs[j] (ya1 b);have up:∀{x:Addr}{xs:Array Value},s.heap.IsTuple x xs->s'.heap.IsTuple x xs:=fun⟨o,e,c,r⟩=>⟨o,k _ _ e c,c,r⟩
   refine zo6 (x:=vs[i].1) (y:=vs[j].1) (by rw[yav,yao,yab hi];rfl) (by rw[yav,yao,yab b];rfl) (up x1) (up u) ?_;rw[zua (hs _ (ya1 hi)) (hs _ (ya1 b))]
   have:ansK key i j=decide (zfx vs[i].2<zfx vs[j].2):=by
    show decide (zfx (vs.getD i (0,0,0)).2<zfx (vs.getD j (0,0,0)).2)=_;rw[ge i hi,ge j b]
   rw[<-this];exact F
 ·refine⟨vs,List.Perm.refl _,?_,fun A E s n P g a f=>znt g (by unfold rfs;rw[yad];omega) f⟩
  cases vs with
  |nil=>exact .nil|cons x l=>
   cases l with
   |nil=>exact List.pairwise_singleton _ _|cons y l=>exact absurd (by simp) h2
theorem zll{r:Addr}{vs:List (Addr×IP)}{Q:Z5}(U:vs.length<64)(hs:∀x∈vs,smP x.2)(nd:(vs.map (·.2)).Nodup)(J:∀x∈vs,zvn s.heap x)
  (I:∀{R:List Value->Shared->Prop},(∀(h':Heap) (tk:Nat),(∀b o,s.heap.get? b=some o->h'.get? b=some o)->R (rfs vs) {s with heap:=h',toks:=tk})->wpAny (model prog w) A.in1 (collect (.ref r)) R E s)
  (hQ:∀(out:List (Addr×IP)) (hm h':Heap) (tk e:Nat),out.Perm vs->(out.map fun x=>zfx x.2).Pairwise (· < ·)->(∀b o,s.heap.get? b=some o->hm.get? b=some o)->(∀b o,hm.get? b=some o->h'.get? b=some o)->h'.get? hm.objs.size=some (seqObj "list" (rfs out).toArray e)->Q (.ref hm.objs.size) {s with heap:=h',toks:=tk}):
  wpAny (model prog w) A (call (.builtin "sorted") [.ref r]) Q E s:=by
 refine Calls.call_function_entry kind_sorted plain_sorted entry_sorted (args_sorted1 _) ?_;unfold Builtin.«sorted»;refine yaa (m:=checkCount "sorted" 1 1 _) (yaf ?_);refine yaa (I fun h' tk f=>?_)
 have k:(rfs vs).length<=sizeLine:=by unfold rfs;rw[yad,ybN];omega
 refine yaa (wpAny_newList ?_ k);have a:(h'.push (seqObj "list" (rfs vs).toArray 0)).get? h'.objs.size=some (seqObj "list" (rfs vs).toArray 0):=yaq _ rfl;obtain⟨out,j,i,h⟩:=znu (prog:=prog) (w:=w) (B:=h'.objs.size) U hs nd;refine yaa (ybC (ya0 slot_list_sort ⟨_,a,rfl⟩ entry_list_sort (h _ _ {s with heap:=h'.push (seqObj "list" (rfs vs).toArray 0),toks:=tk} 0 _ a (fun x l=>?_) ⟨_,rfl,?_⟩) (args_list_sort _)))
 ·obtain⟨t,u,o,e,c⟩:=J x l;exact⟨t,u,o,yae _ (f _ _ e),c⟩
 refine yaf ⟨_,rfl,?_⟩;obtain⟨e,he⟩:=sortedHeap_at (out:=(rfs out).toArray) a
 have old:∀b o,h'.get? b=some o->(sortedHeap (h'.push (seqObj "list" (rfs vs).toArray 0)) h'.objs.size (rfs vs) (rfs out).toArray).get? b=some o:=fun b o g=>by
  have d:b<h'.objs.size:=yap g;rw[sortedHeap_old (yaA d) (by rw[size_push'];exact ydr d)];exact yae _ g
 exact hQ out h' _ tk e j i f old he
end
end ST
namespace L2
open PySem PySem.Spec PySem.W PyProof.Rows ST
section
variable{X:Cx}{pins:Z3}{σ:St}{H:Hp}{s:Shared}
def Inv.pr(I:Inv X pins σ H s)(h:SqT X.K H x.1 [.int x.2.1,.int x.2.2]):zvn s.heap x:=by
 obtain⟨ts,rt,pt,_⟩:=I.tuple h
 cases rt with
 |cons c1 rt=>
  cases rt with
  |cons b rt=>
   cases rt;obtain⟨t1,rfl⟩:=c1;obtain⟨a,rfl⟩:=b;exact⟨t1,a,pt⟩
theorem zhL:∀vs:List (Addr×IP),Vals (vs.map fun x=>V.ref x.1) (rfs vs)
 |[]=>.nil|x::vs=>.cons rfl (zhL vs)
theorem ziu(U:X.calm=true):zfi X (.builtin "sorted") (fun xs H Q=>∃(p J:Addr) (ps:List PA2),xs=[.ref p]/\H p=some (.ext (DP X.prog X.w J ps))/\KsP H ps/\ps.length<64/\(∀x∈ps,smP x.1)/\(ps.map (·.1)).Nodup ∧
  ∀(l:Addr) (out:List (Addr×IP)),H l=none->out.Perm (ps.map fun x=>(x.2,x.1))->(out.map fun x=>zfx x.2).Pairwise (· < ·)->Q (.ref l) (upd H l (.lst (out.map fun x=>.ref x.1)))):=by
 intro pins s σ H xs us Q I r h;obtain⟨p,J,ps,rfl,g,n,d,hs,nd,q⟩:=h;obtain⟨u,rfl,j⟩:=zhN r;cases j;obtain rfl:=I.dp_addr g;obtain⟨⟨o,es,ep,h1,h2,A,h4,_,z⟩,_⟩:=I.hok _ _ g;have b:zkc s.heap J es ep:=⟨o,h1,h2,A⟩
 have C:es.toList.map (·.key)=rfs (ps.map fun x=>(x.2,x.1)):=by
  rw[h4];unfold xsP rfs;rw[ybb,ybb,ybb];rfl
 have hsz:es.size<=sizeLine:=by
  have:=congrArg List.length h4;rw[ybd,yad,xsP,yad]at this;rw[this,ybN];omega
 have B:(ps.map fun x=>((x.2,x.1):Addr×IP)).map (·.2)=ps.map (·.1):=by rw[ybb];rfl
 refine zll (vs:=ps.map fun x=>(x.2,x.1)) (by rw[yad];exact d) (fun y c=>?_) (by rw[B];exact nd) (fun y c=>?_) (fun {R} t=>ziR (I.ok.hd U) z b hsz fun h' tk k=>by rw[C];exact t h' tk k) fun out hm h' tk e f m k1 k2 v=>?_
 ·obtain⟨x,a,rfl⟩:=yar.mp c;exact hs x a
 ·obtain⟨x,a,rfl⟩:=yar.mp c;exact I.pr (SqT.of (n x a))
 ·have i:Inv X pins σ H {s with heap:=hm,toks:=tk}:=I.kept k1;refine⟨.ref hm.objs.size,_,i.laid (h':=h') (t':=tk) (o:=.lst (out.map fun x=>.ref x.1)) k2 (yai _) ⟨?_,rfs out,e,zhL out,v⟩,rfl,q _ _ (i.hok.fresh (yai _)) f m⟩;rw[yad,f.length_eq,yad,ybN];omega
end
end L2
namespace S2
open PySem PySem.Spec PyProof.Rows L2 ST
noncomputable def pD(p:IP):D:=.tup [.int p.1,.int p.2]
def zjI:zf7 (pD p)=some p:=rfl
def zjJ(h:zf7 d=some p):d=pD p:=by
 unfold zf7 at h;split at h
 ·cases h;rfl
 ·cases h
def zrW(p:IP):List IP->List IP
 |[]=>[p]|q::l=>if zfx p<zfx q then p::q::l else q::zrW p l
noncomputable def zfy:List IP->List IP|[]=>[]|p::l=>zrW p (zfy l)
theorem zgj:∀l:List IP,(zrW p l).Perm (p::l)
 |[]=>List.Perm.refl _|q::l=>by
  unfold zrW;split
  ·exact List.Perm.refl _
  ·exact((zgj l).cons q).trans (List.Perm.swap p q l)
theorem zdC:∀l:List IP,(zfy l).Perm l
 |[]=>List.Perm.refl _|p::l=>(zgj _).trans ((zdC l).cons p)
theorem zjW:∀{l:List IP},(l.map zfx).Pairwise (· < ·)->(∀q∈l,zfx q≠zfx p)->((zrW p l).map zfx).Pairwise (· < ·)
 |[],_,_=>List.pairwise_singleton _ _|q::l,h,d=>by
  rw[yau,yb6]at h;unfold zrW;split
  ·rename_i a;rw[yau,yau,yb6,yb6];refine⟨fun x b=>?_,h⟩
   rcases yat.mp b with rfl|b
   ·exact a
   ·exact ycU a (h.1 x b)
  ·rename_i a;rw[yau,yb6];refine⟨fun x b=>?_,zjW h.2 fun r c=>d r (.tail _ c)⟩;obtain⟨r,c,rfl⟩:=yar.mp b;have:=(zgj l).mem_iff.mp c
   rcases yat.mp this with rfl|c
   ·have:=d q (.head _);omega
   ·exact h.1 _ (yar.mpr ⟨r,c,rfl⟩)
theorem zgT:∀{l:List IP},(l.map zfx).Nodup->((zfy l).map zfx).Pairwise (· < ·)
 |[],_=>.nil|p::l,h=>by
  rw[yau,ybw]at h;refine zjW (zgT h.2) fun q a e=>h.1 ?_
  have:=(zdC l).mem_iff.mp a;exact yar.mpr ⟨q,this,e⟩
theorem zjq{α:Type}(k:α->Int):∀{l m:List α},(l.map k).Pairwise (· < ·)->(m.map k).Pairwise (· < ·)->l.Perm m->l=m
 |[],m,_,_,h=>(List.Perm.nil_eq h)|a::l,[],_,_,h=>by have:=h.length_eq;cases this
 |a::l,b::m,h1,h2,h=>by
  rw[yau,yb6]at h1 h2
  have e:a=b:=by
   have d:=h.mem_iff.mp (yay (a:=a) (l:=l));have c:=h.mem_iff.mpr (yay (a:=b) (l:=m))
   rcases yat.mp d with e|d
   ·exact e
   ·rcases yat.mp c with e|c
    ·exact e.symm
    ·have x1:=h1.1 _ (yar.mpr ⟨b,c,rfl⟩);have f:=h2.1 _ (yar.mpr ⟨a,d,rfl⟩);exact absurd (ycU x1 f) (Int.lt_irrefl _)
  subst e;rw[zjq k h1.2 h2.2 (List.Perm.cons_inv h)]
noncomputable def zps(ps:List IP):Bool:=decide (ps.length<64)&&ps.all (fun p=>decide (-1000000<=p.2/\p.2<=1000000))&&decide ps.Nodup
def zmc(h:zps ps=true):ps.length<64/\(∀p∈ps,smP p)/\ps.Nodup:=by
 unfold zps at h;rw[yac,yac,ybs]at h;exact⟨yah h.1.1,fun p a=>(yah (h.1.2 p a):-1000000<=p.2/\p.2<=1000000),yah h.2⟩
def ztG{ps:List IP}{out:List (Addr×IP)}{vs:List (Addr×IP)}(I:vs.map (·.2)=ps)(ok:zps ps=true)(J:out.Perm vs)(hs:(out.map fun x=>zfx x.2).Pairwise (· < ·)):out.map (·.2)=zfy ps:=by
 obtain⟨_,c,nd⟩:=zmc ok;refine zjq zfx (by rw[ybb];exact hs) (zgT ?_) (((J.map (·.2)).trans (List.Perm.of_eq I)).trans (zdC ps).symm);unfold List.Nodup at nd ⊢;rw[List.pairwise_map];exact List.Pairwise.imp_of_mem (fun {a b} f d h e=>h (zmr (c a f) (c b d) e)) nd
section
variable{X:Cx}{cl:Cf}{E:St->XK}{a e:Expr}{f:Fe}{i j:Nat}{x y:Str}{p px ap cp pos pos':Pos}{own:Bool}{w:Wd}
theorem zjs:∀{out:List (Addr×IP)},(∀x∈out,Shd cl w (.ref x.1) (pD x.2))->Shds cl w (out.map fun x=>V.ref x.1) ((out.map (·.2)).map pD)
 |[],_=>.nil|x::out,h=>.cons (h x (.head _)) (zjs fun y a=>h y (.tail _ a))
def zfL(ps:List IP):D:=.dic ((.bl true,.non)::pdD ps)
def psX:List (D×D)->Option (List IP)
 |[]=>some []|(d,.bl true)::l=>(zf7 d).bind fun p=>(psX l).bind fun ps=>some (p::ps)|_=>none
theorem zjD:∀ps:List IP,psX (pdD ps)=some ps
 |[]=>rfl|p::ps=>by
  show(psX (pdD ps)).bind _=_;rw[zjD ps];rfl
theorem zpm:∀{ds:List (D×D)}{ps:List IP},psX ds=some ps->ds=pdD ps
 |[],ps,h=>by cases h;rfl
 |(d,v)::l,ps,h=>by
  cases v with
  |bl b=>
   cases b with
   |true=>
    obtain⟨p,h1,h⟩:=Option.bind_eq_some_iff.mp (show((zf7 d).bind fun p=>(psX l).bind fun ps=>some (p::ps))=some ps from h);obtain⟨a,h2,h⟩:=Option.bind_eq_some_iff.mp h;cases h;rw[zpm h2,zjJ h1];rfl
   |false=>cases h
  |_=>cases h
noncomputable def zoG:D->Option (List IP)|.dic ((.bl true,.non)::ds)=>psX ds|_=>none
def zoF(h:zoG d=some ps):d=zfL ps:=by
 unfold zoG at h;split at h
 ·rw[zpm h];rfl
 ·cases h
def zha(i:Nat)(ρ:Env):Option (Bool×List IP):=match ρ[i]? with|some (some (o,d))=>(zoG d).map fun ps=>(o,ps)|_=>none
def zg9(h:zha i ρ=some (o,ps)):ρ[i]?=some (some (o,zfL ps)):=by
 unfold zha at h;split at h
 ·rename_i o' d e
  cases hd:zoG d with
  |none=>rw[hd]at h;cases h|some x=>rw[hd]at h;cases h;rw[e,zoF hd]
 ·cases h
def zpD(h:Exd cl w o (pdD ps)):∃I xs,o=.ext (DP cl.P cl.wo I xs)/\xs.map (·.1)=ps/\∀x∈xs,w.H x.2=some (.tup [.int x.1.1,.int x.1.2])/\w.ow x.2=none:=by
 generalize b:pdD ps=ds at h
 cases h with
 | @pd a xs h=>
  have:=congrArg psX b;rw[zjD,zjD]at this;exact⟨a,xs,rfl,(Option.some.inj this).symm,h⟩
 |od=>
  cases ps with
  |nil=>cases b|cons p ps=>cases b
def Rel.dcx(R:Rel cl B σ w ρ S)(h:ρ[i]?=some (some (o,zfL ps))):∃a I xs,σ[i]?=some (some (.ref a))/\(o=true->w.ow a=some (.slot i))/\w.H a=some (.ext (DP cl.P cl.wo I xs))/\xs.map (·.1)=ps/\∀x∈xs,w.H x.2=some (.tup [.int x.1.1,.int x.1.2])/\w.ow x.2=none:=by
 obtain⟨v,c,r⟩:=R.slots i o _ h
 cases o with
 |false=>
  have r':Shd cl w v (.dic ((.bl true,.non)::pdD ps)):=r;generalize b:pdD ps=q at r'
  cases r' with
  |dicK _ _ z=>cases z|dicX e _ x=>
   rw[<-b]at x;obtain⟨I,xs,rfl,h1,h2⟩:=zpD x;exact⟨_,I,xs,c,(fun z=>nomatch z),e,h1,h2⟩
 |true=>
  obtain⟨a,o,rfl,h1,h2,t⟩:=r;have t':Top cl w o (.dic ((.bl true,.non)::pdD ps)):=t;generalize b:pdD ps=q at t'
  cases t' with
  |dicK z=>cases z|dicX x=>
   rw[<-b]at x;obtain⟨I,xs,rfl,g1,g2⟩:=zpD x;exact⟨a,I,xs,c,fun _=>h1,h2,g1,g2⟩
noncomputable def zfR(i:Nat)(ρ:Env):Option IP:=match ρ[i]? with|some (~~~d)=>zf7 d|_=>none
def zhW{i:Nat}{ρ:Env}{p:IP}(h:zfR i ρ=some p):ρ[i]?=some (~~~pD p):=by
 unfold zfR at h;split at h
 ·rename_i d e;rw[e,zjJ h]
 ·cases h
def zg0(i:Nat):Fe:=fun ρ S=>match zfR i ρ with|some p=>.ok (zfL [p]) S|none=>.bad
def zny(hu:X.A.units+1<cLine)(J:Same' cl X)(hN:X.N[i]?=some x)(U:Vis X.env.scope x)(hd:(x==("__debug__":Str))=false)(I:(x==("__classdict__":Str))=false):
  PE X (.Dict [some (.Name x px)] [.Constant (.bool true) kk pc] pos) (tN cl E (zg0 i)):=by
 refine PE.imp (zob hu (zbg hN U hd I) zqR) ?_;rintro σ H Q ⟨B,w,ρ,S,rfl,R,q⟩;intro d a;unfold zg0 at q
 cases hs:zfR i ρ with
 |none=>rw[hs]at q;exact q.elim|some p=>
  rw[hs]at q;obtain⟨v,l,r⟩:=R.slots i false _ (zhW hs);have r':Shd cl w v (pD p):=r;obtain⟨kb,rfl,e⟩:=zf6 r' zjI
  have g:w.ow kb=none:=by
   have f:Shd cl w (.ref kb) (.tup [.int p.1,.int p.2]):=r'
   cases f with
   |tup _ k _=>exact k
  refine⟨_,l,kb,p,rfl,rfl,by rw[zam (zar e a)];exact e,zaC,?_⟩
  have j:upd (upd w.H d (.ext (DP X.prog X.w d []))) d (.ext (DP X.prog X.w d [(p,kb)]))=upd w.H d (.ext (DP X.prog X.w d [(p,kb)])):=by
   funext b;unfold upd
   by_cases c:b=d
   ·rw[if_pos c,if_pos c]
   ·rw[if_neg c,if_neg c,if_neg c]
  rw[j,J.pp,J.ww];refine q d _ w R (Fut.refl _) a (.dicX (ds:=pdD [p]) ?_)
  exact Exd.pd (xs:=[(p,kb)]) fun y h=>by
   rcases yaB.mp h with rfl
   exact⟨e,g⟩
def zio(i:Nat)(f:Fe):Fe:=fun ρ S=>match zha i ρ with
 |some q=>(f ρ S).bind fun k S1=>(match zf7 k with|some p=>.ok (.bl (!decide (p∈q.2))) S1|none=>.bad)
 |none=>.bad
def zpu(J:Same' cl X)(σ:St)(H:Hp)(Q:VK)(q:tE cl E (zio i f) σ H Q):
  tOp (fun x y H Q=>∃(kb a I:Addr) (p:Int×Int) (xs:List PA2),x=.ref kb/\y=.ref a/\H kb=some (.tup [.int p.1,.int p.2])/\H a=some (.ext (DP X.prog X.w I xs))/\KsP H xs/\Q (.bl (!decide (p∈xs.map (·.1)))) H) (tE cl E f) (zvF i) σ H Q:=by
 obtain⟨B,w,ρ,S,rfl,R,q⟩:=q;refine⟨B,w,ρ,S,rfl,R,?_⟩;unfold zio at q
 cases hs:zha i ρ with
 |none=>rw[hs]at q;exact q.elim|some g=>
  obtain⟨o,ps⟩:=g;rw[hs]at q;dsimp only at q
  cases hf:f ρ S with
  |bad=>rwa[hf]at q|exc c S1=>rwa[hf]at q|ok k S1=>
   rw[hf]at q;dsimp only[Out.bind]at q;intro v e d F1 h1;obtain⟨a,I,xs,m,_,h2,l,h4⟩:=d.dcx (zg9 hs)
   cases b:zf7 k with
   |none=>rw[b]at q;exact q.elim|some p=>
    rw[b]at q;obtain⟨kb,rfl,j⟩:=zf6 h1 b;refine⟨_,m,kb,a,I,p,xs,rfl,rfl,j,by rw[J.pp,J.ww];exact h2,fun y h=>(h4 y h).1,?_⟩;rw[l];exact q (.bl _) e d F1 (.bl _)
def zqp(hu:X.A.units+1<cLine)(J:Same' cl X)(hN:X.N[i]?=some x)(U:Vis X.env.scope x)(hd:(x==("__debug__":Str))=false)(I:(x==("__classdict__":Str))=false)(ha:PE X a (tE cl E f)):PE X (.Compare a [.NotIn] [.Name x px] pos) (tE cl E (zio i f)):=
 PE.imp (ziU (zma hu) ha (zbg hN U hd I) rfl) (zpu J)
def zp5(hu:X.A.units+1<cLine)(J:Same' cl X)(hN:X.N[i]?=some x)(U:Vis X.env.scope x)(hd:(x==("__debug__":Str))=false)(I:(x==("__classdict__":Str))=false)(ha:PE X a (tE cl E f)):PT X (.Compare a [.NotIn] [.Name x px] pos) (tTr cl E (zio i f)):=
 PT.imp (ziT (zma hu) ha (zbg hN U hd I) rfl) fun _ _ _ q=>zpu J _ _ _ (zhQ q)
def zkm(i j:Nat):Fs:=fun ρ S=>match zha i ρ,zfR j ρ with
 |some (true,ps),some p=>if p ∉ ps/\ps.length<=100000 then .nx (ρ.set i (some (true,zfL (ps++[p])))) S else .bad
 |_,_=>.bad
def zp8(hu:X.A.units+1<cLine)(J:Same' cl X)(hN:X.N[i]?=some x)(hv:Vis X.env.scope x)(hd:(x==("__debug__":Str))=false)(a4:(x==("__classdict__":Str))=false)(a5:X.N[j]?=some y)(U:Vis X.env.scope y)(a3:(y==("__debug__":Str))=false)(I:(y==("__classdict__":Str))=false):
  PS X (.Assign [.Subscript (.Name x px) (.Name y py) p3] (.Constant (.bool true) kk pc) pos) (tS cl E own (zkm i j)):=by
 refine PS.imp (zlM (zqR (b:=true)) (zpo (zbg hN hv hd a4) (zbg a5 U a3 I) (znw hu)) rfl rfl rfl) ?_;rintro t σ H ⟨B,w,ρ,S,rfl,R,q⟩;unfold zkm at q;split at q
 ·rename_i ps p hs n;split at q
  ·rename_i e;obtain⟨a,d,xs,h,h1,h2,f,h4⟩:=R.dcx (zg9 hs);obtain⟨v,s,r⟩:=R.slots j false _ (zhW n);have r':Shd cl w v (pD p):=r;obtain⟨kb,rfl,g⟩:=zf6 r' zjI
   have m:w.ow kb=none:=by
    have l:Shd cl w (.ref kb) (.tup [.int p.1,.int p.2]):=r'
    cases l with
    |tup _ k _=>exact k
   have hlen:xs.length<=100000:=by rw[<-f,yad]at e;exact e.2
   refine⟨_,h,_,s,a,d,kb,p,xs,rfl,rfl,rfl,g,by rw[J.pp,J.ww];exact h2,fun y c=>(h4 y c).1,by rw[f];exact e.1,yal hlen (by decide),?_⟩;rw[J.pp,J.ww];have o:Fut w (w.mut a (.ext (DP cl.P cl.wo d (xs++[(p,kb)])))):=zc9 (by rw[h1 rfl];exact yaC _)
   have ex:Exd cl w (.ext (DP cl.P cl.wo d (xs++[(p,kb)]))) (pdD (ps++[p])):=by
    have:=Exd.pd (cl:=cl) (w:=w) (a:=d) (xs:=xs++[(p,kb)]) fun y c=>by
     rcases ya8.mp c with c|c
     ·exact h4 y c
     ·rcases yaB.mp c with rfl
      exact⟨g,m⟩
    rwa[ybS,f]at this
   exact q σ _ (R.mut (d0:=.non) h (h1 rfl) (.dicX ex)) o
  ·exact q.elim
 ·exact q.elim
def zkM(i:Nat):Fe:=fun ρ S=>match zha i ρ with
 |some q=>if zps q.2 then .ok (.lst ((zfy q.2).map pD)) S else .bad
 |none=>.bad
theorem zls(hc:X.calm=true)(J:Same' cl X)(hg:Gl X "sorted")(hm:X.mg "sorted"=none)(hN:X.N[i]?=some x)(U:Vis X.env.scope x)(hd:(x==("__debug__":Str))=false)(I:(x==("__classdict__":Str))=false):
  PE X (.Call (.Name "sorted" p) [.Name x px] [] pos) (tN cl E (zkM i)):=by
 refine PE.imp (zed (ziu hc) hg hm (by decide +kernel) (zbH (zbg hN U hd I) zdp)) ?_;rintro σ H Q ⟨B,w,ρ,S,rfl,R,q⟩;unfold zkM at q
 cases hs:zha i ρ with
 |none=>rw[hs]at q;exact q.elim|some h=>
  obtain⟨o,ps⟩:=h;rw[hs]at q;dsimp only at q
  cases ok:zps ps with
  |false=>rw[ok]at q;exact q.elim|true=>
   rw[ok,if_pos rfl]at q;obtain⟨a,n,xs,m,_,h2,d,h4⟩:=R.dcx (zg9 hs);obtain⟨c,e,nd⟩:=zmc ok;refine⟨_,m,a,n,xs,rfl,by rw[J.pp,J.ww];exact h2,fun y b=>(h4 y b).1,by rw[<-d,yad]at c;exact c,fun y b=>e _ (by rw[<-d];exact yar.mpr ⟨y,b,rfl⟩),by rw[d];exact nd,fun l out k f j=>?_⟩;refine q l (.lst (out.map fun x=>V.ref x.1)) w R (Fut.refl _) k (.lst ?_);rw[<-ztG (vs:=xs.map fun x=>(x.2,x.1)) (by rw[ybb];exact d) ok f j];refine zjs fun y b=>?_
   obtain⟨z,g,rfl⟩:=yar.mp (f.mem_iff.mp b);exact .tup (h4 z g).1 (h4 z g).2 (.cons (.int _) (.cons (.int _) .nil))
noncomputable def zrT(i j:Nat):Fs:=fun ρ S=>match ρ[j]? with
 |some (some (true,.lst l))=>(match l.getLast? with|some d=>.nx ((ρ.set j (some (true,.lst l.dropLast))).set i (~~~d)) S|none=>.bad)
 |_=>.bad
theorem zfQ:∀{vs:List V}{ds:List D}{d:D},Shds cl w vs ds->ds.getLast?=some d->∃v,vs[vs.length-1]?=some v/\Shd cl w v d/\Shds cl w vs.dropLast ds.dropLast
 |_,_,_,.nil,h=>by cases h
 |_,_,_,.cons (v:=v) (d:=d0) r .nil,h=>by cases h;exact⟨v,rfl,r,.nil⟩
 |_,_,d,.cons (v:=v) (vs:=v2::vs) (ds:=d2::ds) r (.cons a t),h=>by
  rw[List.getLast?_cons_cons]at h;obtain⟨u,e,s1,s2⟩:=zfQ (.cons a t) h;refine⟨u,?_,s1,.cons r s2⟩;show(v::v2::vs)[vs.length+1]?=_;rw[ycG];exact e
def zsA(hN:X.N.Nodup)(hi:X.N[i]?=some x)(U:Loc X.env.scope x)(hf:X.fn x=true\/X.env.scope.names.lookup x=some .local)(hj:X.N[j]?=some y)(hv:Vis X.env.scope y)(hd:(y==("__debug__":Str))=false)(J:(y==("__classdict__":Str))=false)(I:(ap.endLine==cp.line)=true):
  PS X (.Assign [.Name x px] (.Call (.Attribute (.Name y pos') "pop" ap) [] [] cp) pos) (tS cl E own (zrT i j)):=by
 refine PS.imp (zjC hN hi U (zl3 ya7 ycV ycW zmg (zbg hj hv hd J) (aa:=I)) rfl hf) ?_;rintro h σ H ⟨B,w,ρ,S,rfl,R,q⟩;unfold zrT at q;split at q
 ·rename_i l g;obtain⟨a,xs,e,h1,h2,t⟩:=R.list g
  cases b:l.getLast? with
  |none=>rw[b]at q;exact q.elim|some d=>
   rw[b]at q;dsimp only at q;obtain⟨v,ev,f,st⟩:=zfQ t b;have c:Fut w (w.mut a (.lst xs.dropLast)):=zc9 (by rw[h1];exact yaC _);refine⟨_,e,.inl ⟨rfl,_,SqL.of h2⟩,a,xs,v,rfl,rfl,h2,ev,?_⟩;exact q _ _ ((R.mut (d0:=.non) e h1 (.lst st)).put (f.up c)) c
 ·exact q.elim
end
open PySem PySem.Spec PyProof.Rows L2
section
variable{cl:Cf}{w:Wd}{n:Nat}{B:Base}{σ:St}{ρ:Env}{S:Sto}
def Rel.newo(R:Rel cl B σ w ρ S)(hn:S[n]?=some ob)(J:w.mu[n]?=some a)(how:w.ow a=some (.obj n))(U:w.H a=some (.ins (cl ob.cls) dx fs))(hF:zds cl w n fs ob.fs)(I:w.H p=none)(ht:Top cl w o0 d0):
  Rel cl B σ ((w.addF p o0 n f).mut a (.ins (cl ob.cls) dx (zdy f (.ref p) fs))) ρ (S.set n (ob.put f true (.tup [d0])))/\Fut w ((w.addF p o0 n f).mut a (.ins (cl ob.cls) dx (zdy f (.ref p) fs))):=by
 have k:a≠p:=zar U I
 have kp:∀b u,w.H b=some u->w.ow b≠some (.obj n)->((w.addF p o0 n f).mut a (.ins (cl ob.cls) dx (zdy f (.ref p) fs))).H b=some u/\((w.addF p o0 n f).mut a (.ins (cl ob.cls) dx (zdy f (.ref p) fs))).ow b=w.ow b:=fun b u c d=>by
  have j:b≠p:=zar c I;refine⟨?_,?_⟩
  ·show upd (upd w.H p _) a _ b=_;rw[zam (fun z=>d (by rw[z];exact how)),zam j];exact c
  ·show(if b=p then _ else w.ow b)=_;rw[if_neg j]
 have l:Fut w ((w.addF p o0 n f).mut a (.ins (cl ob.cls) dx (zdy f (.ref p) fs))):=⟨fun b u c D=>by
  have:=kp b u c (by rw[D];exact fun z=>by cases z)
  exact⟨this.1,this.2.trans D⟩,fun _ _ h=>h⟩
 have G:B.Fr a=none:=(R.wd.own a _ how).elim (fun z=>by cases z) fun z=>z
 have A:B.Fr p=none:=by
  cases z:B.Fr p with
  |none=>rfl|some u=>have:=(R.wd.fr p u z).1;rw[I]at this;cases this
 have Hp:((w.addF p o0 n f).mut a (.ins (cl ob.cls) dx (zdy f (.ref p) fs))).H p=some o0:=by
  show upd (upd w.H p _) a _ p=_;rw[zam k.symm,zaC]
 have q:((w.addF p o0 n f).mut a (.ins (cl ob.cls) dx (zdy f (.ref p) fs))).ow p=some (.fld n f):=if_pos rfl
 have s:((w.addF p o0 n f).mut a (.ins (cl ob.cls) dx (zdy f (.ref p) fs))).ow a=some (.obj n):=by
  show(if a=p then _ else w.ow a)=_;rw[if_neg k];exact how
 refine⟨⟨⟨fun b u h=>?_,fun b r h=>?_,by rw[yaD];exact R.wd.len,fun m t h=>?_⟩,R.len,fun i o e h=>?_⟩,l⟩
 ·have:=kp b u (R.wd.fr b u h).1 fun z=>by
   rcases R.wd.own b _ z with y|y
   ·cases y
   ·rw[h]at y;cases y
  exact⟨this.1,this.2.trans (R.wd.fr b u h).2⟩
 ·have h':(if b=p then some (Root.fld n f)else w.ow b)=some r:=h;split at h'
  ·rename_i z;rw[z];exact .inr A
  ·exact R.wd.own b r h'
 ·rcases zgl h with⟨rfl,rfl⟩|⟨d,h⟩
  ·refine⟨a,J,s,dx,_,zaC,?_⟩;refine zds.put (hF.keepF l fun b u g c E=>?_) (.inr (.inr ⟨rfl,d0,rfl,p,o0,rfl,q,Hp,ht.up l⟩));have:=kp b u c (by rw[E];exact fun z=>by cases z);exact⟨this.1,this.2.trans E⟩
  ·obtain⟨b,e,x⟩:=R.wd.obj m t h;exact⟨b,e,x.keep l fun b u c hm=>kp b u c fun z=>by rw[z]at hm;exact d hm.symm⟩
 ·obtain⟨v,F,x⟩:=R.slots i o e h
  exact⟨v,F,x.keep l fun b u c C=>by
   have:=kp b u c (by rw[C];exact fun z=>by cases z)
   exact⟨this.1,this.2.trans C⟩⟩
def Rel.seto(R:Rel cl B σ w ρ S)(hn:S[n]?=some ob)(J:w.mu[n]?=some a)(how:w.ow a=some (.obj n))(hH:w.H a=some (.ins (cl ob.cls) dx fs))(hF:zds cl w n fs ob.fs)
  (U:fs.lookup f=some (.ref c)) (I:w.ow c=some (.fld n f)) (ht:Top cl w o0 d0) (nd:zdZ ob=true):
  Rel cl B σ (w.mut c o0) ρ (S.set n (ob.put f true (.tup [d0])))/\Fut w (w.mut c o0):=by
 have l:=zc9 (w:=w) (p:=c) (o:=o0) (by rw[I];exact yaC _)
 have kp:∀b o,w.H b=some o->w.ow b≠some (.fld n f)->(w.mut c o0).H b=some o/\(w.mut c o0).ow b=w.ow b:=fun b o j d=>⟨by
  show upd w.H c _ b=_
  rw[zam (fun z=>d (by rw[z];exact I))];exact j,rfl⟩
 have t:B.Fr c=none:=(R.wd.own c _ I).elim (fun z=>by cases z) fun z=>z
 refine⟨⟨⟨fun b o h=>?_,R.wd.own,by rw[yaD];exact R.wd.len,fun r m h=>?_⟩,R.len,fun i o e h=>?_⟩,l⟩
 ·refine⟨?_,(R.wd.fr b o h).2⟩;show upd w.H c _ b=_;rw[zam (fun z=>by rw[z,t]at h;cases h)];exact(R.wd.fr b o h).1
 ·rcases zgl h with⟨rfl,rfl⟩|⟨d,h⟩
  ·refine⟨a,J,how,dx,fs,?_,?_⟩
   ·exact(kp a _ hH (by rw[how];exact fun z=>by cases z)).1
   ·refine zds.dic (a:=c) l (fun b o g s j k=>?_) (.inr (.inr ⟨rfl,d0,rfl,c,o0,rfl,I,zaC,ht.up l⟩)) hF (yah nd) U
    ·exact⟨(kp b o j (by rw[k];exact fun z=>s (by cases z;rfl))).1,k⟩
  ·obtain⟨b,e,x⟩:=R.wd.obj r m h;exact⟨b,e,x.keep l fun b o j hm=>kp b o j fun z=>by rw[z]at hm;exact d hm.symm⟩
 ·obtain⟨q,u,x⟩:=R.slots i o e h;exact⟨q,u,x.keep l fun b o j k=>⟨(kp b o j (by rw[k];exact fun z=>by cases z)).1,k⟩⟩
end
noncomputable def zqT(cn f:Str)(d:D)(S:Sto):Option (Nat×Ob×D):=match d with
 |.ref n=>(match S[n]? with
  |some ob=>if ob.cls=cn then(match ob.fs.lookup f with|some (true,.tup [d])=>some (n,ob,d)|_=>none)else none
  |none=>none)
 |_=>none
section
variable{cl:Cf}{cn:Str}{X:Cx}{E:St->XK}{e:Expr}{fe:Fe}{f:Str}{pos:Pos}{B:Base}{σ:St}{w:Wd}{ρ:Env}{S:Sto}
def zuY(I:zhG cl cn f)(R:Rel cl B σ w ρ S)(J:Shd cl w v d)(hd:zqT cn f d S=some (n,ob,d0)):
  ∃a dx fs c o,v=.ref a/\S[n]?=some ob/\w.mu[n]?=some a/\w.ow a=some (.obj n)/\w.H a=some (.ins (cl ob.cls) dx fs)/\zds cl w n fs ob.fs/\Cls cl.K (cl ob.cls)/\zdR cl.K (cl ob.cls) f/\fs.lookup f=some (.ref c)/\w.ow c=some (.fld n f)/\w.H c=some o/\Top cl w o d0:=by
 unfold zqT at hd
 cases d with
 |ref j=>
  dsimp only at hd
  cases e:S[j]? with
  |none=>rw[e]at hd;cases hd|some i=>
   rw[e]at hd;dsimp only at hd;split at hd
   ·rename_i b;split at hd
    ·rename_i m k;cases hd;obtain⟨a,dx,fs,rfl,g,how,l,h⟩:=zgx R J e;obtain⟨v,lv,fr⟩:=h.look k
     rcases fr with⟨z,_⟩|⟨_,_,_,_,_,_,_,_,_,_,z⟩|⟨_,d1,z,c,o,rfl,c1,q,p⟩
     ·cases z
     ·cases z
     ·cases z;exact⟨a,dx,fs,c,o,rfl,e,g,how,l,h,b ▸ I.1,b ▸ I.2,lv,c1,q,p⟩
    ·cases hd
   ·cases hd
 |_=>cases hd
end
noncomputable abbrev Fq:=Env->Sto->Option D
noncomputable def tQ(cl:Cf)(g:Fq):TE:=fun σ H Q=>∃B w ρ S d,w.H=H/\Rel cl B σ w ρ S/\g ρ S=some d/\∀v,Shd cl w v d->Q v H
noncomputable def znN(i:Nat):Fq:=fun ρ _=>match ρ[i]? with|some (~~~d)=>some d|_=>none
def znO(cn f:Str)(g:Fq):Fq:=fun ρ S=>(g ρ S).bind fun d=>zhr cn f d S
section
variable{X:Cx}{cl:Cf}{e o:Expr}{es:List Expr}{g:Fq}{gs:List Fq}{pos:Pos}{f cn:Str}
def zta(U:X.N[i]?=some x)(J:Vis X.env.scope x)(hd:(x==("__debug__":Str))=false)(I:(x==("__classdict__":Str))=false):PE X (.Name x pos) (tQ cl (znN i)):=by
 refine PE.imp (zbg U J hd I) ?_;rintro σ H Q ⟨B,w,ρ,S,d,rfl,R,a,q⟩;unfold znN at a;split at a
 ·rename_i d' hi;cases a;obtain⟨v,ev,b⟩:=R.slots i false _ hi;exact⟨v,ev,q v b⟩
 ·cases a
def ztb(I:zhG cl cn f)(kk:X.K=cl.K)(he:PE X e (tQ cl g))(J:attributeBase e f X.env (eval e X.env)=eval e X.env):PE X (.Attribute e f pos) (tQ cl (znO cn f g)):=by
 refine PE.imp (zeZ he J) ?_;rintro σ H Q ⟨B,w,ρ,S,d,rfl,R,b,q⟩;unfold znO at b
 cases h1:g ρ S with
 |none=>rw[h1]at b;cases b|some d1=>
  rw[h1]at b;refine⟨B,w,ρ,S,d1,rfl,R,h1,fun v c=>?_⟩;obtain⟨a,C,dx,fs,y,rfl,k,j,i,h,e5⟩:=zpK I R c b;rw[kk];exact⟨a,C,dx,fs,y,rfl,k,j,i,h,q y e5⟩
end
noncomputable def zoi(cn f:Str)(ρ:Env)(S:Sto)(i:Nat):Option (Nat×Ob×D):=match ρ[i]? with|some (~~~d)=>zqT cn f d S|_=>none
def zhX(cn f:Str)(i:Nat):Fs:=fun ρ S=>match ρ[i]? with
 |some (~~~.ref n)=>(match S[n]? with
   |some ob=>if decide (ob.cls=cn)&&decide (ob.fs.length<1000)then .nx ρ (S.set n (ob.put f true (.tup [.lst []])))else .bad
   |none=>.bad)
 |_=>.bad
def zgB(cn f:Str)(i:Nat)(g:Fq):Fs:=fun ρ S=>match zoi cn f ρ S i,g ρ S with
 |some (n,ob,.lst l),some d=>if small l.length&&zdZ ob then .nx ρ (S.set n (ob.put f true (.tup [.lst (l++[d])])))else .bad
 |_,_=>.bad
def zhu(cn f:Str)(i:Nat):Fe:=fun ρ S=>match zoi cn f ρ S i with
 |some (n,ob,.lst l)=>(match l[l.length-1]? with|some d=>if zdZ ob then .ok d (S.set n (ob.put f true (.tup [.lst l.dropLast])))else .bad|none=>.bad)
 |_=>.bad
def zgv(cn f:Str)(i:Nat):Fe:=fun ρ S=>match zoi cn f ρ S i with
 |some (_,_,.lst l)=>.ok (.int l.length) S|_=>.bad
section
variable{X:Cx}{cl:Cf}{E:St->XK}{own:Bool}{e:Expr}{es:List Expr}{g:Fq}{gs:List Fq}{pos pos' apos ap cp p p2:Pos}{f cn:Str}{i:Nat}{x:Str}
def ziV(I:zhG cl cn f)(R:Rel cl B σ w ρ S)(h:zoi cn f ρ S i=some (n,ob,d0)):
  ∃a dx fs c o,σ[i]?=some (some (.ref a))/\S[n]?=some ob/\w.mu[n]?=some a/\w.ow a=some (.obj n)/\w.H a=some (.ins (cl ob.cls) dx fs)/\zds cl w n fs ob.fs/\Cls cl.K (cl ob.cls)/\zdR cl.K (cl ob.cls) f/\fs.lookup f=some (.ref c)/\w.ow c=some (.fld n f)/\w.H c=some o/\Top cl w o d0:=by
 unfold zoi at h;split at h
 ·rename_i d hi;obtain⟨v,ev,b⟩:=R.slots i false _ hi;obtain⟨a,dx,fs,c,o,rfl,h1⟩:=zuY I R b h;exact⟨a,dx,fs,c,o,ev,h1⟩
 ·cases h
def zqb(hN:X.N[i]?=some x)(hv:Vis X.env.scope x)(hd:(x==("__debug__":Str))=false)(I:(x==("__classdict__":Str))=false)(U:Same' cl X)(J:zhG cl cn f)(hs:swapsWith (.List [] p) (some (.Attribute (.Name x p2) f apos)) pos.line X.env=pure false):PS X (.Assign [.Attribute (.Name x p2) f apos] (.List [] p) pos) (tS cl E own (zhX cn f i)):=by
 refine PS.imp (zlL (zbg hN hv hd I) (zpp zdp) hs) ?_;rintro l σ H ⟨B,w,ρ,S,rfl,R,q⟩;refine⟨by decide,fun pd c=>?_⟩;unfold zhX at q;split at q
 ·rename_i n hi;obtain⟨v,ev,j⟩:=R.slots i false _ hi
  cases d:S[n]? with
  |none=>rw[d]at q;exact q.elim|some ob=>
   rw[d]at q;dsimp only at q;split at q
   ·rename_i b;rw[yac]at b;obtain⟨a,dx,fs,rfl,e,how,g,h⟩:=zgx R j d;rw[U.kk];refine⟨_,ev,a,_,dx,fs,rfl,?_,yah b.1 ▸ J.1,yah b.1 ▸ J.2,by rw[h.len];exact yah b.2,?_⟩
    ·rw[zam (zar g c)];exact g
    ·obtain⟨k,F3⟩:=R.newo (f:=f) d e how g h c (.lst .nil);exact q σ _ k F3
   ·exact q.elim
 ·exact q.elim
def zqf(hN:X.N[i]?=some x)(hv:Vis X.env.scope x)(hd:(x==("__debug__":Str))=false)(J:(x==("__classdict__":Str))=false)(U:Same' cl X)(hk:zhG cl cn f)(hb:attributeBase (.Name x p) f X.env (eval (.Name x p) X.env)=eval (.Name x p) X.env)(he:PE X e (tQ cl g))(ag:attributeBase (.Attribute (.Name x p) f apos) "append" X.env (eval (.Attribute (.Name x p) f apos) X.env)=eval (.Attribute (.Name x p) f apos) X.env)
  (ae:zbV e=true) (I:(ap.endLine==cp.line)=true):PS X (.Expr (.Call (.Attribute (.Attribute (.Name x p) f apos) "append" ap) [e] [] cp) pos) (tS cl E own (zgB cn f i g)):=by
 refine PS.imp (zf4 (zl4 (es:=[]) ya7 yct ycu zgb (zeZ (zbg hN hv hd J) hb) (zbH he zdp (zbi ae)) (ag:=ag) (hfew:=zil (by simp[ae]) (by simp)) (aa:=I) (hs:=zbi ae) (ah:=rfl))) ?_;rintro C σ H ⟨B,w,ρ,S,rfl,R,q⟩;unfold zgB at q;split at q
 ·rename_i n ob l d r s;obtain⟨a,dx,fs,c,o,ev,u,h,how,k,y,c1,z,lv,m,j,t⟩:=ziV hk R r;split at q
  ·rename_i b;rw[yac]at b
   cases t with
   |lst t=>
    rw[U.kk];refine⟨_,ev,a,_,dx,fs,_,rfl,k,c1,z,lv,.inl ⟨rfl,_,SqL.of j⟩,B,w,ρ,S,d,rfl,R,s,fun v h'=>?_⟩;refine⟨c,_,v,rfl,rfl,j,by rw[t.length];exact zg8 b.1,?_⟩;obtain⟨A,F3⟩:=R.seto u h how k y lv m (.lst (t.append (.cons h' .nil))) b.2;exact q σ _ A F3
  ·exact q.elim
 ·exact q.elim
def zqo(hN:X.N[i]?=some x)(hv:Vis X.env.scope x)(hd:(x==("__debug__":Str))=false)(J:(x==("__classdict__":Str))=false)(U:Same' cl X)(hk:zhG cl cn f)(hb:attributeBase (.Name x p) f X.env (eval (.Name x p) X.env)=eval (.Name x p) X.env)(ag:attributeBase (.Attribute (.Name x p) f apos) "pop" X.env (eval (.Attribute (.Name x p) f apos) X.env)=eval (.Attribute (.Name x p) f apos) X.env)
  (I:(ap.endLine==cp.line)=true):PE X (.Call (.Attribute (.Attribute (.Name x p) f apos) "pop" ap) [] [] cp) (tE cl E (zhu cn f i)):=by
 refine PE.imp (zl3 ya7 ycV ycW zmg (zeZ (zbg hN hv hd J) hb) (ag:=ag) (aa:=I)) ?_;rintro σ H Q ⟨B,w,ρ,S,rfl,R,q⟩;unfold zhu at q
 cases h:zoi cn f ρ S i with
 |none=>rw[h]at q;exact q.elim|some u=>
  obtain⟨n,ob,d0⟩:=u;rw[h]at q
  cases d0 with
  |lst l=>
   dsimp only at q;obtain⟨a,dx,fs,c,o,ev,z,g,how,r,A,c1,C,lv,y,m,t⟩:=ziV hk R h
   cases e:l[l.length-1]? with
   |none=>rw[e]at q;exact q.elim|some d=>
    rw[e]at q;dsimp only at q
    cases b:zdZ ob with
    |false=>rw[b,if_neg (by decide)]at q;exact q.elim
    |true=>
     rw[b,if_pos rfl]at q
     cases t with
     | @lst xs _ t=>
      obtain⟨v,k,s⟩:=t.at e;rw[U.kk]
      have j:Shds cl w xs.dropLast l.dropLast:=by
       rw[ycX,ycX,t.length];exact t.take _
      refine⟨_,ev,a,_,dx,fs,_,rfl,r,c1,C,lv,.inl ⟨rfl,_,SqL.of m⟩,c,xs,v,rfl,rfl,m,by rw[t.length];exact k,?_⟩;obtain⟨D,F3⟩:=R.seto z g how r A lv y (.lst j) b;exact q v _ D F3 (s.up F3)
  |_=>exact q.elim
def zqq{U:Pos}{y:Str}(hN:X.N[i]?=some x)(hv:Vis X.env.scope x)(hd:(x==("__debug__":Str))=false)(I:(x==("__classdict__":Str))=false)(J:Same' cl X)(hk:zhG cl cn f)(hb:attributeBase (.Name x p) f X.env (eval (.Name x p) X.env)=eval (.Name x p) X.env)(hg:Gl X "len")(hm:X.mg "len"=none):
  PE X (.Call (.Name "len" U) [.Attribute (.Name x p) f apos] [] cp) (tE cl E (zgv cn f i)):=by
 refine PE.imp (zed zc6 hg hm PySem.boot_len (zbH (zeZ (zbg hN hv hd I) hb) zdp)) ?_;rintro σ H Q ⟨B,w,ρ,S,rfl,R,q⟩;unfold zgv at q
 cases b:zoi cn f ρ S i with
 |none=>rw[b]at q;exact q.elim|some u=>
  obtain⟨n,ob,d0⟩:=u;rw[b]at q
  cases d0 with
  |lst l=>
   dsimp only at q;obtain⟨a,dx,fs,c,o,ev,k,d,how,g,m,c1,h,lv,j,e,t⟩:=ziV hk R b
   cases t with
   |lst t=>
    rw[J.kk];refine⟨_,ev,a,_,dx,fs,_,rfl,g,c1,h,lv,c,_,rfl,.inl (SqL.of e),?_⟩;rw[t.length];exact q _ w R (Fut.refl _) (.int _)
  |_=>exact q.elim
end
noncomputable def Base.hold(B:Base)(p:Addr)(o:HO):Base:=⟨fun a=>if a=p then some o else B.Fr a,fun a=>if a=p then some .far else B.fw a⟩
section
variable{cl:Cf}{B:Base}{σ:St}{w:Wd}{ρ:Env}{S:Sto}
theorem Rel.hold(R:Rel cl B σ w ρ S)(I:w.H p=none):Rel cl (B.hold p o) σ (w.addAs p o .far) ρ S:=by
 have d:=zcG (w:=w) (p:=p) (o:=o) (r:=.far) I
 have kp:∀a u,w.H a=some u->(w.addAs p o .far).H a=some u/\(w.addAs p o .far).ow a=w.ow a:=fun a u c=>by
  have n:a≠p:=zar c I;refine⟨?_,?_⟩
  ·show upd w.H p o a=_;rw[zam n];exact c
  ·show(if a=p then _ else if w.ow a=some Root.far then some Root.far else w.ow a)=_;rw[if_neg n];split
   ·rename_i e;exact e.symm
   ·rfl
 refine⟨⟨fun a u h=>?_,fun a r h=>?_,R.wd.len,fun n ob h=>?_⟩,R.len,fun j b e g=>?_⟩
 ·by_cases c:a=p
  ·subst c;have h':(if a=a then some o else B.Fr a)=some u:=h;rw[if_pos rfl]at h';cases h';exact⟨zaC,by show(if a=a then some Root.far else _)=(if a=a then some Root.far else _);rw[if_pos rfl,if_pos rfl]⟩
  ·have h':(if a=p then some o else B.Fr a)=some u:=h;rw[if_neg c]at h';have:=kp a u (R.wd.fr a u h').1;refine⟨this.1,this.2.trans ?_⟩;show _=(if a=p then some Root.far else B.fw a);rw[if_neg c];exact(R.wd.fr a u h').2
 ·by_cases c:a=p
  ·have h':(if a=p then some Root.far else if w.ow a=some Root.far then some Root.far else w.ow a)=some r:=h;rw[if_pos c]at h';cases h';exact .inl rfl
  ·have h':(if a=p then some Root.far else if w.ow a=some Root.far then some Root.far else w.ow a)=some r:=h;rw[if_neg c]at h';split at h'
   ·cases h';exact .inl rfl
   ·rcases R.wd.own a r h' with z|z
    ·exact .inl z
    ·refine .inr ?_;show(if a=p then some o else B.Fr a)=none;rw[if_neg c];exact z
 ·obtain⟨a,e,x⟩:=R.wd.obj n ob h;exact⟨a,e,x.keep d fun b u i _=>kp b u i⟩
 ·obtain⟨v,k,x⟩:=R.slots j b e g;exact⟨v,k,x.keep d fun a u c f=>⟨(kp a u c).1,(kp a u c).2.trans f⟩⟩
def Rel.unhold(R:Rel cl (B.hold p o) σ w ρ S)(I:B.Fr p=none):Rel cl B σ w ρ S:=by
 refine⟨⟨fun a u h=>?_,fun a r h=>?_,R.wd.len,R.wd.obj⟩,R.len,R.slots⟩
 ·have c:a≠p:=fun z=>by rw[z,I]at h;cases h
  have h2:=R.wd.fr a u (show(if a=p then some o else B.Fr a)=some u by rw[if_neg c];exact h);exact⟨h2.1,h2.2.trans (show(if a=p then some Root.far else B.fw a)=_ from if_neg c)⟩
 ·rcases R.wd.own a r h with z|z
  ·exact .inl z
  ·have b:(if a=p then some o else B.Fr a)=none:=z;split at b
   ·cases b
   ·exact .inr b
end
noncomputable def Wd.claim(w:Wd)(p:Addr)(r:Root):Wd:=⟨w.H,fun a=>if a=p then some r else if w.ow a=some r then some .far else w.ow a,w.mu⟩
section
variable{cl:Cf}{B:Base}{σ:St}{w:Wd}{ρ:Env}{S:Sto}
def zgm(h:w.ow p≠none):Fut w (w.claim p r)where
 keep:=fun a u c b=>by
  have n:a≠p:=fun z=>h (by rw[<-z];exact b)
  refine⟨c,?_⟩;show(if a=p then some r else if w.ow a=some r then some Root.far else w.ow a)=none;rw[if_neg n,if_neg (by rw[b];exact fun z=>by cases z)];exact b
 mu:=fun _ _ h=>h
theorem Rel.claim(R:Rel cl (B.hold p o) σ w ρ S)(I:B.Fr p=none)(t:Top cl w o d):Rel cl B (σ.set i (some (.ref p))) (w.claim p (.slot i)) (ρ.set i (some (true,d))) S:=by
 have F:=R.wd.fr p o (show(if p=p then some o else B.Fr p)=some o from if_pos rfl);have c:w.ow p=some .far:=F.2.trans (show(if p=p then some Root.far else B.fw p)=_ from if_pos rfl);have C:=zgm (w:=w) (p:=p) (r:=.slot i) (by rw[c];exact yaC _)
 have kp:∀a u,w.H a=some u->w.ow a≠some .far->w.ow a≠some (.slot i)->(w.claim p (.slot i)).H a=some u/\(w.claim p (.slot i)).ow a=w.ow a:=fun a u A J s=>by
  have n:a≠p:=fun z=>J (by rw[z];exact c)
  refine⟨A,?_⟩;show(if a=p then _ else if w.ow a=some (Root.slot i)then some Root.far else w.ow a)=_;rw[if_neg n,if_neg s]
 refine⟨⟨fun a u h=>?_,fun a r h=>?_,R.wd.len,fun n ob h=>?_⟩,by rw[yaD,yaD];exact R.len,fun j b e l=>?_⟩
 ·have g:a≠p:=fun z=>by rw[z,I]at h;cases h
  have h2:=R.wd.fr a u (show(if a=p then some o else B.Fr a)=some u by rw[if_neg g];exact h);have L:w.ow a=B.fw a:=h2.2.trans (show(if a=p then some Root.far else B.fw a)=_ from if_neg g)
  have q:w.ow a≠some (.slot i):=fun z=>by
   rcases R.wd.own a _ z with y|y
   ·cases y
   ·have E:(if a=p then some o else B.Fr a)=none:=y;rw[if_neg g,h]at E;cases E
  refine⟨h2.1,?_⟩;show(if a=p then some (Root.slot i)else if w.ow a=some (Root.slot i)then some Root.far else w.ow a)=_;rw[if_neg g,if_neg q];exact L
 ·have h':(if a=p then some (Root.slot i)else if w.ow a=some (Root.slot i)then some Root.far else w.ow a)=some r:=h;split at h'
  ·rename_i e;rw[e];exact .inr I
  ·rename_i g;split at h'
   ·cases h';exact .inl rfl
   ·rcases R.wd.own a r h' with z|z
    ·exact .inl z
    ·have D:(if a=p then some o else B.Fr a)=none:=z;rw[if_neg g]at D;exact .inr D
 ·obtain⟨a,e,x⟩:=R.wd.obj n ob h;exact⟨a,e,x.keep C fun b u K G=>kp b u K (fun z=>by rwa[z]at G) (fun z=>by rwa[z]at G)⟩
 ·by_cases f:i=j
  ·subst f
   have k:i<ρ.length:=by
    have:=(yaj.mp l).1;rwa[yaD]at this
   rw[yaw k]at l;cases l;exact⟨.ref p,by rw[yaw (by rw[R.len];exact k)],p,o,rfl,if_pos rfl,F.1,t.up C⟩
  ·rw[yaJ f]at l ⊢;obtain⟨v,M,x⟩:=R.slots j b e l;refine⟨v,M,x.keep C fun a u A m=>?_⟩;have:=kp a u A (by rw[m];exact fun z=>by cases z) (by rw[m];exact fun z=>f (by cases z;rfl));exact⟨this.1,this.2.trans m⟩
end
noncomputable def tO(cl:Cf)(E:St->XK):Bool->Fe->TE|true,f=>tN cl E f|false,f=>tE cl E f
noncomputable def zs5(i j:Nat)(J:Bool)(f1:Fe)(I:Bool)(f2:Fe):Fs:=fun ρ S=>match f1 ρ S with
 |.ok d1 S1=>(match f2 ρ S1 with
  |.ok d2 S2=>.nx ((ρ.set i (some (J,d1))).set j (some (I,d2))) S2|.exc c S'=>.ex c ρ S'|.bad=>.bad)
 |.exc c S'=>.ex c ρ S'|.bad=>.bad
section
variable{X:Cx}{cl:Cf}{E:St->XK}{own:Bool}
def zof(q:tS cl E own (zs5 i j J f1 I f2) U σ H):zxv i j (zp3 (tO cl E J f1) (zp3 (tO cl E I f2) zvc)) U σ H:=by
 obtain⟨B,w,ρ,S,rfl,R,q⟩:=q;unfold zs5 at q
 cases J with
 |false=>
  refine⟨B,w,ρ,S,rfl,R,?_⟩
  cases h1:f1 ρ S with
  |bad=>rwa[h1]at q|exc c S1=>rw[h1]at q;exact fun w' d e=>q σ w' d e|ok d1 S1=>
   rw[h1]at q;dsimp only at q;intro v g h F1 sh1
   cases I with
   |false=>
    refine⟨B,g,ρ,S1,rfl,h,?_⟩
    cases h2:f2 ρ S1 with
    |bad=>rwa[h2]at q|exc c S2=>rw[h2]at q;exact fun w' d e=>q σ w' d (F1.trans e)|ok d2 S2=>
     rw[h2]at q;intro v2 a R2 F2 sh2;exact⟨v,v2,rfl,q _ a ((R2.put (sh1.up F2)).put sh2) (F1.trans F2)⟩
   |true=>
    refine⟨B,g,ρ,S1,rfl,h,?_⟩
    cases h2:f2 ρ S1 with
    |bad=>rwa[h2]at q|exc c S2=>rw[h2]at q;exact fun w' d e=>q σ w' d (F1.trans e)|ok d2 S2=>
     rw[h2]at q;intro p2 l a R2 F2 hp2 m;exact⟨v,.ref p2,rfl,q _ (a.addAs p2 l (.slot j)) ((R2.put (sh1.up F2)).own hp2 m) (F1.trans (F2.trans (zcG hp2)))⟩
 |true=>
  refine⟨B,w,ρ,S,rfl,R,?_⟩
  cases h1:f1 ρ S with
  |bad=>rwa[h1]at q|exc c S1=>rw[h1]at q;exact fun w' d e=>q σ w' d e|ok d1 S1=>
   rw[h1]at q;dsimp only at q;intro p u g h F1 n t1;have s:=h.hold (o:=u) n;have fa:=zcG (w:=g) (p:=p) (o:=u) (r:=.far) n
   have k:B.Fr p=none:=by
    cases z:B.Fr p with
    |none=>rfl|some x=>have:=(h.wd.fr p x z).1;rw[n]at this;cases this
   cases I with
   |false=>
    refine⟨B.hold p u,g.addAs p u .far,ρ,S1,rfl,s,?_⟩
    cases h2:f2 ρ S1 with
    |bad=>rwa[h2]at q|exc c S2=>rw[h2]at q;exact fun w' d e=>q σ w' (d.unhold k) (F1.trans (fa.trans e))|ok d2 S2=>
     rw[h2]at q;intro v2 a R2 F2 sh2;have f:=R2.wd.fr p u (show(if p=p then some u else B.Fr p)=some u from if_pos rfl)
     have b:a.ow p≠none:=by rw[f.2,show(B.hold p u).fw p=some Root.far from if_pos rfl];exact yaC _
     have fc:=zgm (w:=a) (p:=p) (r:=.slot i) b;exact⟨.ref p,v2,rfl,q _ (a.claim p (.slot i)) ((R2.claim k (t1.up (fa.trans F2))).put (sh2.up fc)) (F1.trans (fa.trans (F2.trans fc)))⟩
   |true=>
    refine⟨B.hold p u,g.addAs p u .far,ρ,S1,rfl,s,?_⟩
    cases h2:f2 ρ S1 with
    |bad=>rwa[h2]at q|exc c S2=>rw[h2]at q;exact fun w' d e=>q σ w' (d.unhold k) (F1.trans (fa.trans e))|ok d2 S2=>
     rw[h2]at q;intro p2 l a R2 F2 hp2 m;have f:=R2.wd.fr p u (show(if p=p then some u else B.Fr p)=some u from if_pos rfl)
     have b:a.ow p≠none:=by rw[f.2,show(B.hold p u).fw p=some Root.far from if_pos rfl];exact yaC _
     have fc:=zgm (w:=a) (p:=p) (r:=.slot i) b;exact⟨.ref p,.ref p2,rfl,q _ ((a.claim p (.slot i)).addAs p2 l (.slot j)) ((R2.claim k (t1.up (fa.trans F2))).own (w:=a.claim p (.slot i)) hp2 (m.up fc)) (F1.trans (fa.trans (F2.trans (fc.trans (zcG (w:=a.claim p (.slot i)) hp2)))))⟩
end
noncomputable def ziZ(ρ:Env)(i:Nat):Option (List D):=match ρ[i]? with|some (some (true,.lst l))=>some l|_=>none
def zjO{ρ:Env}{i:Nat}{l:List D}(h:ziZ ρ i=some l):ρ[i]?=some (some (true,.lst l)):=by
 unfold ziZ at h;split at h
 ·rename_i e;rw[e,Option.some.inj h]
 ·cases h
def zgR(i j:Nat)(ρ:Env):Option (List D×List D):=if i=j then none else(ziZ ρ i).bind fun l=>(ziZ ρ j).map fun m=>(l,m)
def zmo(h:zgR i j ρ=some p):ρ[i]?=some (some (true,.lst p.1))/\ρ[j]?=some (some (true,.lst p.2))/\i≠j:=by
 unfold zgR at h;split at h
 ·cases h
 ·rename_i b
  cases hi:ziZ ρ i with
  |none=>rw[hi]at h;cases h|some l=>
   cases a:ziZ ρ j with
   |none=>rw[hi,a]at h;cases h|some m=>rw[hi,a]at h;cases h;exact⟨zjO hi,zjO a,b⟩
def ziK(i j:Nat):Fs:=fun ρ S=>match zgR i j ρ with
 |some p=>(match(if small p.1.length then p.2.getLast? else none)with
  |some y=>.nx ((ρ.set j (some (true,.lst p.2.dropLast))).set i (some (true,.lst (p.1++[y])))) S|none=>.bad)
 |none=>.bad
section
variable{X:Cx}{cl:Cf}{E:St->XK}{own:Bool}{pos px py:Pos}{i j:Nat}{x y:Str}{ap cp ap2 cp2:Pos}{w:Wd}
def zqe(hN:X.N[i]?=some x)(hv:Vis X.env.scope x)(hd:(x==("__debug__":Str))=false)(a5:(x==("__classdict__":Str))=false)(a6:X.N[j]?=some y)(U:Vis X.env.scope y)(a4:(y==("__debug__":Str))=false)(J:(y==("__classdict__":Str))=false)
  (a3:(ap.endLine==cp.line)=true) (I:(ap2.endLine==cp2.line)=true):PS X (.Expr (.Call (.Attribute (.Name x px) "append" ap) [.Call (.Attribute (.Name y py) "pop" ap2) [] [] cp2] [] cp) pos) (tS cl E own (ziK i j)):=by
 have n:=zl3 (apos:=ap2) (cpos:=cp2) ya7 ycV ycW zmg (zbg (pos:=py) a6 U a4 J) (aa:=I);refine PS.imp (zf4 (zl4 (es:=[]) ya7 yct ycu zgb (zbg hN hv hd a5) (zbH n zdp rfl) (hfew:=zil rfl (by simp)) (aa:=a3) (hs:=rfl) (ah:=rfl)) rfl) ?_;rintro M σ H ⟨B,w,ρ,S,rfl,R,q⟩;unfold ziK at q
 cases c:zgR i j ρ with
 |none=>rw[c]at q;exact q.elim|some p=>
  obtain⟨l,m⟩:=p;rw[c]at q;obtain⟨hi,A,o⟩:=zmo c;dsimp only at hi A q
  cases f:(if small l.length then m.getLast? else none)with
  |none=>rw[f]at q;exact q.elim|some d=>
   rw[f]at q;dsimp only at q;split at f
   ·rename_i L;obtain⟨a,xs,u,h1,h2,t⟩:=R.list hi;obtain⟨b,ys,F,g1,g2,G⟩:=R.list A;obtain⟨v,ev,K,st⟩:=zfQ G f;have C:Fut w (w.mut b (.lst ys.dropLast)):=zc9 (by rw[g1];exact yaC _);have R2:=R.mut (d0:=.non) F g1 (.lst st)
    have r:(ρ.set j (some (true,D.lst m.dropLast)))[i]?=some (some (true,.lst l)):=by rw[yaJ (fun z=>o z.symm)];exact hi
    obtain⟨a2,k,h,g,s,e⟩:=R2.list r;rw[u]at h;cases h;refine⟨_,u,.inl ⟨rfl,_,SqL.of h2⟩,_,F,.inl ⟨rfl,_,SqL.of g2⟩,b,ys,v,rfl,rfl,g2,ev,a,k,_,rfl,rfl,s,by rw[e.length];exact zg8 L,?_⟩;exact q σ _ (R2.mut (d0:=.non) u g (.lst (e.append (.cons (K.up C) .nil)))) (C.trans (zc9 (by rw[g];exact yaC _)))
   ·cases f
end
structure FnI where
 ar:Nat
 own:Bool
 run:List D->Sto->Out D
structure ObE where
 cur:Str
 fk:Str->Str->Bool
 df:Str->Bool
 mt:Str->Option (Str×FnI)
 mks:Str->Option (List D×FnI)
noncomputable def zub(f:Str):Bool:=decide (f="before")||decide (f="after")
structure Genv where
 con:Str->Option D
 fn:Str->Option FnI
 blt:Str->Bool
 exc:Str->Bool
 und:Str->Str->Bool
 isx:Str->Str->Option Bool
 ob:ObE
 ds:Str->Bool
abbrev bmV:List Value:=[.type "ValueError",.type "Exception",.type "BaseException",.type "object"]
structure GOk(cl:Cf)(G:Genv)(P:Program)(wo:PySem.World)(K:PySem.W.Frag)(mg:Z6)(base:Heap)(k:Nat):Prop where
 con:∀x d,G.con x=some d->∃v u,mg x=some u/\zbD v u/\∀w,Shd cl w v d
 fn:∀x fi,G.fn x=some fi->∃f fd ps,mg x=some (.ref f)/\PySem.W.keepIn K (.ref f)=true/\zcW K fd ps []/\FnOk P wo K mg base (CXE P wo) k f fd ps (zhI cl fi.ar fi.own fi.run)
 blt:∀x,G.blt x=true->mg x=none
 exc:∀c,G.exc c=true->mg c=some (.ref (cl c))/\PySem.W.excIn K (cl c) bmV "ValueError.__new__"=true
 und:∀c C,G.und c C=true->L2.zo9 K (cl c) (cl C)
 isx:∀c C b,G.isx c C=some b->PySem.W.ExcCls K (cl c)/\PySem.W.kitOne K (.ref (cl c)) (zuN cl C)=some b
 fk:∀c f,G.ob.fk c f=true->zhG cl c f
 mt:∀m c fi,G.ob.mt m=some (c,fi)->∃f fd ps,Cls K (cl c)/\Meth K (cl c) m f/\zcW K fd ps []/\FnOk P wo K mg base (CXE P wo) k f fd ps (zhI cl fi.ar fi.own fi.run)
 mks:∀c dds fi,G.ob.mks c=some (dds,fi)->∃f fd ps dvs ds k',k'+1<=k/\mg c=some (.ref (cl c))/\Mk K (cl c) f/\zcW K fd ps []/\zcW K fd ps ds/\Vals dvs ds/\(∀w,Shds cl w dvs dds)/\FnOk P wo K mg base (CXE P wo) k' f fd ps (zhI cl fi.ar false fi.run)
noncomputable abbrev Names:=List (Str×NameKind)
structure Gx(cl:Cf)(G:Genv)(k:Nat)(X:Cx)(nm:Names)(N:List Str)(E:St->XK):Prop where
 gok:GOk cl G X.prog X.w X.K X.mg X.base k
 room:Room k X.A
 calm:X.calm=true
 pass:zeb (CXE X.prog X.w) X E
 eN:X.N=N
 kk:X.K=cl.K
 pp:X.prog=cl.P
 ww:X.w=cl.wo
 nd:N.Nodup
 vis:∀x kd,nm.lookup x=some kd->∃kd',X.env.scope.names.lookup x=some kd'/\(kd'=kd\/(kd=.free/\kd'=.cell))
 fnx:∀x,nm.lookup x=some .local->X.env.scope.names.lookup x=some .local
 fnc:∀x,nm.lookup x=some .cell->X.fn x=true
noncomputable def idx:List Str->Str->Option Nat
 |[],_=>none|y::l,x=>if y=x then some 0 else(idx l x).map (·+1)
theorem zgk:∀{N:List Str}{x:Str}{i:Nat},idx N x=some i->N[i]?=some x
 |y::l,x,i,h=>by
  unfold idx at h;split at h
  ·rename_i e;cases h;rw[e];rfl
  ·cases a:idx l x with
   |none=>rw[a]at h;cases h|some j=>rw[a]at h;cases h;simpa using zgk a
noncomputable def zic(x:Str):Bool:=!(x==("__debug__":Str))&&!(x==("__classdict__":Str))&&!decide (x="__name__")
def zf8(h:zic x=true):(x==("__debug__":Str))=false/\(x==("__classdict__":Str))=false/\x ≠ "__name__":=by
 unfold zic at h;simp only[yac,yaQ,ybD]at h;exact⟨h.1.1,h.1.2,h.2⟩
noncomputable def zwv:Option NameKind->Bool|some .local=>true|some .cell=>true|some .free=>true|_=>false
def zjr(nm:Names)(N:List Str)(x:Str):Option Nat:=if zwv (nm.lookup x)&&zic x then idx N x else none
noncomputable def zbo(nm:Names)(x:Str):Bool:=decide (nm.lookup x=some .globalImplicit)&&zic x
section
variable{cl:Cf}{G:Genv}{k:Nat}{X:Cx}{nm:Names}{N:List Str}{E:St->XK}
def Gx.slot(g:Gx cl G k X nm N E)(h:zjr nm N x=some i):X.N[i]?=some x/\Vis X.env.scope x/\(x==("__debug__":Str))=false/\(x==("__classdict__":Str))=false:=by
 unfold zjr at h;split at h
 ·rename_i a;rw[yac]at a;obtain⟨h1,h2,_⟩:=zf8 a.2;refine⟨by rw[g.eN];exact zgk h,?_,h1,h2⟩
  cases c:nm.lookup x with
  |none=>rw[c]at a;exact absurd a.1 (by decide)
  |some d=>
   obtain⟨b,e,z⟩:=g.vis x d c;rw[c]at a;unfold Vis;rw[e]
   rcases z with rfl|⟨_,rfl⟩
   ·cases b<;>first|exact .inl rfl|exact .inr (.inl rfl)|exact .inr (.inr rfl)|exact absurd a.1 (by decide)
   ·exact .inr (.inl rfl)
 ·cases h
def Gx.glob(g:Gx cl G k X nm N E)(h:zbo nm x=true):Gl X x/\(x==("__debug__":Str))=false/\x ≠ "__name__":=by
 unfold zbo at h;rw[yac]at h;obtain⟨h1,_,b⟩:=zf8 h.2;obtain⟨a,e,z⟩:=g.vis x _ (yah h.1)
 rcases z with rfl|⟨z,_⟩
 ·exact⟨e,h1,b⟩
 ·cases z
end
noncomputable def okE:Expr->Bool|.Starred _ _=>false|.Set _ _ _=>false|_=>true
def zan(h:okE e=true):zbV e=true:=by cases e<;>first|rfl|cases h
def zf9(h:okE e=true):behindInMarks op e=false:=by cases e<;>first|rfl|cases h
def zhg(h:okE e=true)(v:Value):foldedSetIterable e env v=pure v:=by cases e<;>first|rfl|cases h
noncomputable def zcX:Expr->Bool|.IfExp _ _ _ _=>false|_=>true
def ltD:=zrY fun i j=>decide (i<j)
def leD:=zrY fun i j=>decide (i<=j)
def gtD:=zrY fun i j=>decide (j<i)
def geD:=zrY fun i j=>decide (j<=i)
section
variable{cl:Cf}{G:Genv}{k:Nat}{X:Cx}{nm:Names}{N:List Str}{E:St->XK}
theorem Gx.units(g:Gx cl G k X nm N E):X.A.units+64<cLine:=g.room.units
def Gx.un(g:Gx cl G k X nm N E){n:Nat}(h:n<=64):X.A.units+n<cLine:=Nat.lt_of_le_of_lt (Nat.add_le_add_left h _) g.units
def Gx.same(g:Gx cl G k X nm N E):Same' cl X:=⟨g.kk,g.pp,g.ww⟩
def zAb(I:args.all zbV=true)(J:args.length<30):methodCallForm (args.length+0) (backTo pos (starEach args env)) (backToKw pos (keywordEach [] env))=true:=by
 have h:=zbU (pos:=pos) (env:=env) I;unfold methodCallForm
 have h1:(backTo pos (starEach args env)).all (!·.1)=true:=by
  rw[List.all_eq_not_any_not];simpa using h
 rw[h1];show(true&&true&&decide (args.length+0+0<30))=true;rw[yax (by omega)];rfl
def zmi(J:attributeBase o m env (eval o env)=eval o env)(hf:methodCallForm (args.length+0) (backTo pos (starEach args env)) (backToKw pos (keywordEach [] env))=true)(I:(ap.endLine==pos.line)=true):
  eval (.Call (.Attribute o m ap) args [] pos) env=(do
   let ov ← eval o env
   standAt ap.atName
   let (f,first) ← holding [ov] (getMethod ov m (do return (← importBound o env).getD true))
   callWith pos f first (backTo pos (starEach args env)) (backToKw pos (keywordEach [] env))):=by
 show(do
  let ov ← attributeBase o m env (eval o env)
  standAt ap.atName
  methodCall o m ap pos env ov (args.length+0) (backTo pos (starEach args env)) (backToKw pos (keywordEach [] env)))=_
 rw[J]
 have e:∀ov,methodCall o m ap pos env ov (args.length+0) (backTo pos (starEach args env)) (backToKw pos (keywordEach [] env))=(do
   let (f,first) ← holding [ov] (getMethod ov m (do return (← importBound o env).getD true))
   callWith pos f first (backTo pos (starEach args env)) (backToKw pos (keywordEach [] env))):=fun ov=>by
  unfold methodCall calleeOf methodCallPos;rw[hf,I];rfl
 simp only[e]
end
theorem zg3:bootBuiltins "tuple"=some (.type "tuple"):=by decide +kernel
theorem zm2:bootBuiltins "list"=some (.type "list"):=by decide +kernel
theorem zo4:bootBuiltins "int"=some (.type "int"):=by decide +kernel
theorem zm3:bootBuiltins "bool"=some (.type "bool"):=by decide +kernel
theorem zo3:bootBuiltins "str"=some (.type "str"):=by decide +kernel
def zmX:∀(l:List D) (d r:D),zg1 l d=some r->∃n,r=.int n:=by
 intro l d r h;unfold zg1 at h;split at h
 ·cases h;exact⟨_,rfl⟩
 ·cases h
def zmE:∀(l:List D) (d r:D),zgU l d=some r->∃n,r=.int n:=by
 intro l d r h;unfold zgU at h;split at h
 ·cases h;exact⟨_,rfl⟩
 ·cases h
noncomputable def gd{α:Type}:(b:Bool)->(b=true->Option α)->Option α|true,k=>k rfl|false,_=>none
structure Dn(G:Genv)(nm:Names)(N:List Str)(e:Expr)where
 o:Bool
 f:Fe
 q:okE e=true
 ok:∀{cl k X E},Gx cl G k X nm N E->(o=true->PE X e (tN cl E f))/\PE X e (tE cl E f)/\(zcX e=true->PT X e (tTr cl E f))
noncomputable abbrev Rec(G:Genv):=∀nm N e,Option (Dn G nm N e)
structure Do(G:Genv)(nm:Names)(N:List Str)(e:Expr)where
 f:Fe
 q:okE e=true
 ok:∀{cl k X E},Gx cl G k X nm N E->PE X e (tH cl E f)
structure DL(G:Genv)(nm:Names)(N:List Str)(es:List Expr)where
 fs:List Fe
 q:es.all zbV=true
 l:fs.length=es.length
 ok:∀{cl k X E},Gx cl G k X nm N E->PA X es (tAs cl E fs)
structure DH(G:Genv)(nm:Names)(N:List Str)(es:List Expr)where
 fs:List Fe
 q:es.all zbV=true
 ok:∀{cl k X E},Gx cl G k X nm N E->PA X es (tHs cl E fs)
structure Sl(G:Genv)(nm:Names)(N:List Str)(x:Str)where
 i:Nat
 ok:∀{cl k X E},Gx cl G k X nm N E->X.N[i]?=some x/\Vis X.env.scope x/\(x==("__debug__":Str))=false/\(x==("__classdict__":Str))=false
section
variable{G:Genv}(rc:Rec G){nm:Names}{N:List Str}{e:Expr}
noncomputable def zkf(f:Fe)(q:okE e=true)(I:∀env whole,isTrue e env whole=(do let v ← whole;standAt e.pos;holding [v] (truthy v)))(p:∀{cl k X E},Gx cl G k X nm N E->PE X e (tE cl E f)):Option (Dn G nm N e):=some ⟨false,f,q,fun g=>⟨nofun,p g,fun _=>zjp (p g) (I _)⟩⟩
noncomputable def zwd(f:Fe)(q:okE e=true)(I:∀env whole,isTrue e env whole=(do let v ← whole;standAt e.pos;holding [v] (truthy v)))(p:∀{cl k X E},Gx cl G k X nm N E->PE X e (tN cl E f)):Option (Dn G nm N e):=some ⟨true,f,q,fun g=>⟨fun _=>p g,zfS (p g),fun _=>zjp (zfS (p g)) (I _)⟩⟩
def slO(G:Genv)(nm:Names)(N:List Str)(x:Str):Option (Sl G nm N x):=match h:zjr nm N x with|some i=>some ⟨i,fun g=>g.slot h⟩|none=>none
structure FA(G:Genv)(nm:Names)(N:List Str)(e:Expr)where
 i:Nat
 f:Str
 ok:∀{cl k X E},Gx cl G k X nm N E->∃x p ap,e=.Attribute (.Name x p) f ap/\X.N[i]?=some x/\Vis X.env.scope x/\(x==("__debug__":Str))=false/\(x==("__classdict__":Str))=false/\zhG cl G.ob.cur f
structure Dq(G:Genv)(nm:Names)(N:List Str)(e:Expr)where
 q:Fq
 pl:zbV e=true
 ok:∀{cl k X E},Gx cl G k X nm N E->PE X e (tQ cl q)
def faG(G:Genv)(nm:Names)(N:List Str):∀e,Option (FA G nm N e)
 |.Attribute (.Name x p) f ap=>gd (G.ob.fk G.ob.cur f) fun hf=>(slO G nm N x).map fun s=>⟨s.i,f,fun g=>⟨x,p,ap,rfl,(s.ok g).1,(s.ok g).2.1,(s.ok g).2.2.1,(s.ok g).2.2.2,g.gok.fk _ _ hf⟩⟩|_=>none
noncomputable def quG(G:Genv)(nm:Names)(N:List Str):∀e,Option (Dq G nm N e)
 |.Attribute (.Name x p) f ap=>gd (G.ob.fk G.ob.cur f&&!zub f) fun hf=>(slO G nm N x).map fun s=>⟨znO G.ob.cur f (znN s.i),rfl,fun g=>by
  rw[yac]at hf;obtain⟨s1,s2,s3,s4⟩:=s.ok g
  exact ztb (g.gok.fk _ _ hf.1) g.kk (zta s1 s2 s3 s4) rfl⟩
 |_=>none
noncomputable def hld(a:Dn G nm N e):Do G nm N e:=⟨a.f,a.q,fun g=>zqs (a.ok g).2.1⟩
def Sl.v{x:Str}{p:Pos}(s:Sl G nm N x){cl k X E}(g:Gx cl G k X nm N E):PE X (.Name x p) (tE cl E (zac s.i))/\PE X (.Name x p) (tH cl E (zah s.i)):=by
 obtain⟨s1,s2,s3,s4⟩:=s.ok g;exact⟨zsR s1 s2 s3 s4,zs0 s1 s2 s3 s4⟩
def opE(nm:Names)(N:List Str):∀e,Option (Do G nm N e)
 |.Name x p=>(match slO G nm N x with|some s=>some ⟨zah s.i,rfl,fun g=>(s.v g).2⟩|none=>(rc nm N (.Name x p)).map hld)
 |e=>(rc nm N e).map hld
def shL(nm:Names)(N:List Str):∀es,Option (DL G nm N es)
 |[]=>some ⟨[],rfl,rfl,fun _=>zgJ⟩|e::es=>(rc nm N e).bind fun a=>(shL nm N es).map fun b=>⟨a.f::b.fs,by rw[ybM,zan a.q,b.q];rfl,by rw[yan,yan,b.l],fun g=>zdu (a.ok g).2.1 (b.ok g) (zbi (zan a.q))⟩
def opL(nm:Names)(N:List Str):∀es,Option (DH G nm N es)
 |[]=>some ⟨[],rfl,fun _=>zpk⟩|e::es=>(opE rc nm N e).bind fun a=>(opL nm N es).map fun b=>⟨a.f::b.fs,by rw[ybM,zan a.q,b.q];rfl,fun g=>zlp (a.ok g) (b.ok g) (zbi (zan a.q))⟩
def zAf:∀op,Option {I // ∀{cl X},OpD X cl (binaryOp op) I}
 |.Add=>some ⟨zb1,ztZ⟩|.Sub=>some ⟨zlj,ztS⟩|.Mult=>some ⟨zhk,ztV⟩|.Mod=>some ⟨zky,ztW⟩|.FloorDiv=>some ⟨zuI,ztY⟩|.Pow=>some ⟨ztk,ztT⟩|_=>none
noncomputable def zmz:Expr->Bool|.Constant .none _ _=>true|_=>false
def zwL(b:Expr):∀op,Option {I // ∀{cl G k X nm N E},Gx cl G k X nm N E->OpD X cl (compareOp op) I}
 |.Eq=>some ⟨eqD,fun g=>zwc g.kk g.units⟩|.NotEq=>some ⟨neD,fun g=>zwa g.kk g.units⟩|.Lt=>some ⟨ltD,fun _=>zhh zv6⟩|.LtE=>some ⟨leD,fun _=>zhh zv7⟩|.Gt=>some ⟨gtD,fun _=>zhh zv8⟩|.GtE=>some ⟨geD,fun _=>zhh zv9⟩
 |.In=>some ⟨inD,fun g=>zwb g.kk g.units⟩|.NotIn=>some ⟨zkZ,fun g=>ztU g.kk g.units⟩
 |.Is=>gd (zmz b) fun _=>some ⟨zmx,fun _=>ztX⟩|.IsNot=>gd (zmz b) fun _=>some ⟨zkx,fun _=>zq0⟩
structure DB(G:Genv)(nm:Names)(N:List Str)(op:BoolOp)(es:List Expr)where
 f:Fe
 ok:∀{cl k X E p},Gx cl G k X nm N E->PE X (.BoolOp op es p) (tE cl E f)/\PW X (.BoolOp op es p) (tTr cl E f)
noncomputable def boE:BoolOp->Fe->Fe->Fe|.And=>zfs|.Or=>eOr
noncomputable def zuV(nm:Names)(N:List Str)(op:BoolOp):∀es,Option (DB G nm N op es)
 |[]=>none|[a]=>gd (zcX a) fun ht=>(rc nm N a).map fun fa=>⟨fa.f,fun g=>⟨zty (fa.ok g).2.1,by
   cases op with
   |And=>exact zqB ((fa.ok g).2.2 ht)|Or=>exact ztc ((fa.ok g).2.2 ht)⟩⟩
 |a::b::r=>gd (zcX a) fun ht=>(rc nm N a).bind fun fa=>(zuV nm N op (b::r)).map fun fb=>⟨boE op fa.f fb.f,fun g=>by
   have h1:=fa.ok g;have h2:=fun p=>fb.ok (p:=p) g
   cases op with
   |And=>exact⟨zs2 h1.2.1 (h2 _).1,zsr (h1.2.2 ht) (h2 _).2⟩|Or=>exact⟨zvT h1.2.1 (h2 _).1,zvO (h1.2.2 ht) (h2 _).2⟩⟩
noncomputable def zwK(nm:Names)(N:List Str)(a:Expr)(p:Pos):∀ops bs,Option (Dn G nm N (.Compare a ops bs p))
 |[op],[b]=>(zwL b op).bind fun e=>(opE rc nm N a).bind fun fa=>(opE rc nm N b).map fun fb=>⟨false,zag e.1 fa.f fb.f,rfl,fun g=>⟨nofun,zsZ (e.2 g) (fa.ok g) (fb.ok g) (zf9 fb.q),fun _=>zsy (e.2 g) (fa.ok g) (fb.ok g) (zf9 fb.q)⟩⟩|[op,h],[b,c]=>(zwL b op).bind fun e=>(zwL c h).bind fun d=>(opE rc nm N a).bind fun fa=>(opE rc nm N b).bind fun fb=>(opE rc nm N c).map fun fc=>⟨false,zdr e.1 d.1 fa.f fb.f fc.f,rfl,fun g=>
   have hm:lastMarks [op,h] [b,c]=false:=zf9 fc.q
   ⟨nofun,znz (e.2 g) (d.2 g) (fa.ok g) (fb.ok g) (fc.ok g) hm,fun _=>znp (e.2 g) (d.2 g) (fa.ok g) (fb.ok g) (fc.ok g) hm⟩⟩
 |_,_=>none
noncomputable def zzr(nm:Names)(N:List Str)(a:Expr)(p:Pos):∀ops bs,Option (Dn G nm N (.Compare a ops bs p))
 |[.NotIn],[.Attribute (.Name x px) f _]=>gd (G.ob.df f&&G.ob.fk G.ob.cur f) fun b=>(rc nm N a).bind fun fa=>(rc nm N (.Name x px)).map fun fo=>⟨false,zpF G.ob.cur f fa.f fo.f,rfl,fun g=>by
   rw[yac]at b
   exact⟨nofun,zsU (g.un (by decide)) g.same (g.gok.fk _ _ b.2) (fa.ok g).2.1 (fo.ok g).2.1 rfl rfl,fun _=>zsx (g.un (by decide)) g.same (g.gok.fk _ _ b.2) (fa.ok g).2.1 (fo.ok g).2.1 rfl rfl⟩⟩
 |[.NotIn],[.Name x _]=>gd (G.ds x) fun _=>(slO G nm N x).bind fun s=>(rc nm N a).map fun fa=>⟨false,zio s.i fa.f,rfl,fun g=>by
   obtain⟨s1,s2,s3,s4⟩:=s.ok g
   exact⟨nofun,zqp (g.un (by decide)) g.same s1 s2 s3 s4 (fa.ok g).2.1,fun _=>zp5 (g.un (by decide)) g.same s1 s2 s3 s4 (fa.ok g).2.1⟩⟩
 |_,_=>none
structure BI(x:Str)where
 g:List D->Option D
 nw:Bool
 ok:∀{cl G k X nm N E},Gx cl G k X nm N E->∃v,bootBuiltins x=some v/\((∃id,v=.builtin id)\/∃T,v=.type T)/\(if nw then zrS X cl v g else zkX X cl v g)
def zuX(x:Str):Option (BI x):=
 if h:x="len"then some ⟨zdB,false,fun g=>⟨_,h ▸ PySem.boot_len,.inl ⟨_,rfl⟩,zuP g.kk⟩⟩
 else if h:x="all"then some ⟨zpM,false,fun g=>⟨_,h ▸ boot_all,.inl ⟨_,rfl⟩,zuQ g.calm⟩⟩
 else if h:x="tuple"then some ⟨zcq,false,fun g=>⟨_,h ▸ zg3,.inr ⟨_,rfl⟩,zo0⟩⟩
 else if h:x="sum"then some ⟨zss,false,fun g=>⟨_,h ▸ PyProof.Rows.boot_sum,.inl ⟨_,rfl⟩,zuO g.calm⟩⟩
 else if h:x="list"then some ⟨zmp,true,fun g=>⟨_,h ▸ zm2,.inr ⟨_,rfl⟩,zrI⟩⟩
 else none
structure TI(x:Str)where
 T:String
 ok:bootBuiltins x=some (.type T)
noncomputable def zyX(x:Str):Option (TI x):=if h:x="int"then some ⟨"int",h ▸ zo4⟩else if h:x="bool"then some ⟨"bool",h ▸ zm3⟩else if h:x="tuple"then some ⟨"tuple",h ▸ zg3⟩else if h:x="str"then some ⟨"str",h ▸ zo3⟩else none
theorem zuW{cl k X E}(bi:BI x)(g:Gx cl G k X nm N E)(I:zbo nm x=true)(J:G.blt x=true)(a:DH G nm N (e::es)):
  (bi.nw=true->PE X (.Call (.Name x p) (e::es) [] pos) (tN cl E (zay bi.g a.fs)))/\PE X (.Call (.Name x p) (e::es) [] pos) (tE cl E (zay bi.g a.fs)):=by
 obtain⟨g1,g2,g3⟩:=g.glob I;have m:=g.gok.blt x J;have d:=a.q;rw[ybM,yac]at d;have st:=zbi (es:=es) (env:=X.env) d.1;have pl:=zbU (pos:=pos) (env:=X.env) d.2;obtain⟨v,c,h,b⟩:=bi.ok g
 cases f:bi.nw with
 |false=>
  rw[f]at b;have b:zkX X cl v bi.g:=b;refine⟨nofun,?_⟩
  rcases h with⟨id,rfl⟩|⟨T,rfl⟩
  ·exact PE.imp (zed b g1 m c (a.ok g) g3 g2 st pl) fun _ _ _ q=>zsn (fun _ _ _ z=>z) q
  ·exact PE.imp (zf5 b g1 m c (a.ok g) g3 g2 st pl) fun _ _ _ q=>zsn (fun _ _ _ z=>z) q
 |true=>
  rw[f]at b;have b:zrS X cl v bi.g:=b
  have n:PE X (.Call (.Name x p) (e::es) [] pos) (tN cl E (zay bi.g a.fs)):=by
   rcases h with⟨id,rfl⟩|⟨T,rfl⟩
   ·exact PE.imp (zed b g1 m c (a.ok g) g3 g2 st pl) fun _ _ _ q=>zsm (fun _ _ _ z=>z) q
   ·exact PE.imp (zf5 b g1 m c (a.ok g) g3 g2 st pl) fun _ _ _ q=>zsm (fun _ _ _ z=>z) q
  exact⟨fun _=>n,zfS n⟩
def zAa{cl k X E}(g:Gx cl G k X nm N E)(U:zbo nm x=true)(I:G.fn x=some fi)(a:DL G nm N args)(J:args.length=fi.ar):
  (fi.own=true->PE X (.Call (.Name x p) args [] pos) (tN cl E (eFn fi.run a.fs)))/\PE X (.Call (.Name x p) args [] pos) (tE cl E (eFn fi.run a.fs)):=by
 obtain⟨g1,g2,g3⟩:=g.glob U;obtain⟨fa,fd,ps,f,d,c,b⟩:=g.gok.fn x fi I;have hlen:a.fs.length=fi.ar:=a.l.trans J
 have main:PE X (.Call (.Name x p) args [] pos) (zhS (zhI cl fi.ar fi.own fi.run) [] E (tAs cl E a.fs)):=by
  cases args with
  |nil=>
   refine PE.imp (zl2 b g.room g1 f d c .nil g.pass g2) ?_;have:a.fs=[]:=yaV a.l;rw[this];rintro σ H Q ⟨B,w,ρ,S,rfl,R,q⟩;exact q [] w R (Fut.refl _) .nil
  |cons e es=>
   have a2:=a.q;rw[ybM,yac]at a2;exact zoe b g.room g1 f d c .nil g.pass (a.ok g) g2 (zbi a2.1) (zbU a2.2)
 cases h:fi.own with
 |false=>
  rw[h]at main;exact⟨nofun,PE.imp main fun _ _ _ q=>zuU q hlen⟩
 |true=>
  rw[h]at main;have n:PE X (.Call (.Name x p) args [] pos) (tN cl E (eFn fi.run a.fs)):=PE.imp main fun _ _ _ q=>zuT q hlen
  exact⟨fun _=>n,zfS n⟩
noncomputable def ziw(o:Bool)(f:Fe)(h:∀{cl k X E},Gx cl G k X nm N E->(o=true->PE X (.Call (.Name x p) args [] pos) (tN cl E f))/\PE X (.Call (.Name x p) args [] pos) (tE cl E f)):Option (Dn G nm N (.Call (.Name x p) args [] pos)):=some ⟨o,f,rfl,fun g=>⟨(h g).1,(h g).2,fun _=>zjp (h g).2 fun _=>rfl⟩⟩
def zwN(nm:Names)(N:List Str)(x:Str)(p pos:Pos)(args:List Expr):Option (Dn G nm N (.Call (.Name x p) args [] pos)):=gd (zbo nm x) fun b=>match hf:G.fn x with
 |some fi=>gd (decide (args.length=fi.ar)) fun c=>(shL rc nm N args).bind fun a=>ziw fi.own (eFn fi.run a.fs) fun g=>zAa g b hf a (yah c)|none=>gd (G.blt x) fun d=>match args with
  |[]=>none|e::es=>(zuX x).bind fun bi=>(opL rc nm N (e::es)).bind fun a=>ziw bi.nw (zay bi.g a.fs) fun g=>zuW bi g b d a
noncomputable def zz2(nm:Names)(N:List Str)(x:Str)(p pos:Pos):∀args,Option (Dn G nm N (.Call (.Name x p) args [] pos))
 |[a,.Name t _]=>gd (decide (x="isinstance")&&(zbo nm x&&G.blt x&&zbo nm t&&G.blt t)) fun b=>(zyX t).bind fun T=>(opE rc nm N a).bind fun fa=>ziw false (eUn (zeF T.T) fa.f) fun g=>⟨nofun,by
  simp only[yac]at b;obtain⟨d,⟨⟨h1,h2⟩,e⟩,h4⟩:=b;obtain rfl:=yah d;obtain⟨t1,c,t3⟩:=g.glob e
  exact zqr (g.glob h1).1 (g.gok.blt _ h2) t1 (g.gok.blt _ h4) T.ok t3 c (zan fa.q) (fa.ok g)⟩
 |_=>none
noncomputable def zwM(G:Genv)(t:Str):Bool:=if t="ValueError"then G.blt t else G.exc t
def zz0(nm:Names)(N:List Str)(x:Str)(p pos:Pos):∀args,Option (Dn G nm N (.Call (.Name x p) args [] pos))
 |[a,.Name t _]=>gd (decide (x="isinstance")&&(zbo nm x&&G.blt x&&zbo nm t&&zwM G t)) fun e=>(opE rc nm N a).bind fun fa=>ziw false (eUn (znf G.isx t) fa.f) fun {cl _ _ _} g=>⟨nofun,by
  simp only[yac]at e;obtain⟨j,⟨⟨h1,h2⟩,k⟩,h4⟩:=e;obtain rfl:=yah j;obtain⟨t1,i,t3⟩:=g.glob k
  by_cases h:t="ValueError"
  ·subst h
   have d:G.blt "ValueError"=true:=by simpa[zwM]using h4
   exact zpl (vC:=.ty "ValueError") (g.glob h1).1 (g.gok.blt _ h2) (zl5 t1 (g.gok.blt _ d) zkU rfl t3 i) (fun u r=>by rw[show u=Value.type "ValueError"from r];rfl) (fun c b e=>g.gok.isx c _ b e) (zan fa.q) (fa.ok g)
  ·have d:G.exc t=true:=by simpa[zwM,h]using h4
   exact zpl (vC:=.ref (cl t)) (g.glob h1).1 (g.gok.blt _ h2) (zl1 t1 (g.gok.exc t d).1 rfl i) (fun u r=>by rw[show u=Value.ref (cl t)from r];unfold zuN;rw[if_neg h]) (fun c b e=>g.gok.isx c _ b e) (zan fa.q) (fa.ok g)⟩
 |_=>none
def lrG(nm:Names)(N:List Str)(x:Str)(p pos:Pos):∀args,Option (Dn G nm N (.Call (.Name x p) args [] pos))
 |[.Call (.Name y _) [a] [] _]=>gd (decide (x="list")&&decide (y="range")&&(zbo nm x&&G.blt x&&zbo nm y&&G.blt y)) fun c=>(rc nm N a).bind fun fa=>ziw true (eUn lrD fa.f) fun g=>by
  simp only[yac]at c;obtain⟨⟨b,j⟩,⟨⟨h1,h2⟩,h⟩,h4⟩:=c;obtain rfl:=yah b;obtain rfl:=yah j;exact⟨fun _=>zsX g.calm (g.glob h1).1 (g.gok.blt _ h2) (g.glob h).1 (g.gok.blt _ h4) (fa.ok g).2.1 (zbi (zan fa.q)),zfS (zsX g.calm (g.glob h1).1 (g.gok.blt _ h2) (g.glob h).1 (g.gok.blt _ h4) (fa.ok g).2.1 (zbi (zan fa.q)))⟩
 |[.Name y _]=>gd (decide (x="sorted")&&(zbo nm x&&G.blt x&&G.ds y)) fun c=>(slO G nm N y).bind fun s=>ziw true (zkM s.i) fun g=>by
  simp only[yac]at c;obtain⟨b,⟨h1,h2⟩,_⟩:=c;obtain rfl:=yah b;obtain⟨s1,s2,s3,s4⟩:=s.ok g;exact⟨fun _=>zls g.calm g.same (g.glob h1).1 (g.gok.blt _ h2) s1 s2 s3 s4,zfS (zls g.calm g.same (g.glob h1).1 (g.gok.blt _ h2) s1 s2 s3 s4)⟩
 |[.Attribute o f ap]=>gd (decide (x="len")&&(zbo nm x&&G.blt x)) fun d=>(faG G nm N (.Attribute o f ap)).bind fun t=>gd (zub t.f) fun _=>ziw false (zgv G.ob.cur t.f t.i) fun g=>⟨nofun,by
  simp only[yac]at d;obtain⟨b,h1,h2⟩:=d;obtain rfl:=yah b;obtain⟨i,l,ok⟩:=t;obtain⟨x,p,k,e,s1,s2,s3,s4,fk⟩:=ok g;cases e
  exact zqq (y:="") s1 s2 s3 s4 g.same fk rfl (g.glob h1).1 (g.gok.blt _ h2)⟩
 |_=>none
def zwe{cl k X E}(g:Gx cl G k X nm N E)(hg:zbo nm x=true)(hm:G.ob.mks x=some (I,fi))(J:args.isEmpty=false)(a:DL G nm N args)(U:args.length+I.length+1=fi.ar):PE X (.Call (.Name x p) args [] pos) (tE cl E (eMk x I fi.run a.fs)):=by
 obtain⟨f,fd,ps,dvs,ds,k',h,d,M,j,i,b,c,F⟩:=g.gok.mks x I fi hm;obtain⟨g1,g2,g3⟩:=g.glob hg
 cases args with
 |nil=>cases J|cons e es=>
  have a2:=a.q;rw[ybM,yac]at a2;exact PE.imp (zn9 M F (g.room.mono h) g1 d i b g.pass (a.ok g) g2 (zbi a2.1) (zbU a2.2)) fun _ _ _ q=>zzt c q (by rw[a.l];exact U)
def mkG(nm:Names)(N:List Str)(x:Str)(p pos:Pos)(args:List Expr):Option (Dn G nm N (.Call (.Name x p) args [] pos)):=match hm:G.ob.mks x with
 |some c=>gd (zbo nm x&&(!args.isEmpty&&decide (args.length+c.1.length+1=c.2.ar))) fun b=>(shL rc nm N args).bind fun a=>ziw false (eMk x c.1 c.2.run a.fs) fun g=>⟨nofun,by
  simp only[yac,yaQ,ybh]at b
  exact zwe g b.1 hm b.2.1 a b.2.2⟩
 |none=>none
noncomputable def zwR(w:Bool)(f:Fe)(h:∀{cl k X E},Gx cl G k X nm N E->(w=true->PE X (.Call (.Attribute o m ap) args [] cp) (tN cl E f))/\PE X (.Call (.Attribute o m ap) args [] cp) (tE cl E f)):Option (Dn G nm N (.Call (.Attribute o m ap) args [] cp)):=some ⟨w,f,rfl,fun g=>⟨(h g).1,(h g).2,fun _=>zjp (h g).2 fun _=>rfl⟩⟩
noncomputable def zpP(o:Expr):Prop:=∀m env,attributeBase o m env (eval o env)=eval o env
structure Bo(o:Expr):Type where
 ok:zpP o
noncomputable def zzf:∀o,Option (Bo o)|.Name _ _=>some ⟨fun _ _=>rfl⟩|.Call (.Name _ _) (_::_) _ _=>some ⟨fun _ _=>rfl⟩|.Attribute (.Name _ _) _ _=>some ⟨fun _ _=>rfl⟩|_=>none
structure Mt(m:Str)where
 g:List D->D->Option D
 ok:∀{cl G k X nm N E},Gx cl G k X nm N E->∀{i x p a f ap cp},X.N[i]?=some x->Vis X.env.scope x->(x==("__debug__":Str))=false->(x==("__classdict__":Str))=false->PE X a (tH cl E f)->zbV a=true->(ap.endLine==cp.line)=true->PE X (.Call (.Attribute (.Name x p) m ap) [a] [] cp) (tE cl E (eMt g i f))
def zzs(m:Str):Option (Mt m):=if h:m="count"then some ⟨zg1,fun g=>by subst h;exact fun s1 s2 s3 s4 a1 a2 z=>zsV PySem.F.slot_list_count PySem.F.type_list_count (zor g.kk g.units) zmX s1 s2 s3 s4 a1 a2 z⟩
 else if h:m="index"then some ⟨zgU,fun g=>by subst h;exact fun s1 s2 s3 s4 a1 a2 z=>zsV PySem.F.slot_list_index PySem.F.type_list_index (zoq g.kk g.units) zmE s1 s2 s3 s4 a1 a2 z⟩else none
noncomputable def mtG(nm:Names)(N:List Str)(m:Str)(ap cp:Pos):∀o args,Option (Dn G nm N (.Call (.Attribute o m ap) args [] cp))
 |.Name x _,[a]=>gd (ap.endLine==cp.line) fun b=>(zzs m).bind fun mm=>(slO G nm N x).bind fun s=>(opE rc nm N a).bind fun fa=>zwR false (eMt mm.g s.i fa.f) fun g=>⟨nofun,by
   obtain⟨s1,s2,s3,s4⟩:=s.ok g
   exact mm.ok g s1 s2 s3 s4 (fa.ok g) (zan fa.q) b⟩
 |_,_=>none
def zq2{cl k X E}(g:Gx cl G k X nm N E)(h1:G.ob.mt m=some (c,fi))(b:zpP o)(z3:(ap.endLine==pos.line)=true)(z4:args.length<30)(I:args.length+1=fi.ar)(fo:Dn G nm N o)(a:DL G nm N args):
  (fi.own=true->PE X (.Call (.Attribute o m ap) args [] pos) (tN cl E (zaJ c m fi.run fo.f a.fs)))/\PE X (.Call (.Attribute o m ap) args [] pos) (tE cl E (zaJ c m fi.run fo.f a.fs)):=by
 obtain⟨f,fd,ps,c1,r,p,j⟩:=g.gok.mt m c fi h1
 have hlen:a.fs.length+1=fi.ar:=by rw[a.l];exact I
 have ht:=zmi (ap:=ap) (b m X.env) (zAb (pos:=pos) a.q z4) z3
 have main:PE X (.Call (.Attribute o m ap) args [] pos) (zhR (cl c) m (zhI cl fi.ar fi.own fi.run) [] E (tE cl E fo.f) (tAs cl E a.fs)):=by
  cases args with
  |nil=>
   have A:a.fs=[]:=yaV a.l;rw[A];refine PE.imp (zl0 (fo.ok g).2.1 c1 r j g.room p .nil g.pass ht) ?_;rintro σ H Q ⟨B,w,ρ,S,rfl,R,q⟩;refine⟨B,w,ρ,S,rfl,R,?_⟩
   cases h:fo.f ρ S with
   |bad=>rwa[h]at q|exc c S1=>rwa[h]at q|ok d S1=>
    rw[h]at q;intro v t C F1 sh;obtain⟨a,dx,fs,z,y,x,F,w',s,S',u,D,q⟩:=q v t C F1 sh;refine⟨a,dx,fs,z,y,x,?_⟩;have:=q [] w' D (Fut.refl _) .nil;rwa[u]at this
  |cons e es=>
   have a2:=a.q;rw[ybM,yac]at a2;exact zn8 (fo.ok g).2.1 c1 r j g.room p .nil g.pass (a.ok g) (zbi a2.1) (zbU a2.2) ht
 cases i:fi.own with
 |false=>
  rw[i]at main;exact⟨nofun,PE.imp main fun _ _ _ q=>zt9 q hlen⟩
 |true=>
  rw[i]at main;have n:=PE.imp main fun _ _ _ q=>zt8 q hlen
  exact⟨fun _=>n,zfS n⟩
noncomputable def zzo(nm:Names)(N:List Str)(o:Expr)(m:Str)(ap cp:Pos):∀args,Option (Dn G nm N (.Call (.Attribute o m ap) args [] cp))
 |[]=>gd (decide (m="pop")&&(ap.endLine==cp.line)) fun a=>(faG G nm N o).bind fun t=>gd (zub t.f) fun _=>zwR false (zhu G.ob.cur t.f t.i) fun g=>⟨nofun,by
   rw[yac]at a;obtain rfl:=yah a.1;obtain⟨i,f,ok⟩:=t;obtain⟨x,p,b,rfl,s1,s2,s3,s4,fk⟩:=ok g
   exact zqo s1 s2 s3 s4 g.same fk rfl rfl a.2⟩
 |_=>none
def zwf(nm:Names)(N:List Str)(o:Expr)(m:Str)(ap cp:Pos)(args:List Expr):Option (Dn G nm N (.Call (.Attribute o m ap) args [] cp)):=match hm:G.ob.mt m with
 |some c=>gd ((ap.endLine==cp.line)&&(decide (args.length<30)&&decide (args.length+1=c.2.ar))) fun d=>(zzf o).bind fun b=>(rc nm N o).bind fun fo=>(shL rc nm N args).bind fun a=>zwR c.2.own (zaJ c.1 m c.2.run fo.f a.fs) fun g=>by
  simp only[yac,ybh]at d;exact zq2 g hm b.ok d.1 d.2.1 d.2.2 fo a
 |none=>none
def zwI(nm:Names)(N:List Str)(args:List Expr)(cp:Pos):∀f I,Option (Dn G nm N (.Call f args I cp))
 |.Name x p,[]=>(zz2 rc nm N x p cp args).or ((zz0 rc nm N x p cp args).or ((lrG rc nm N x p cp args).or ((mkG rc nm N x p cp args).or (zwN rc nm N x p cp args))))|.Attribute o m ap,[]=>(zzo nm N o m ap cp args).or ((mtG rc nm N m ap cp o args).or (zwf rc nm N o m ap cp args))|_,_=>none
end
noncomputable def zww:Option NameKind->Bool|some .local=>true|some .cell=>true|_=>false
structure Ti(G:Genv)(nm:Names)(N:List Str)(n:Nat)(x:Str)where
 i:Nat
 ok:∀{cl k X E},Gx cl G k X nm N E->i<n/\X.N.Nodup/\X.N[i]?=some x/\Loc X.env.scope x/\(X.fn x=true\/X.env.scope.names.lookup x=some .local)
structure Tgs(G:Genv)(nm:Names)(N:List Str)(n:Nat)(es:List Expr)where
 is:List Nat
 ok:∀{cl k X E},Gx cl G k X nm N E->PGs X es (tGs cl n is)/\(assignEach es X.env).length=is.length/\(assignEach es X.env).findIdx? (·.1)=none
structure Dt(G:Genv)(nm:Names)(N:List Str)(n:Nat)(tg:Expr)where
 t:Tg
 ok:∀{cl k X E},Gx cl G k X nm N E->PG X tg (tG cl n t)
section
variable{G:Genv}(rc:Rec G){nm:Names}{N:List Str}{e:Expr}
def tgI(G:Genv)(nm:Names)(N:List Str)(n:Nat)(x:Str):Option (Ti G nm N n x):=gd (zww (nm.lookup x)) fun a=>match hi:idx N x with
 |some i=>gd (decide (i<n)) fun f=>some ⟨i,fun g=>by
  refine⟨yah f,by rw[g.eN];exact g.nd,by rw[g.eN];exact zgk hi,?_⟩
  cases b:nm.lookup x with
  |none=>rw[b]at a;cases a|some c=>
   obtain⟨d,e,z⟩:=g.vis x c b;rw[b]at a
   cases c with
   |«local»=>
    rcases z with rfl|⟨z,_⟩
    ·exact⟨.inl e,.inr e⟩
    ·cases z
   |cell=>
    rcases z with rfl|⟨z,_⟩
    ·exact⟨.inr e,.inl (g.fnc x b)⟩
    ·cases z
   |_=>cases a⟩
 |none=>none
noncomputable def zxu(G:Genv)(nm:Names)(N:List Str)(n:Nat):∀es,Option (Tgs G nm N n es)
 |[]=>some ⟨[],fun _=>⟨zql,rfl,rfl⟩⟩|.Name x pos::es=>(tgI G nm N n x).bind fun a=>(zxu G nm N n es).map fun b=>⟨a.i::b.is,fun g=>by
   obtain⟨a1,a2,j,h,f⟩:=a.ok g;obtain⟨e,d,c⟩:=b.ok g;refine⟨znv a1 a2 j h f e,congrArg (·+1) d,?_⟩;show((false,assign (.Name x pos) _)::assignEach es _).findIdx? (·.1)=none;rw[List.findIdx?_cons]
   simp[c]⟩
 |_::_=>none
def tgG(G:Genv)(nm:Names)(N:List Str)(n:Nat):∀tg,Option (Dt G nm N n tg)
 |.Name x _=>(tgI G nm N n x).map fun a=>⟨.one a.i,fun g=>by
   obtain⟨a1,a2,j,h,f⟩:=a.ok g
   exact zsQ a1 a2 j h f⟩
 |.Tuple es _ _=>(zxu G nm N n es).map fun b=>⟨.tup b.is,fun g=>by
   obtain⟨e,d,c⟩:=b.ok g
   exact zsP g.calm e d c⟩
 |_=>none
structure Di(G:Genv)(nm:Names)(N:List Str)(tg e:Expr)where
 f:Fi
 q:okE e=true
 ok:∀{cl k X E},Gx cl G k X nm N E->PI X tg e (tI cl E f)
def zvm(tg:Expr)(a:Dn G nm N e):Di G nm N tg e:=⟨za1 a.f,a.q,fun g=>zsO g.kk (a.ok g).2.1⟩
noncomputable def zyw(nm:Names)(N:List Str)(x:Str)(p pos:Pos)(a b:Expr):∀tg,Option (Di G nm N tg (.Call (.Name x p) [a,b] [] pos))
 |.Tuple es kk tp=>gd (decide (x="zip")&&(zbo nm x&&G.blt x)) fun c=>(rc nm N a).bind fun fa=>(rc nm N b).map fun fb=>⟨zrX fa.f fb.f,rfl,fun g=>by
   simp only[yac]at c;obtain rfl:=yah c.1
   exact zsL (g.glob c.2.1).1 (g.gok.blt _ c.2.2) (zdu (fa.ok g).2.1 (zdu (fb.ok g).2.1 zgJ (zbi (zan fb.q))) (zbi (zan fa.q))) (zbi (zan fa.q)) (zbU (by simp[zan fb.q]))⟩
 |_=>none
def zzd(nm:Names)(N:List Str)(tg:Expr)(x:Str)(p pos:Pos)(a:Expr):Option (Di G nm N tg (.Call (.Name x p) [a] [] pos)):=gd (decide (x="range")&&(zbo nm x&&G.blt x)) fun b=>(rc nm N a).map fun fa=>⟨zeL fa.f,rfl,fun g=>by
   simp only[yac]at b;obtain rfl:=yah b.1
   exact zqj (g.glob b.2.1).1 (g.gok.blt _ b.2.2) (zdu (fa.ok g).2.1 zgJ (zbi (zan fa.q))) (zbi (zan fa.q))⟩
noncomputable def zwH(nm:Names)(N:List Str)(x:Str)(p pos:Pos)(a:Expr):∀tg,Option (Di G nm N tg (.Call (.Name x p) [a] [] pos))
 |.Tuple es kk tp=>gd (decide (x="enumerate")&&(zbo nm x&&G.blt x)) fun b=>(rc nm N a).map fun fa=>⟨zkP fa.f,rfl,fun g=>by
   simp only[yac]at b;obtain rfl:=yah b.1
   exact zqk (g.glob b.2.1).1 (g.gok.blt _ b.2.2) (zdu (fa.ok g).2.1 zgJ (zbi (zan fa.q))) (zbi (zan fa.q))⟩
 |_=>none
def zzc(nm:Names)(N:List Str)(tg:Expr)(x:Str)(p pos:Pos)(a b c:Expr):Option (Di G nm N tg (.Call (.Name x p) [a,b,c] [] pos)):=gd (decide (x="range")&&(zbo nm x&&G.blt x)) fun d=>(rc nm N a).bind fun fa=>(rc nm N b).bind fun fb=>(rc nm N c).map fun fc=>⟨zkN fa.f fb.f fc.f,rfl,fun g=>by
   simp only[yac]at d;obtain rfl:=yah d.1
   exact zqi (g.glob d.2.1).1 (g.gok.blt _ d.2.2) (zdu (fa.ok g).2.1 (zdu (fb.ok g).2.1 (zdu (fc.ok g).2.1 zgJ (zbi (zan fc.q))) (zbi (zan fb.q))) (zbi (zan fa.q))) (zbi (zan fa.q)) (zbU (by simp[zan fb.q,zan fc.q]))⟩
def zuz(nm:Names)(N:List Str)(tg:Expr):∀e,Option (Di G nm N tg e)
 |.Call (.Name x p) [a] [] pos=>(zzd rc nm N tg x p pos a).or ((zwH rc nm N x p pos a tg).or ((rc nm N (.Call (.Name x p) [a] [] pos)).map (zvm tg)))|.Call (.Name x p) [a,b] [] pos=>(zyw rc nm N x p pos a b tg).or ((rc nm N (.Call (.Name x p) [a,b] [] pos)).map (zvm tg))|.Call (.Name x p) [a,b,c] [] pos=>(zzc rc nm N tg x p pos a b c).or ((rc nm N (.Call (.Name x p) [a,b,c] [] pos)).map (zvm tg))|e=>(rc nm N e).map (zvm tg)
noncomputable def zt7:Expr->Option Str|.Name x _=>some x|_=>none
def zbj:Expr->List Str
 |.Name x _=>[x]|.Tuple es _ _=>es.filterMap zt7|_=>[]
def zbw(names:Names)(N:List Str):List (Str×Nat):=names.filterMap fun p=>if p.2=.free then(idx N p.1).map fun i=>(p.1,i)else none
noncomputable def zz1:Option NameKind->Bool|some .cell=>true|some .free=>true|_=>false
def zj9(nm:Names)(scope:Scope)(xs:List Str)(caps:List (Str×Nat)):Bool:=
 decide (scope.kind=.function)&&decide ((scope.names.map (·.1)).Nodup)&&scope.names.all (fun y=>!decide (y.2=.local)||decide (scope.names.lookup y.1=some .local))
 && scope.names.all (fun y=>!decide (y.2=.free)||zz1 (nm.lookup y.1))&&caps.all (fun p=>scope.names.all fun z=>!decide (z.1=p.1)||decide (z.2=.free))&&decide ((xs++caps.map (·.1)).Nodup)
def ziP{env:PySem.Env}{x:Str}{J:NameKind}{names:Names}(h:names.lookup x=some J):
  ∃I,(names.map fun(n,k)=>if(k==NameKind.free&&env.scope.kind==.function&&env.kindOf n==some .cell)then(n,NameKind.cell)else(n,k)).lookup x=some I/\(I=J\/(J=.free/\I=.cell)):=by
 induction names with
 |nil=>cases h|cons p r c=>
  obtain⟨n,k0⟩:=p;rw[yaz]at h;rw[yau];dsimp only
  by_cases b:(k0==NameKind.free&&env.scope.kind==.function&&env.kindOf n==some .cell)=true
  ·rw[if_pos b,yaz]
   cases a:x==n with
   |true=>
    rw[a]at h;cases h;simp only[yac,yb1]at b;exact⟨_,rfl,.inr ⟨b.1.1,rfl⟩⟩
   |false=>rw[a]at h;exact c h
  ·rw[if_neg b,yaz]
   cases a:x==n with
   |true=>rw[a]at h;cases h;exact⟨_,rfl,.inl rfl⟩|false=>rw[a]at h;exact c h
def zkQ{cl k X E}(g:Gx cl G k X nm N E)(h:zj9 nm scope xs (zbw scope.names N)=true):CompScopeG X.env.scope scope X.N xs (zbw scope.names N)/\(xs++(zbw scope.names N).map (·.1)).Nodup:=by
 unfold zj9 at h;simp only[yac,ybs,ybh,yc8,yaQ,ybD]at h;obtain⟨⟨⟨⟨⟨h1,h2⟩,s⟩,h4⟩,r⟩,o⟩:=h
 have fr:∀y∈scope.names,y.2=.free->X.env.scope.names.lookup y.1=some .cell\/X.env.scope.names.lookup y.1=some .free:=fun y c hf=>by
  rcases h4 y c with z|z
  ·exact absurd hf z
  ·cases d:nm.lookup y.1 with
   |none=>rw[d]at z;cases z|some l=>
    obtain⟨b,e,j⟩:=g.vis y.1 l d;rw[d]at z;rw[e]
    rcases j with rfl|⟨_,rfl⟩
    ·cases b<;>first|exact .inl rfl|exact .inr rfl|cases z
    ·exact .inl rfl
 refine⟨⟨h2,h1,fun y c n=>(s y c).elim (fun z=>absurd n z) fun z=>z,fr,fun p a=>?_,fun p a z m e=>(r p a z m).elim (fun w=>absurd e w) fun w=>w⟩,o⟩;unfold zbw at a;obtain⟨q,f,e⟩:=ycz.mp a;split at e
 ·rename_i hf
  cases hi:idx N q.1 with
  |none=>rw[hi]at e;cases e|some i=>
   rw[hi]at e;have t:(q.1,i)=p:=Option.some.inj e;subst t;refine⟨by rw[g.eN];exact zgk hi,by rw[<-hf];exact f,?_⟩
   rcases fr q f hf with z|z<;>rw[z]<;>exact fun w=>by cases w
 ·cases e
def zhp{cl k X E}(g:Gx cl G k X nm N E)(U:(xs++(zbw scope.names N).map (·.1)).Nodup)(J:List (Str×Addr))(C:Addr)(s:Shared)(H:Hp)(fp:List Addr):
  Gx cl G k (zbz X xs (zbw scope.names N) scope J C s H fp) scope.names (xs++(zbw scope.names N).map (·.1)) noE where
 gok:=g.gok
 room:=g.room
 calm:=g.calm
 pass:=fun pins σ H s e s' I q=>by
  obtain⟨a,cls,a0,H',B,_,_,_,_,_,_,_,_,_,z⟩:=q;exact z.elim
 eN:=rfl
 kk:=g.kk
 pp:=g.pp
 ww:=g.ww
 nd:=U
 vis:=fun x b h=>ziP h
 fnx:=fun x h=>lookup_relabel_local h
 fnc:=fun x h=>yax h
structure Dif(G:Genv)(nm:Names)(N:List Str)(ifs:List Expr)where
 f:Fe
 ok:∀{cl k X},Gx cl G k X nm N noE->PIf X ifs (tTr cl noE f)
def zwJ(nm:Names)(N:List Str):∀ifs,Option (Dif G nm N ifs)
 |[]=>some ⟨zhs,fun _ pins s σ H Q I q=>by
   obtain⟨B,w,ρ,S,rfl,R,q⟩:=q
   exact zqM pins s σ w.H Q I (q w R (Fut.refl _))⟩
 |[c]=>gd (zcX c) fun ht=>(rc nm N c).map fun a=>⟨a.f,fun g=>zqL ((a.ok g).2.2 ht)⟩|_=>none
noncomputable def zu6(cl:Cf)(X:Cx)(E:St->XK)(N:List Str)(elt:Expr)(I:Comprehension)(scope:Scope)(J:Fe->TE)(mk:Nat->Tg->Fi->Fe->Fe->List Nat->Fe)(f:Fe):Prop:=∃it t c b,f=mk (zbj I.target).length t it c b ((zbw scope.names N).map (·.2))/\I=⟨I.target,I.iter,I.ifs,0⟩/\CompScopeG X.env.scope scope X.N (zbj I.target) (zbw scope.names N)/\PI X I.target I.iter (tI cl E it)/\okE I.iter=true ∧
   (∀a C s H fp,PG (zbz X (zbj I.target) (zbw scope.names N) scope a C s H fp) I.target (tG cl (zbj I.target).length t)) ∧
   (∀a C s H fp,PIf (zbz X (zbj I.target) (zbw scope.names N) scope a C s H fp) I.ifs (tTr cl noE c)) ∧
   ∀a C s H fp,PE (zbz X (zbj I.target) (zbw scope.names N) scope a C s H fp) elt (J b)
structure Dc(G:Genv)(nm:Names)(N:List Str)(elt:Expr)(gg:Comprehension)(scope:Scope)where
 f:Fe
 ok:∀{cl k X E},Gx cl G k X nm N E->zu6 cl X E N elt gg scope (tE cl noE) zes f
def zuL{cl k X E}(J:(decide (I.is_async=0)&&zj9 nm scope (zbj I.target) (zbw scope.names N))=true)(it:Di G nm N I.target I.iter)(t:Dt G scope.names (zbj I.target++(zbw scope.names N).map (·.1)) (zbj I.target).length I.target)(c:Dif G scope.names (zbj I.target++(zbw scope.names N).map (·.1)) I.ifs)
  (he:∀{X},Gx cl G k X scope.names (zbj I.target++(zbw scope.names N).map (·.1)) noE->PE X elt (U el)) (g:Gx cl G k X nm N E):zu6 cl X E N elt I scope U mk (mk (zbj I.target).length t.t it.f c.f el ((zbw scope.names N).map (·.2))):=by
 rw[yac]at J;obtain⟨S,b⟩:=zkQ g J.2;refine⟨_,_,_,_,rfl,?_,S,it.ok g,it.q,fun a C s H fp=>t.ok (zhp g b a C s H fp),fun a C s H fp=>c.ok (zhp g b a C s H fp),fun a C s H fp=>he (zhp g b a C s H fp)⟩;have:=yah J.1;clear it t c S b g he;cases I;simp only at this;rw[this]
def zuM(nm:Names)(N:List Str)(elt:Expr)(I:Comprehension)(scope:Scope):Option (Dc G nm N elt I scope):=
 gd (decide (I.is_async=0)&&zj9 nm scope (zbj I.target) (zbw scope.names N)) fun a=>
  (zuz rc nm N I.target I.iter).bind fun it=>
  (tgG G scope.names (zbj I.target++(zbw scope.names N).map (·.1)) (zbj I.target).length I.target).bind fun t=>
  (zwJ rc scope.names (zbj I.target++(zbw scope.names N).map (·.1)) I.ifs).bind fun c=>
  (rc scope.names (zbj I.target++(zbw scope.names N).map (·.1)) elt).map fun b=>⟨_,fun g=>zuL a it t c (fun g=>(b.ok g).2.1) g⟩
def Dc.n{cl k X E}{elt:Expr}{I:Comprehension}{scope:Scope}{pos:Pos}(c:Dc G nm N elt I scope)(g:Gx cl G k X nm N E):PE X (.ListComp elt [I] scope pos) (tN cl E c.f):=by
 obtain⟨it,t,c',i,e,h,S,i1,i2,d,b,a⟩:=c.ok g;rw[e,h];exact PE.imp (zoc g.calm S i1 d b a (zhg i2)) fun _ _ _ q=>zpJ q
structure Dop(G:Genv)(nm:Names)(N:List Str)(o:Option Expr)where
 f:Option Fe
 ok:∀{cl k X E},Gx cl G k X nm N E->PO X o (zvb cl E f)
def zxD(nm:Names)(N:List Str):∀o,Option (Dop G nm N o)
 |none=>some ⟨none,fun _=>zqH⟩|some e=>(opE rc nm N e).map fun a=>⟨some a.f,fun g=>zqG (a.ok g)⟩
structure Px(i:Expr):Type where
 ok:zhF i
noncomputable def ixO:∀i,Option (Px i)|.Name _ _=>some ⟨fun _ _=>rfl⟩|.Constant _ _ _=>some ⟨fun _ _=>rfl⟩|.BinOp _ _ _ _=>some ⟨fun _ _=>rfl⟩|.Subscript _ _ _=>some ⟨fun _ _=>rfl⟩|.Call _ _ _ _=>some ⟨fun _ _=>rfl⟩|.UnaryOp _ _ _=>some ⟨fun _ _=>rfl⟩|_=>none
def zza(nm:Names)(N:List Str)(a:Expr)(pos:Pos):∀i,Option (Dn G nm N (.Subscript a i pos))
 |.Slice lo hi none _=>(opE rc nm N a).bind fun fa=>(zxD rc nm N lo).bind fun l=>(zxD rc nm N hi).bind fun u=>zkf (eSl fa.f l.f u.f) rfl (fun _ _=>rfl) fun g=>zvS (fa.ok g) (l.ok g) (u.ok g)|i=>(ixO i).bind fun h=>(opE rc nm N a).bind fun fa=>(opE rc nm N i).bind fun fi=>zkf (zag ixD fa.f fi.f) rfl (fun _ _=>rfl) fun g=>zvU (zwx g.kk) (fa.ok g) (fi.ok g) h.ok
def zz6(nm:Names)(N:List Str)(b:Expr)(pos:Pos):∀i,Option (Dn G nm N (.Subscript b i pos)):=match b with
 |.Attribute (.Name x px) f _=>fun i=>match i with
  |.Name y _=>gd (G.ob.df f&&G.ob.fk G.ob.cur f) fun a=>(slO G nm N y).bind fun s=>(rc nm N (.Name x px)).bind fun fo=>zkf (zkO G.ob.cur f fo.f s.i) rfl (fun _ _=>rfl) fun g=>by
   rw[yac]at a;obtain⟨s1,s2,s3,s4⟩:=s.ok g;exact zqt s1 s2 s3 s4 (g.un (by decide)) g.same (g.gok.fk _ _ a.2) (fo.ok g).2.1 rfl (fun _ _=>rfl)
  |_=>none
 |_=>fun _=>none
def zrE:Rec G:=fun nm N e=>match e with
 |.Constant c _ _=>(match c with
  |.int i=>zkf (zaf (.int i)) rfl (fun _ _=>rfl) fun _=>zlr ztC fun w=>.int _|.bool b=>zkf (zaf (.bl b)) rfl (fun _ _=>rfl) fun _=>zlr zqR fun w=>.bl _|.none=>zkf (zaf .non) rfl (fun _ _=>rfl) fun _=>zlr ztA fun w=>.non|.str x=>zkf (zaf (.str x)) rfl (fun _ _=>rfl) fun _=>zlr ztw fun w=>.str _|_=>none)
 |.Name x _=>(match slO G nm N x with
  |some s=>zkf (zac s.i) rfl (fun _ _=>rfl) fun g=>(s.v g).1|none=>gd (zbo nm x) fun k=>(match l:G.con x with
   |some d=>zkf (zaf d) rfl (fun _ _=>rfl) fun g=>by
    obtain⟨v,u,m,r,sh⟩:=g.gok.con x d l;exact zlr (zl1 (g.glob k).1 m r (g.glob k).2.1) sh
   |none=>none))
 |.Tuple es _ _=>(shL rc nm N es).bind fun a=>zkf (zcU a.fs) rfl (fun _ _=>rfl) fun g=>zsS (a.ok g)|.List es _=>(shL rc nm N es).bind fun a=>zwd (zez a.fs) rfl (fun _ _=>rfl) fun g=>zsW (a.ok g)|.BinOp a op b _=>(zAf op).bind fun h=>(opE rc nm N a).bind fun fa=>(opE rc nm N b).bind fun fb=>zkf (zag h.1 fa.f fb.f) rfl (fun _ _=>rfl) fun g=>zs1 h.2 (fa.ok g) (fb.ok g)|.UnaryOp op a _=>(match op with
  |.Not=>gd (zcX a) fun ht=>(rc nm N a).map fun fa=>⟨false,eUn zev fa.f,rfl,fun g=>⟨nofun,zsT (fa.ok g).2.1,fun _=>zsw ((fa.ok g).2.2 ht)⟩⟩|.USub=>(opE rc nm N a).bind fun fa=>zkf (eUn ziW fa.f) rfl (fun _ _=>rfl) fun g=>zvR zse (fa.ok g)|_=>none)
 |.BoolOp op es _=>(zuV rc nm N op es).map fun b=>⟨false,b.f,rfl,fun g=>⟨nofun,(b.ok g).1,fun _=>(b.ok g).2.pt⟩⟩|.Compare a ops bs p=>(zzr rc nm N a p ops bs).or (zwK rc nm N a p ops bs)|.IfExp c a b _=>gd (zcX c) fun ht=>(rc nm N c).bind fun fc=>(rc nm N a).bind fun fa=>(rc nm N b).map fun fb=>⟨false,eIf fc.f fa.f fb.f,rfl,fun g=>⟨nofun,zvV ((fc.ok g).2.2 ht) (fa.ok g).2.1 (fb.ok g).2.1,nofun⟩⟩|.Subscript a i pos=>(zz6 rc nm N a pos i).or (zza rc nm N a pos i)|.Attribute (.Name x p) f _=>gd (G.ob.fk G.ob.cur f) fun hf=>gd (!G.ob.df f) fun _=>(rc nm N (.Name x p)).bind fun fo=>zkf (zdT G.ob.cur f fo.f) rfl (fun _ _=>rfl) fun g=>zsY (g.gok.fk _ _ hf) g.kk (fo.ok g).2.1 rfl|.Call f args j cp=>zwI rc nm N args cp f j|.ListComp elt [h] scope _=>(zuM rc nm N elt h scope).bind fun c=>zwd c.f rfl (fun _ _=>rfl) fun g=>c.n g|.Dict [some (.Name x _)] [.Constant (.bool true) _ _] _=>(slO G nm N x).bind fun s=>zwd (zg0 s.i) rfl (fun _ _=>rfl) fun g=>by
  obtain⟨s1,s2,s3,s4⟩:=s.ok g;exact zny (g.un (by decide)) g.same s1 s2 s3 s4
 |_=>none
end
noncomputable def zys(G:Genv):Nat->Rec G
 |0=>fun _ _ _=>none|n+1=>zrE (zys G n)
noncomputable def znd(X:Cx)(E:St->XK):Prop:=∀(C:Addr) (pins:Z3) (σ:St) (H:Hp) (s:Shared) (e:Addr) (h':Heap) (vs:List Value),Inv X pins σ H s->Heap.MadeExcOf s.heap h' e (.ref C) vs->E σ (.ref C) none H->X.xe (.ref e) {s with heap:=h'}
noncomputable def zp2(C:Addr)(E:St->XK)(t:TA):TS:=fun _ σ H=>t σ H fun vs H1=>vs.length<=sizeLine/\E σ (.ref C) none H1
theorem zlK(U:znd X E)(hc:X.calm=true)(hg:Gl X x)(hm:X.mg x=some (.ref C))
  (z:PySem.W.excIn X.K C bmV "ValueError.__new__"=true) (ha:PA X (e::es) t)
  (he:starEach (e::es) X.env=(false,eval e X.env)::starEach es X.env) (ae:(backTo cpos (starEach es X.env)).any (·.1)=false) (J:(x==("__debug__":Str))=false):
  PS X (.Raise (some (.Call (.Name x np) (e::es) [] cpos)) none pos) (zp2 C E t):=by
 intro pins s σ H D I h;obtain⟨bm,N,nm,f,bs,hd,sn,sub,ab,col,dd,p,c1,o,n,m,mN,l,k,j,c⟩:=zi3 I.mod.kin z
 refine wpAny_Raise_call_subU (C:=C) (nm:=nm) (q:=f) (N:=N) (bs:=bs) (bm:=bm) (hdct:=hd) (sn:=sn) (sub:=sub) (ab:=ab) (col:=col) (dd:=dd) (k0:=p) (k1:=c1) (k2:=o) (k3:=n) (k5:=m)
  ycg (by decide +kernel) ycg (mN:=mN) (c.hasType ycg.hasBase) (I.ok.hd hc) (by rw[he];show(false||(backTo cpos (starEach es X.env)).any (·.1))=false;rw[ae];rfl) j (zfm I hg hm ⟨rfl,?_⟩ J)
 have go:=ha cpos pins s σ H _ I h;rw[he]at go ⊢;exact Calls.evalArgs_plain (thn go fun us s2 ⟨vs,H2,b,d,i,g⟩=>⟨rfl,by rw[<-d.length];exact i,b.bk _ _ l,k.keeps b.bk,c.keeps b.bk,fun h' a mk=>U C pins σ H2 s2 a h' us b mk g⟩)
def sRz(c:Str)(fs:List Fe):Fs:=fun ρ S=>match zao fs ρ S with|.ok ds S'=>if small ds.length then .ex c ρ S' else .bad|.exc x S'=>.ex x ρ S'|.bad=>.bad
noncomputable def zpf(X:Cx)(pins:Z3)(E:St->XK):Cx:={X with pn:=X.pn++pins,xe:=fun e s'=>∃σ H1 s1,Inv X pins σ H1 s1/\CXE X.prog X.w X.stack H1 s1 (E σ) e s'}
section
variable{X:Cx}{pins:Z3}{σ:St}{H:Hp}{s:Shared}{E:St->XK}
def ztP(ok:X.Ok):(zpf X pins E).Ok:=
 ⟨ok.mod,ok.kind,ok.glob,ok.blt,ok.above,ok.inj,ok.has,ok.cab,ok.hd,ok.frames,ok.stk,ok.exf,ok.bs,ok.bsz,ok.noex,ok.exfs,ok.funs,ok.frf⟩
def zol(ok:(zpf X pins E).Ok):X.Ok:=
 ⟨ok.mod,ok.kind,ok.glob,ok.blt,ok.above,ok.inj,ok.has,ok.cab,ok.hd,ok.frames,ok.stk,ok.exf,ok.bs,ok.bsz,ok.noex,ok.exfs,ok.funs,ok.frf⟩
def zrp(I:Inv X pins σ H s):Inv (zpf X pins E) [] σ H s:=
 ⟨ztP I.ok,I.os,I.bare,I.base,I.loc,I.cell,I.free,I.freeC,fun p a=>I.pin p (by simpa[zpf]using a),I.hok,I.len⟩
def zd0(I:Inv (zpf X pins E) J σ H s):Inv X pins σ H s:=
 ⟨zol I.ok,I.os,I.bare,I.base,I.loc,I.cell,I.free,I.freeC,fun p a=>I.pin p (ybq _ a),I.hok,I.len⟩
def znr(h:SP (zpf X pins E) [] J f s):SP X pins J f s:=by
 cases f with
 |next=>obtain⟨a,H',I,q⟩:=h;exact⟨a,H',zd0 I,q⟩|brk=>obtain⟨a,H',I,q⟩:=h;exact⟨a,H',zd0 I,q⟩|cont=>obtain⟨a,H',I,q⟩:=h;exact⟨a,H',zd0 I,q⟩|ret u=>obtain⟨v,a,H',I,r,q⟩:=h;exact⟨v,a,H',zd0 I,r,q⟩
end
noncomputable def zvE(K:PySem.W.Frag)(C:Addr)(i:Nat)(th:TS)(I:Ends):St->XK:=fun σ cls _ H'=>∃b,cls=.ref b/\zo9 K b C/\∀a ob,H' a=none->ob.cls=.ref b->th (I.goes i) (σ.set i (some (.ref a))) (upd H' a (.frz ob (.own a)))
def zqE{X:Cx}{body:List Stmt}{b0:Stmt}{J:List Stmt}{c n:Str}{C:Addr}{i:Nat}{bD:List Value}{iD:String}{tb:(St->XK)->TS}{th:TS}{np U pos:Pos}(hs:X.stack=X.env::X.outer)(hf:X.env.frame=some X.env.locals)(hN:X.N.Nodup)(hi:X.N[i]?=some n)
  (hk:X.env.scope.names.lookup n=some .local) (hg:Gl X c) (hm:X.mg c=some (.ref C)) (z:PySem.W.excIn X.K C bD iD=true) (hb:bD.contains (.type "BaseException")=true) (h1:∀pins E,PSs (zpf X pins E) body (tb E)) (h2:∀a,PSs (X.inH a) (b0::J) th) (a3:(c==("__debug__":Str))=false):
  PS X (.Try body [.ExceptHandler (some (.Name c np)) (some n) (b0::J) U] [] [] pos) (fun De σ H=>tb (zvE X.K C i th De) De σ H):=by
 intro pins s σ H D I h
 have l:X.A.frames=some (X.env::X.outer):=by rw[<-hs];exact I.ok.frames
 refine wpAny_Try_except (ybr (h1 pins (zvE X.K C i th D) [] s σ H D (zrp I) h) (fun f s1 q=>?_) fun e s1 q=>?_)
 ·have g:=znr q
  cases f with
  |next=>exact ycy g|ret v=>exact g|brk=>exact g|cont=>exact g
 ·obtain⟨y,H1,s2,x,a,cls,a0,H',B,rfl,fl,c1,u,t,os,bare,un,hok,C',rfl,⟨⟨Z,T,F⟩,up⟩,q⟩:=q;have d:=fl;rw[hs]at d;refine wpAny_looks_onW l hf d fun h4 m r=>?_
  refine wpAny_landsW m fun Y b p=>?_
  rw[<-hs]at b;obtain⟨w,O,k,j,_,_⟩:=zg2 (s':=s1) x b (r.trans p) c1 u t os bare un hok;refine wpAny_handleBy_cons (codeAny_handlers_test ?_) (by intro q;cases q);refine zfm (w.inH a) hg hm ?_ a3;refine zhm w.kIn F z j k hb up ?_;refine codeAny_handlers_suite_as ?_;refine lands_againW b fun V o G=>?_
  obtain⟨_,ob,M,S,P,R⟩:=zg2 (s':=s1) x o ((r.trans p).trans G) c1 u t os bare un hok;refine zdt (v:=.ref a) R hN hi (.inl hk) rfl (fun s7 Q=>?_) (.inr hk);exact ybr (h2 a pins s7 _ _ (D.goes i) (Q.inH a) (q a ob P M)) (fun f s8 L=>zqg I.ok hN hi hk L) fun _ _ z=>z.elim
noncomputable def zs4(und:Str->Str->Bool)(C:Str)(i j:Nat)(fb:Fs):Fs:=fun ρ S=>match fb ρ S with
 |.ex c a S'=>if und c C&&decide (i<a.length)then .nx ((a.set j (~~~.exc c)).set i none) S' else .bad
 |o=>o
def Rel.clear(R:Rel cl B σ w ρ S)(i:Nat):Rel cl B (σ.set i none) w (ρ.set i none) S where
 wd:=R.wd
 len:=by rw[yaD,yaD];exact R.len
 slots:=fun j o e a=>by
  by_cases b:i=j
  ·subst b
   have c:i<ρ.length:=by
    have:=(yaj.mp a).1;rwa[yaD]at this
   rw[yaw c]at a;cases a
  ·rw[yaJ b]at a ⊢;exact R.slots j o e a
section
variable{X:Cx}{cl:Cf}{E:St->XK}{own:Bool}
def znm{K:PySem.W.Frag}{und:Str->Str->Bool}{C:Str}{i j:Nat}{fb:Fs}(I:i≠j)(U:∀c,und c C=true->zo9 K (cl c) (cl C)){J:Ends}{σ:St}{H:Hp}(q:tS cl E own (zs4 und C i j fb) J σ H):
  tS cl (zvE K (cl C) i (zp4 (zvF i) (zkF j)) J) own fb J σ H:=by
 obtain⟨B,w,ρ,S,rfl,R,q⟩:=q;refine⟨B,w,ρ,S,rfl,R,?_⟩;unfold zs4 at q;have p:ρ.length=σ.length:=R.len.symm
 cases hf:fb ρ S with
 |nx f S'=>rwa[hf]at q|bk f S'=>rwa[hf]at q|ct f S'=>rwa[hf]at q|rt d S'=>rwa[hf]at q|bad=>rwa[hf]at q|ex c f S'=>
  rw[hf]at q;dsimp only at q
  cases h:und c C&&decide (i<f.length)with
  |false=>rw[h,if_neg (by decide)]at q;exact q.elim
  |true=>
   rw[h,if_pos rfl]at q;rw[yac]at h;intro b w' m o;refine⟨cl c,rfl,U c h.1,fun a ob n k=>?_⟩;have g:=zaF (w:=w') n (.frz ob (.own a));have sh:Shd cl (w'.add a (.frz ob (.own a))) (.ref a) (.exc c):=.exc ziE zfD k
   have l:i<b.length:=by rw[m.len];exact yah h.2
   refine⟨.ref a,yaw l,?_⟩;have R2:=((m.grow g).put (i:=j) sh).clear i;refine q _ (w'.add a (.frz ob (.own a))) ?_ (o.trans g.fut)
   have e:((b.set i (some (V.ref a))).set j (some (.ref a))).set i none=(b.set j (some (V.ref a))).set i none:=by
    rw[List.set_comm _ _ I,ycw]
   show Rel cl B (((b.set i (some (V.ref a))).set j (some (.ref a))).set i none) _ _ _;rw[e];exact R2
end
noncomputable def zmA:Expr->Bool|.ListComp _ _ _ _=>true|.SetComp _ _ _ _=>true|.DictComp _ _ _ _ _=>true|_=>false
def zg5(h:zmA e=false):swapsWith e t l env=pure false:=by
 cases e<;>first|rfl|cases h
structure Gd(cl:Cf)(G:Genv)(k:Nat)(X:Cx)(nm:Names)(N:List Str)(E:St->XK)(full:Bool):Prop where
 gx:Gx cl G k X nm N E
 kind:X.env.scope.kind=.function
 sc:X.env.scope.names=nm
 own:full=true->PassesOwn (model X.prog X.w) X.A X.env X.xe
 raises:full=true->znd X E
 stk:X.stack=X.env::X.outer
 frm:X.env.frame=some X.env.locals
def zdz:Nat->Names->List Str->Expr->List Nat
 |0,_,_,_=>[]|n+1,nm,N,e=>
  let rc:=zdz n nm N
  let op:=fun(e:Expr)=>match e with|.Name _ _=>[]|e=>rc e
  match e with
  |.Name x _=>(zjr nm N x).toList|.Tuple es _ _=>es.flatMap rc|.List es _=>es.flatMap rc|.BinOp a _ b _=>op a++op b|.UnaryOp _ a _=>rc a|.BoolOp _ es _=>es.flatMap rc|.Compare a _ bs _=>op a++bs.flatMap op|.IfExp c a b _=>rc c++rc a++rc b|.Subscript a (.Slice lo hi _ _) _=>op a++lo.toList.flatMap op++hi.toList.flatMap op|.Subscript a i _=>op a++op i|.Call (.Name f _) args [] _=>if(zuX f).isSome||decide (f="isinstance")then args.flatMap op else args.flatMap rc
  |.Call (.Attribute o _ _) args [] _=>op o++args.flatMap rc|.Dict _ _ _=>[]|.Attribute o _ _=>op o|.ListComp _ [g] scope _=>rc g.iter++(zbw scope.names N).map (·.2)|_=>[]
def zkp(t:Tg)(f:Fe):Fs:=fun ρ S=>match f ρ S with
 |.ok d S'=>(match t.put ρ d with|some a=>.nx a S'|none=>.bad)
 |.exc c S'=>.ex c ρ S'|.bad=>.bad
noncomputable def zog(nm:Names)(x y:Str)(px py:Pos)(a b:Expr):Bool:=
 decide (nm.lookup x=some .local)&&decide (nm.lookup y=some .local)&&decide (px.line=py.line)&&!decide (x=y)&&zbV a&&zbV b&&!([a,b].all (foldedForSure 8))&&!([a,b].all (constantsAlone 8))
def zqK(n:Nat)(own:Bool)(nm:Names)(N:List Str):Stmt->List Nat
 |.Assign [_] e _=>zdz n nm N e|.Expr (.Call (.Attribute _ _ _) args [] _) _=>args.flatMap (zdz n nm N)|.Expr e _=>zdz n nm N e|.Return (some (.Name x p)) _=>if own then[]else zdz n nm N (.Name x p)
 |.Return (some e) _=>zdz n nm N e|.If c _ _ _=>zdz n nm N c|.For _ it _ _ _=>zdz n nm N it|.While c _ _ _=>zdz n nm N c|_=>[]
structure Ds(G:Genv)(nm:Names)(N:List Str)(own full:Bool)(st:Stmt)where
 f:Fs
 ok:∀{cl k X E},Gd cl G k X nm N E full->PS X st (tS cl E own f)
structure Dss(G:Genv)(nm:Names)(N:List Str)(own full:Bool)(b:List Stmt)where
 f:Fs
 ok:∀{cl k X E},Gd cl G k X nm N E full->PSs X b (tS cl E own f)
noncomputable def zuA:Expr->Bool|.Tuple _ _ _=>true|_=>false
section
variable{cl:Cf}{G:Genv}{k:Nat}{X:Cx}{nm:Names}{N:List Str}{E:St->XK}{own full:Bool}
def zna(q:tS cl E own (zkp t f) I σ H):zp4 (tE cl E f) (tG cl n t) I σ H:=by
 obtain⟨B,w,ρ,S,rfl,R,q⟩:=q;refine⟨B,w,ρ,S,rfl,R,?_⟩;unfold zkp at q
 cases hf:f ρ S with
 |bad=>rwa[hf]at q|exc c S1=>rw[hf]at q;exact fun w' g h=>q σ w' g h|ok d S1=>
  rw[hf]at q;intro v w' g h h';dsimp only at q
  cases e:t.put ρ d with
  |none=>rw[e]at q;exact q.elim|some b=>rw[e]at q;exact⟨B,w',ρ,S1,d,b,rfl,g,h',e,fun a _ _ R2=>q a w' R2 h⟩
def ztF(J:X.env.scope.kind=.function)(hs:X.env.scope.names=nm)(h:zog nm x y px py a b=true):
  swappedStores [.Tuple [.Name x px,.Name y py] kt pt] (.Tuple [a,b] k2 I) X.env=pure (some [x,y]):=by
 unfold zog at h;simp only[yac,ybh,yaQ,ybD]at h;obtain⟨⟨⟨⟨⟨⟨⟨h1,h2⟩,l⟩,h4⟩,f⟩,d⟩,k⟩,j⟩:=h
 have i:X.env.blockKind=.function:=by unfold Env.blockKind;rw[J];rfl
 have k1:X.env.kindOf x=some .local:=by unfold Env.kindOf;rw[hs];exact h1
 have c:X.env.kindOf y=some .local:=by unfold Env.kindOf;rw[hs];exact h2
 have st:([a,b].any fun|.Starred ..=>true|_=>false)=false:=by
  rw[List.any_eq_false];intro e he
  have g:zbV e=true:=by
   rcases yat.mp he with z|z
   ·rw[z];exact f
   ·rw[yaB.mp z];exact d
  cases e<;>first|(cases g;done)|(intro z;cases z)
 have m:[x,y].eraseDups.length=2:=by
  have:(y==x)=false:=by rw[ya5];exact fun z=>h4 z.symm
  simp[List.eraseDups_cons,this]
 unfold swappedStores;simp only[i,st];simp[k1,c,l,k,j,m,show(Expr.Name x px).pos=px from rfl,show(Expr.Name y py).pos=py from rfl];intro z;exfalso
 rcases z with z|z
 ·cases a<;>first|(cases f;done)|cases z
 ·cases b<;>first|(cases d;done)|cases z
def zsq:swapsWithSole [.Subscript a i p] e l env=pure false:=by cases e<;>rfl
def zsu:swappedStores [.Subscript a i p] e env=pure none:=by cases e<;>rfl
def zsp:swapsWithSole [.Tuple es kk p] e l env=pure false:=by cases e<;>rfl
def zst(h:zuA e=false):swappedStores [.Tuple es kk p] e env=pure none:=by cases e<;>first|rfl|cases h
def zpi:swapsWith e (some (.Attribute o f p)) l env=pure false:=by cases e<;>rfl
def zoZ(g:Gd cl G k X nm N E full)(i:Ti G nm N N.length x)(c:Dc G nm N elt I scope):
  PS X (.Assign [.Name x px] (.ListComp elt [I] scope p) pos) (tS cl E own (zaK i.i true c.f)):=by
 obtain⟨a1,a2,j,h,d⟩:=i.ok g.gx;obtain⟨b,a⟩:∃b,swapsWith (.ListComp elt [I] scope p) (some (.Name x px)) pos.line X.env=pure b:=⟨_,rfl⟩
 cases b with
 |false=>exact zlk a2 j h (c.n g.gx) a d|true=>
  obtain⟨it,t,c',s,e,r,S,i1,i2,o,m,l⟩:=c.ok g.gx;rw[e];rw[r]at a ⊢;refine PS.imp (znT g.gx.calm S a2 j h i1 o m l a d (zhg i2)) ?_;intro u σ H q;exact zpJ (zu0 q)
end
section
variable{G:Genv}(rc:Rec G){nm:Names}{N:List Str}{own full:Bool}
def zyt(nm:Names)(N:List Str)(x:Str)(px pos:Pos)(e:Expr):Option (Ds G nm N own full (.Assign [.Name x px] e pos)):=gd (!zmA e) fun c=>(tgI G nm N N.length x).bind fun i=>(rc nm N e).map fun a=>⟨zaK i.i a.o a.f,fun g=>by
   obtain⟨a1,a2,j,h,d⟩:=i.ok g.gx;have b:=a.ok g.gx
   cases k:a.o with
   |false=>exact zsH a2 j h b.2.1 (zg5 ((yaQ _).mp c)) d|true=>exact zlk a2 j h (b.1 k) (zg5 ((yaQ _).mp c)) d⟩
def zAh(nm:Names)(N:List Str)(x:Str)(px pos:Pos):∀e,Option (Ds G nm N own full (.Assign [.Name x px] e pos))
 |.ListComp elt [b] scope p=>(tgI G nm N N.length x).bind fun i=>(zuM rc nm N elt b scope).map fun c=>⟨zaK i.i true c.f,fun g=>zoZ g i c⟩|.Call (.Attribute (.Name y py) m ap) [] [] cp=>if hm:m="pop"then gd (ap.endLine==cp.line) fun a=>(tgI G nm N N.length x).bind fun i=>(slO G nm N y).map fun s=>⟨zrT i.i s.i,fun g=>by
   subst hm;obtain⟨a1,a2,j,h,d⟩:=i.ok g.gx;obtain⟨s1,s2,s3,s4⟩:=s.ok g.gx
   exact zsA a2 j h d s1 s2 s3 s4 a⟩
  else zyt rc nm N x px pos (.Call (.Attribute (.Name y py) m ap) [] [] cp)
 |e=>zyt rc nm N x px pos e
def zwW(nm:Names)(N:List Str)(es:List Expr)(kt:Nat)(pt pos:Pos)(e:Expr)(sw:∀{cl k X E},Gd cl G k X nm N E full->swappedStores [.Tuple es kt pt] e X.env=pure none):Option (Ds G nm N own full (.Assign [.Tuple es kt pt] e pos)):=(tgG G nm N N.length (.Tuple es kt pt)).bind fun t=>(rc nm N e).map fun a=>⟨zkp t.t a.f,fun g=>PS.imp (zlM (a.ok g.gx).2.1 (t.ok g.gx) zsp (sw g) rfl) fun _ _ _ q=>zna q⟩
noncomputable def zsk(h:(o=true->PE X e (tN cl E f))/\PE X e (tE cl E f)):PE X e (tO cl E o f):=by
 cases o with
 |false=>exact h.2|true=>exact h.1 rfl
def zzp(nm:Names)(N:List Str)(kt k2:Nat)(pt p2 pos:Pos):∀es vs,Option (Ds G nm N own full (.Assign [.Tuple es kt pt] (.Tuple vs k2 p2) pos))
 |[.Name x px,.Name y py],[a,b]=>gd (zog nm x y px py a b) fun d=>(tgI G nm N N.length x).bind fun i=>(tgI G nm N N.length y).bind fun j=>gd (!decide (i.i=j.i)) fun c=>(rc nm N a).bind fun fa=>(rc nm N b).map fun fb=>⟨zs5 i.i j.i fa.o fa.f fb.o fb.f,fun g=>by
   have c:=of_decide_eq_false ((yaQ _).mp c);obtain⟨_,a2,k,_,_⟩:=i.ok g.gx;obtain⟨_,_,h,_,_⟩:=j.ok g.gx;have P:=fa.ok g.gx;have Q:=fb.ok g.gx
   have e:nm.lookup x=some .local/\nm.lookup y=some .local:=by
    unfold zog at d;simp only[yac,ybh]at d;exact⟨d.1.1.1.1.1.1.1,d.1.1.1.1.1.1.2⟩
   rw[<-g.sc]at e
   exact PS.imp (zth g.gx.calm a2 k h c e.1 e.2 (zbH (zsk ⟨P.1,P.2.1⟩) (zbH (zsk ⟨Q.1,Q.2.1⟩) zdp (zbi (zan fb.q))) (zbi (zan fa.q))) (ztF g.kind g.sc d) rfl) fun _ _ _ q=>zof q⟩
 |_,_=>none
noncomputable def zAg(nm:Names)(N:List Str)(es:List Expr)(kt:Nat)(pt pos:Pos):∀e,Option (Ds G nm N own full (.Assign [.Tuple es kt pt] e pos))
 |.Tuple vs k2 p2=>zzp rc nm N kt k2 pt p2 pos es vs|e=>gd (!zuA e) fun h=>zwW rc nm N es kt pt pos e fun _=>zst ((yaQ _).mp h)
def zAj(nm:Names)(N:List Str)(x f:Str)(p ap pos:Pos):∀e,Option (Ds G nm N own full (.Assign [.Attribute (.Name x p) f ap] e pos))
 |.List [] _=>gd (G.ob.fk G.ob.cur f&&zub f) fun hf=>(slO G nm N x).map fun s=>⟨zhX G.ob.cur f s.i,fun g=>by
   obtain⟨s1,s2,s3,s4⟩:=s.ok g.gx
   exact zqb s1 s2 s3 s4 g.gx.same (g.gx.gok.fk _ _ ((yac _ _).mp hf).1) rfl⟩
 |.Dict [] [] _=>gd (G.ob.df f&&G.ob.fk G.ob.cur f) fun hf=>(slO G nm N x).map fun s=>⟨zko G.ob.cur f s.i,fun g=>by
   obtain⟨s1,s2,s3,s4⟩:=s.ok g.gx
   exact zqc s1 s2 s3 s4 g.gx.same (g.gx.gok.fk _ _ ((yac _ _).mp hf).2) zpi⟩
 |e=>gd (!G.ob.df f&&G.ob.fk G.ob.cur f) fun hf=>(rc nm N (.Name x p)).bind fun fo=>(rc nm N e).map fun a=>⟨zeQ G.ob.cur f fo.f a.f,fun g=>zqa g.gx.same (g.gx.gok.fk _ _ ((yac _ _).mp hf).2) (fo.ok g.gx).2.1 (a.ok g.gx).2.1 zpi⟩
noncomputable def zzn(nm:Names)(N:List Str)(I pos:Pos):∀b J e,Option (Ds G nm N own full (.Assign [.Subscript b J I] e pos))
 |.Name x _,.Name y _,.Constant (.bool true) _ _=>gd (G.ds x) fun _=>(slO G nm N x).bind fun s=>(slO G nm N y).map fun l=>⟨zkm s.i l.i,fun g=>by
   obtain⟨s1,s2,s3,s4⟩:=s.ok g.gx;obtain⟨t1,c,t3,a⟩:=l.ok g.gx
   exact zp8 (g.gx.un (by decide)) g.gx.same s1 s2 s3 s4 t1 c t3 a⟩
 |_,_,_=>none
noncomputable def zxB(nm:Names)(N:List Str)(e:Expr)(I pos:Pos):∀b J,Option (Ds G nm N own full (.Assign [.Subscript b J I] e pos))
 |.Attribute (.Name x px) f _,.Name y _=>gd (G.ob.df f&&G.ob.fk G.ob.cur f) fun c=>(slO G nm N y).bind fun s=>(rc nm N (.Name x px)).bind fun fo=>(rc nm N e).map fun a=>⟨zkn G.ob.cur f fo.f s.i a.f,fun g=>by
   rw[yac]at c;obtain⟨s1,s2,s3,s4⟩:=s.ok g.gx
   exact zp9 s1 s2 s3 s4 (g.gx.un (by decide)) g.gx.same (g.gx.gok.fk _ _ c.2) (fo.ok g.gx).2.1 rfl (a.ok g.gx).2.1 zsq zsu (fun _=>rfl)⟩
 |_,_=>none
def zAi(nm:Names)(N:List Str)(e:Expr)(pos:Pos):∀tg,Option (Ds G nm N own full (.Assign [tg] e pos))
 |.Name x px=>zAh rc nm N x px pos e|.Tuple es kt pt=>zAg rc nm N es kt pt pos e|.Attribute (.Name x p) f ap=>zAj rc nm N x f p ap pos e|.Subscript b i a=>(zzn nm N a pos b i e).or (zxB rc nm N e a pos b i)|_=>none
def zyr(nm:Names)(N:List Str)(pos:Pos)(e:Expr):Option (Ds G nm N own full (.Expr e pos)):=gd (!zmA e) fun b=>(rc nm N e).map fun a=>⟨zlu a.f,fun g=>zsE (a.ok g.gx).2.1 (zg5 ((yaQ _).mp b))⟩
noncomputable def zAl(nm:Names)(N:List Str)(m:Str)(ap cp pos:Pos)(a:Expr):∀o,Option (Ds G nm N own full (.Expr (.Call (.Attribute o m ap) [a] [] cp) pos))
 |.Name x _=>gd (decide (m="append")&&(ap.endLine==cp.line)) fun b=>(slO G nm N x).bind fun s=>(rc nm N a).map fun fa=>⟨zhJ s.i fa.f,fun g=>by
   rw[yac]at b;obtain rfl:=yah b.1;obtain⟨s1,s2,s3,s4⟩:=s.ok g.gx
   exact zsI s1 s2 s3 s4 (fa.ok g.gx).2.1 (zan fa.q) b.2⟩
 |_=>none
noncomputable def zwF(nm:Names)(N:List Str)(m:Str)(ap cp pos:Pos)(a:Expr):∀o,Option (Ds G nm N own full (.Expr (.Call (.Attribute o m ap) [a] [] cp) pos))
 |.Name x _=>gd (decide (m="extend")&&(ap.endLine==cp.line)) fun b=>(slO G nm N x).bind fun s=>(opE rc nm N a).map fun fa=>⟨zrU s.i fa.f,fun g=>by
   rw[yac]at b;obtain rfl:=yah b.1;obtain⟨s1,s2,s3,s4⟩:=s.ok g.gx
   exact zsD s1 s2 s3 s4 (fa.ok g.gx) (zan fa.q) b.2⟩
 |_=>none
noncomputable def zAk(nm:Names)(N:List Str)(m:Str)(ap cp pos:Pos):∀o a,Option (Ds G nm N own full (.Expr (.Call (.Attribute o m ap) [a] [] cp) pos))
 |.Name x _,.Call (.Attribute (.Name y _) e ap2) [] [] cp2=>gd (decide (m="append")&&decide (e="pop")&&(ap.endLine==cp.line)&&(ap2.endLine==cp2.line)) fun b=>(slO G nm N x).bind fun s=>(slO G nm N y).map fun l=>⟨ziK s.i l.i,fun g=>by
   simp only[yac,ybh]at b;obtain⟨⟨⟨rfl,rfl⟩,h1⟩,h2⟩:=b;obtain⟨s1,s2,s3,s4⟩:=s.ok g.gx;obtain⟨t1,d,t3,c⟩:=l.ok g.gx
   exact zqe s1 s2 s3 s4 t1 d t3 c h1 h2⟩
 |_,_=>none
def zAm(nm:Names)(N:List Str)(m:Str)(ap cp pos:Pos)(o a:Expr):Option (Ds G nm N own full (.Expr (.Call (.Attribute o m ap) [a] [] cp) pos)):=gd (decide (m="append")&&(ap.endLine==cp.line)) fun b=>(faG G nm N o).bind fun t=>gd (zub t.f) fun _=>(quG G nm N a).map fun q=>⟨zgB G.ob.cur t.f t.i q.q,fun g=>by
   rw[yac]at b;obtain rfl:=yah b.1;obtain⟨i,f,ok⟩:=t;obtain⟨x,p,c,rfl,s1,s2,s3,s4,fk⟩:=ok g.gx
   exact zqf s1 s2 s3 s4 g.gx.same fk rfl (q.ok g.gx) rfl q.pl b.2⟩
def zwG(nm:Names)(N:List Str)(pos:Pos):∀e,Option (Ds G nm N own full (.Expr e pos))
 |.Call (.Attribute o m ap) [a] [] cp=>(zAk nm N m ap cp pos o a).or ((zAm nm N m ap cp pos o a).or ((zAl rc nm N m ap cp pos a o).or ((zwF rc nm N m ap cp pos a o).or (zyr rc nm N pos _))))|e=>zyr rc nm N pos e
def zze(nm:Names)(N:List Str)(e:Expr)(pos:Pos):∀own,Option (Ds G nm N own full (.Return (some e) pos))
 |true=>(match e with
  |.Name x _=>(slO G nm N x).map fun s=>⟨zhc s.i,fun g=>by
    obtain⟨s1,s2,s3,s4⟩:=s.ok g.gx
    exact zp6 s1 s2 s3 s4⟩
  |e=>(rc nm N e).bind fun a=>gd a.o fun b=>some ⟨zaP a.f,fun g=>zp7 ((a.ok g.gx).1 b)⟩)
 |false=>(rc nm N e).map fun a=>⟨zaP a.f,fun g=>zsz (a.ok g.gx).2.1⟩
def zvX(hf:full=true){cl k X E}(g:Gd cl G k X nm N E full)(h:zbo nm c=true)(J:G.exc c=true)(I:args.isEmpty=false)(a:DL G nm N args):PS X (.Raise (some (.Call (.Name c p) args [] cp)) none pos) (tS cl E own (sRz c a.fs)):=by
 cases args with
 |nil=>cases I|cons e es=>
 obtain⟨m,z⟩:=g.gx.gok.exc c J;have a2:=a.q;rw[ybM,yac]at a2;refine PS.imp (zlK (g.raises hf) g.gx.calm (g.gx.glob h).1 m z (a.ok g.gx) (zbi a2.1) (zbU a2.2) (g.gx.glob h).2.1) ?_;rintro j σ H ⟨B,w,ρ,S,rfl,R,q⟩;refine⟨B,w,ρ,S,rfl,R,?_⟩;unfold sRz at q
 cases d:zao a.fs ρ S with
 |bad=>rwa[d]at q|exc c S1=>rw[d]at q;exact fun w' f i=>q σ w' f i|ok ds S1=>
  rw[d]at q;dsimp only at q
  cases b:small ds.length with
  |false=>rw[b,if_neg (by decide)]at q;exact q.elim
  |true=>
   rw[b,if_pos rfl]at q;exact fun vs w' f i sh=>⟨by rw[sh.length];exact zbp b,q σ w' f i⟩
def zsg{cl k X E}(g:Gd cl G k X nm N E full)(pins:Z3)(J:St->XK):Gd cl G k (zpf X pins J) nm N J false where
 gx:=⟨g.gx.gok,g.gx.room,g.gx.calm,fun a σ H s e s' I q=>⟨σ,H,s,zd0 I,q⟩,g.gx.eN,g.gx.kk,g.gx.pp,g.gx.ww,g.gx.nd,g.gx.vis,g.gx.fnx,fun x h=>g.gx.fnc x h⟩
 kind:=g.kind
 sc:=g.sc
 own:=nofun
 raises:=nofun
 stk:=g.stk
 frm:=g.frm
noncomputable def zyY(rs:∀b,Option (Dss G nm N own false b))(body:List Stmt)(pos:Pos):∀hs,Option (Ds G nm N own full (.Try body hs [] [] pos))
 |[.ExceptHandler (some (.Name C _)) (some n) [.Assign [.Name m _] (.Name u _) _] _]=>gd (zbo nm C&&G.exc C&&decide (n=u)&&decide (nm.lookup n=some .local)&&zic n) fun p=>match hi:idx N n with
  |some i=>(tgI G nm N N.length m).bind fun j=>gd (!decide (i=j.i)) fun d=>(rs body).map fun fb=>⟨zs4 G.und C i j.i fb.f,fun g=>by
   simp only[yac,ybh]at p;obtain⟨⟨⟨⟨c1,y⟩,rfl⟩,x⟩,w⟩:=p;have d:=of_decide_eq_false ((yaQ _).mp d);obtain⟨v,r⟩:=g.gx.gok.exc C y;obtain⟨t,s,_⟩:=zf8 w;have e:_=some NameKind.local:=(congrArg (List.lookup n) g.sc).trans x;have h:_=some n:=(congrArg (fun l:List Str=>l[i]?) g.gx.eN).trans (zgk hi);obtain⟨_,a2,B,A,z⟩:=j.ok g.gx;refine PS.imp (zqE (tb:=fun o=>tS _ o own fb.f) g.stk g.frm (by rw[g.gx.eN];exact g.gx.nd) h e (g.gx.glob c1).1 v r (by decide +kernel) (fun pins o=>fb.ok (zsg g pins o)) (fun a=>zqC (zjC a2 B A (zbg h (.inl e) t s) rfl z)) (g.gx.glob c1).2.1) ?_;intro D σ H q
   exact znm d (fun c k=>g.gx.gok.und c C k) q⟩
  |none=>none
 |_=>none
def stG(rs:∀fl b,Option (Dss G nm N own fl b)):∀full st,Option (Ds G nm N own full st)
 |_,.Assign [tg] e p=>zAi rc nm N e p tg|_,.Expr e p=>zwG rc nm N p e|_,.Return (some e) p=>zze rc nm N e p own|fl,.If c a b _=>gd (zcX c) fun ht=>(rc nm N c).bind fun fc=>(rs fl a).bind fun fa=>(rs fl b).map fun fb=>⟨sIf fc.f fa.f fb.f,fun g=>zvP ((fc.ok g.gx).2.2 ht) (fa.ok g) (fb.ok g)⟩|true,.For tg it body [] _=>(zuz rc nm N tg it).bind fun i=>(tgG G nm N N.length tg).bind fun t=>(rs true body).map fun b=>⟨zfT t.t i.f b.f,fun g=>zsC (g.own rfl) g.gx.calm (i.ok g.gx) (t.ok g.gx) (b.ok g) (zhg i.q)⟩|_,.Break _=>some ⟨sBk,fun _=>zsF⟩|_,.AugAssign (.Name x _) op e _=>(match h:zwQ op with
  |none=>none|some j=>(tgI G nm N N.length x).bind fun i=>(rc nm N e).map fun a=>⟨zrV i.i j a.f,fun g=>by
   obtain⟨a1,a2,m,l,k⟩:=i.ok g.gx
   exact zsG h a2 m l (a.ok g.gx).2.1 k⟩)
 |true,.While c body [] _=>gd (zcX c) fun ht=>(rc nm N c).bind fun fc=>(rs true body).map fun b=>⟨zjv 100000 fc.f b.f,fun g=>znq 100000 (g.own rfl) ((fc.ok g.gx).2.2 ht) (b.ok g)⟩|true,.Raise (some (.Call (.Name c _) args [] _)) none _=>gd (zbo nm c&&G.exc c&&!args.isEmpty) fun d=>(shL rc nm N args).map fun a=>⟨sRz c a.fs,fun g=>by
   simp only[yac,yaQ]at d
   exact zvX rfl g d.1.1 d.1.2 d.2 a⟩
 |_,.Try body hs [] [] p=>zyY (rs false) body p hs|_,_=>none
end
def blk(ds:∀st,Option (Ds G nm N own full st)):∀b,Option (Dss G nm N own full b)
 |[]=>some ⟨sNx,fun _=>zsB⟩|s::r=>(ds s).bind fun f=>(blk ds r).map fun h=>⟨zad f.f h.f,fun g=>zqd (f.ok g) (h.ok g)⟩
def zuJ(G:Genv)(nm:Names)(N:List Str)(own:Bool):Nat->∀full st,Option (Ds G nm N own full st)
 |0=>fun _ _=>none|n+1=>fun full st=>(stG (zys G n) (fun fl=>blk (zuJ G nm N own n fl)) full st).map fun a=>⟨sFz (zqK n own nm N st) a.f,fun g=>zvQ _ (a.ok g)⟩
noncomputable def za2(I:Nat)(own:Bool)(fs:Fs)(ds:List D)(S:Sto):Out D:=match fs (ds.map (fun d=>~~~d)++List.replicate (I-ds.length) none) S with
 |.rt d S'=>.ok d S'|.nx _ S'=>if own then .bad else .ok .non S'
 |.ex c _ S'=>.exc c S'|_=>.bad
def zai(G:Genv)(own:Bool)(N:List Str)(st:Stmt):Option Fs:=(blk (zuJ G (zaa st).names N own 40 true) (zby st)).map Dss.f
def zpH{cl k X E}{G:Genv}{own:Bool}{N:List Str}{st:Stmt}{f:Fs}(h:zai G own N st=some f)(g:Gd cl G k X (zaa st).names N E true):PSs X (zby st) (tS cl E own f):=by
 obtain⟨a,_,rfl⟩:=Option.map_eq_some_iff.mp h;exact a.ok g
section
variable{cl:Cf}
theorem zm4(I:zhI cl n own (za2 N.length own fs) vs H Q X):tS cl (fun _=>X) own fs {nx:=fun _ H'=>Q .non H',rt:=Q} (L2.zgz N vs) H:=by
 obtain⟨p,B,w,ds,k,rfl,W,sh,q⟩:=I;have g:ds.length=vs.length:=sh.length.symm;refine⟨B,w,ds.map (fun d=>~~~d)++List.replicate (N.length-ds.length) none,k,rfl,⟨W,?_,fun i o d hi=>?_⟩,?_⟩
 ·unfold L2.zgz;rw[yak,yak,yad,yad,yaM,yaM,g]
 ·by_cases f:i<ds.length
  ·rw[yaZ (by rw[yad];exact f),yao]at hi
   cases a:ds[i]? with
   |none=>rw[a]at hi;cases hi|some d'=>
    rw[a]at hi;cases hi;obtain⟨v,m,l⟩:=sh.at a;refine⟨v,?_,l⟩;unfold L2.zgz;rw[yaZ (by rw[yad];omega),yao,m];rfl
  ·rw[yaG (by rw[yad];omega),ybW]at hi
   split at hi<;>cases hi
 ·unfold za2 at q
  cases hf:fs (ds.map (fun d=>~~~d)++List.replicate (N.length-ds.length) none) k with
  |bad=>rwa[hf]at q|bk _ _=>rw[hf]at q;exact q.elim|ct _ _=>rw[hf]at q;exact q.elim|rt d S'=>rwa[hf]at q|ex c e S'=>rw[hf]at q;exact fun b w' h j=>q w' h.wd j|nx e S'=>
   rw[hf]at q;dsimp only at q
   cases own with
   |true=>exact q.elim|false=>exact fun b w' h j=>q .non w' h.wd j .non
end
theorem zmL{P:Program}{wo:PySem.World}{K:PySem.W.Frag}{mg:Z6}{base:Heap}{cl:Cf}{G:Genv}{k:Nat}{x qual:Str}{st:Stmt}{f:Addr}{fd:FuncData}{N ps:List Str}{own:Bool}{fs:Fs}(F:Fun K x qual st f fd)(S:FnScope N ps (zaa st))(hG:GOk cl G P wo K mg base k)
  (J:K=cl.K) (hP:P=cl.P) (U:wo=cl.wo) (hd:zai G own N st=some fs):FnOk P wo K mg base (CXE P wo) (k+1) f fd ps (zhI cl ps.length own (za2 N.length own fs)):=by
 obtain⟨l,od,kV,doc,pm,an,j,ct,c,rfl,d,b⟩:=F.ex;refine zuF d b S (fun vs H Q E h=>h.1) fun A outer s H vs Q E i a=>⟨tS cl (fun _=>E) own fs,zpH hd (k:=k) ⟨⟨hG,i,rfl,fun pins σ H1 s1 e s' I q=>ztE pins σ H1 s1 e s' I q,rfl,J,hP,U,S.nd,fun x g h=>⟨g,h,.inl rfl⟩,(fun x h=>h),(fun x h=>rfl)⟩,S.kind,rfl,fun _=>PassesOwn.leaving,fun _ C pins σ H1 s1 e h' vs I mk q=>zlH C pins σ H1 s1 e h' vs I mk q,rfl,rfl⟩,zm4 a⟩
structure FunD(K:PySem.W.Frag)(x qual:Str)(st:Stmt)(f:Addr)(fd:FuncData)(items:Array Value):Prop where
 ex:∃(oc:Value) (od:Option Addr) (T:Addr) (o:Obj) (n:Nat) (kV doc pm:Value) (an:Option Addr) (cdv ct:Value) (osl:Array (Option Value)),
  fd=PySem.W.fnOf x qual (zbY st) (zby st) (zaa st) (.ref T) kV doc pm an cdv ct/\K.lookup f=some ⟨oc,od,.func fd,osl⟩/\PySem.W.codeIn K cdv qual=true/\K.lookup T=some o/\o.data=.seq items n
def zuE{P:Program}{wo:PySem.World}{K:PySem.W.Frag}{mg:Z6}{base:Heap}{cl:Cf}{G:Genv}{k:Nat}{x qual:Str}{st:Stmt}{f:Addr}{fd:FuncData}{N ps:List Str}{own:Bool}{fs:Fs}{items:Array Value}(F:FunD K x qual st f fd items)(S:FnScope N ps (zaa st))(hG:GOk cl G P wo K mg base k)
  (J:K=cl.K) (hP:P=cl.P) (U:wo=cl.wo) (hd:zai G own N st=some fs):FnOk P wo K mg base (CXE P wo) (k+1) f fd ps (zhI cl ps.length own (za2 N.length own fs)):=by
 obtain⟨l,od,T,o,n,kV,doc,pm,an,j,ct,c,rfl,d,b,_⟩:=F.ex;refine zuF d b S (fun vs H Q E h=>h.1) fun A outer s H vs Q E i a=>⟨tS cl (fun _=>E) own fs,zpH hd (k:=k) ⟨⟨hG,i,rfl,fun pins σ H1 s1 e s' I q=>ztE pins σ H1 s1 e s' I q,rfl,J,hP,U,S.nd,fun x g h=>⟨g,h,.inl rfl⟩,(fun x h=>h),(fun x h=>rfl)⟩,S.kind,rfl,fun _=>PassesOwn.leaving,fun _ C pins σ H1 s1 e h' vs I mk q=>zlH C pins σ H1 s1 e h' vs I mk q,rfl,rfl⟩,zm4 a⟩
noncomputable def inC(j:Nat):Stmt->Stmt|.ClassDef _ _ _ b ..=>b.getD j (.Pass ⟨0,0,0,0⟩)|s=>s
structure Tab where
 con:List (Str×D)
 blt:List Str
 exc:List Str
 und:List (Str×Str)
 rz:List Str
 fk:List (Str×Str)
 df:List Str
 ds:List Str
noncomputable def zvi(rz exc:List Str)(c C:Str):Option Bool:=if rz.contains c then(if C="ValueError"then some true else if exc.contains C then some (decide (C=c)||decide (C="FloorError"))else none)else none
noncomputable def zva(l:List (Str×Str))(c C:Str):Bool:=l.contains (c,C)
structure Fn3 where
 cur:Str
 fs:List (Str×FnI)
 ms:List (Str×Str×FnI)
 ks:List (Str×List D×FnI)
def Gn(T:Tab)(F:Fn3):Genv:=⟨fun x=>T.con.lookup x,fun x=>F.fs.lookup x,fun x=>T.blt.contains x,fun x=>T.exc.contains x,zva T.und,zvi T.rz T.exc,⟨F.cur,zva T.fk,fun f=>T.df.contains f,fun m=>F.ms.lookup m,fun c=>F.ks.lookup c⟩,fun x=>T.ds.contains x⟩
noncomputable def Fn3.fn(F:Fn3)(x:Str)(fi:FnI):Fn3:=⟨F.cur,(x,fi)::F.fs,F.ms,F.ks⟩
noncomputable def Fn3.mt(F:Fn3)(m c:Str)(fi:FnI):Fn3:=⟨F.cur,F.fs,(m,c,fi)::F.ms,F.ks⟩
noncomputable def Fn3.cls(F:Fn3)(c:Str)(I:List D)(fi:FnI):Fn3:=⟨F.cur,F.fs,F.ms,(c,I,fi)::F.ks⟩
noncomputable def Fn3.at(F:Fn3)(c:Str):Fn3:=⟨c,F.fs,F.ms,F.ks⟩
section
variable{cl:Cf}{T:Tab}{P:Program}{wo:PySem.World}{K:PySem.W.Frag}{mg:Z6}{base:Heap}{k:Nat}{fs:Fn3}
def zc2{α:Type}{a:α}{l:List (Str×α)}{b:α}(h:((x,a)::l).lookup y=some b):(y=x/\b=a)\/l.lookup y=some b:=by
 rw[yaz]at h
 cases e:y==x with
 |true=>rw[e]at h;cases h;exact .inl ⟨eq_of_beq e,rfl⟩|false=>rw[e]at h;exact .inr h
def zey{α:Type}{p:α->Prop}:∀x∈([]:List α),p x:=fun _ h=>nomatch h
def zae{α:Type}{p:α->Prop}{a:α}{l:List α}(h:p a)(t:∀x∈l,p x):∀x∈a::l,p x:=fun x b=>(yat.mp b).elim (fun e=>e ▸ h) (t x)
theorem zig{α:Type}{a:α}:∀{l:List (Str×α)},l.lookup x=some a->(x,a)∈l
 |[],h=>by cases h
 |(y,b)::l,h=>by
  rcases zc2 h with⟨rfl,rfl⟩|h
  ·exact yay
  ·exact yas _ (zig h)
noncomputable def zu5(K:PySem.W.Frag)(cl:Cf)(exc:List Str)(c:Str):Prop:=PySem.W.ExcCls K (cl c)/\PySem.W.kitOne K (.ref (cl c)) (.type "ValueError")=some true/\∀C∈exc,PySem.W.kitOne K (.ref (cl c)) (.ref (cl C))=some (decide (C=c)||decide (C="FloorError"))
def zz5(J:∀p∈T.con,∃v u,mg p.1=some u/\zbD v u/\∀w,Shd cl w v p.2)(hb:∀x∈T.blt,mg x=none)(he:∀c∈T.exc,mg c=some (.ref (cl c))/\PySem.W.excIn K (cl c) bmV "ValueError.__new__"=true)(hu:∀p∈T.und,L2.zo9 K (cl p.1) (cl p.2))(U:∀c∈T.rz,zu5 K cl T.exc c)(I:∀p∈T.fk,Cls cl.K (cl p.1)/\zdR cl.K (cl p.1) p.2):GOk cl (Gn T ⟨"",[],[],[]⟩) P wo K mg base 0 where
 fk:=fun c f h=>I (c,f) (by simpa using(show T.fk.contains (c,f)=true from h))
 mt:=fun m c fi h=>by cases h
 mks:=fun c i fi h=>by cases h
 con:=fun x d h=>J (x,d) (zig h)
 fn:=fun x fi h=>by cases h
 blt:=fun x h=>hb x (by simpa using(show T.blt.contains x=true from h))
 exc:=fun c h=>he c (by simpa using(show T.exc.contains c=true from h))
 und:=fun c C h=>hu (c,C) (by simpa using(show T.und.contains (c,C)=true from h))
 isx:=fun c C b h=>by
  have h':zvi T.rz T.exc c C=some b:=h;unfold zvi at h';split at h'
  ·rename_i J;obtain⟨x1,g,e⟩:=U c (by simpa using J);refine⟨x1,?_⟩;unfold zuN;split at h'
   ·rename_i a;cases h';rw[if_pos a];exact g
   ·rename_i a;rw[if_neg a];split at h'
    ·rename_i hm;cases h';exact e C (by simpa using hm)
    ·cases h'
  ·cases h'
def GOk.add(g:GOk cl (Gn T fs) P wo K mg base k)(m:mg x=some (.ref f))(kp:PySem.W.keepIn K (.ref f)=true)(b:zcW K fd ps [])(F:FnOk P wo K mg base (CXE P wo) (k+1) f fd ps (zhI cl fi.ar fi.own fi.run)):
  GOk cl (Gn T (fs.fn x fi)) P wo K mg base (k+1)where
 con:=g.con
 fn:=fun y n h=>by
  rcases zc2 h with⟨rfl,rfl⟩|h
  ·exact⟨f,fd,ps,m,kp,b,F⟩
  ·obtain⟨e,d,a,h1,h2,i,h4⟩:=g.fn y n h;exact⟨e,d,a,h1,h2,i,h4.mono (ycN _)⟩
 blt:=g.blt
 exc:=g.exc
 und:=g.und
 isx:=g.isx
 fk:=g.fk
 mt:=fun m c fi h=>by
  obtain⟨e,d,a,h1,h2,i,h4⟩:=g.mt m c fi h;exact⟨e,d,a,h1,h2,i,h4.mono (ycN _)⟩
 mks:=fun c j fi h=>by
  obtain⟨e,d,a,dvs,ds,k',l,z⟩:=g.mks c j fi h;exact⟨e,d,a,dvs,ds,k',Nat.le_succ_of_le l,z⟩
theorem GOk.at(g:GOk cl (Gn T fs) P wo K mg base k)(c:Str):GOk cl (Gn T (fs.at c)) P wo K mg base k:=⟨g.con,g.fn,g.blt,g.exc,g.und,g.isx,g.fk,g.mt,g.mks⟩
def GOk.up(g:GOk cl (Gn T fs) P wo K mg base k)(I:k<=k'):GOk cl (Gn T fs) P wo K mg base k' where
 con:=g.con
 fn:=fun y l h=>by
  obtain⟨d,b,a,h1,h2,e,h4⟩:=g.fn y l h;exact⟨d,b,a,h1,h2,e,h4.mono I⟩
 blt:=g.blt
 exc:=g.exc
 und:=g.und
 isx:=g.isx
 fk:=g.fk
 mt:=fun m c fi h=>by
  obtain⟨d,b,a,h1,h2,e,h4⟩:=g.mt m c fi h;exact⟨d,b,a,h1,h2,e,h4.mono I⟩
 mks:=fun c f fi h=>by
  obtain⟨d,b,a,dvs,ds,j,i,z⟩:=g.mks c f fi h;exact⟨d,b,a,dvs,ds,j,yal i I,z⟩
def GOk.addM(g:GOk cl (Gn T fs) P wo K mg base k)(I:Cls K (cl c))(hm:Meth K (cl c) m f)(b:zcW K fd ps [])(F:FnOk P wo K mg base (CXE P wo) k f fd ps (zhI cl fi.ar fi.own fi.run)):
  GOk cl (Gn T (fs.mt m c fi)) P wo K mg base k where
 con:=g.con
 fn:=g.fn
 blt:=g.blt
 exc:=g.exc
 und:=g.und
 isx:=g.isx
 fk:=g.fk
 mt:=fun d c' a h=>by
  rcases zc2 h with⟨rfl,e⟩|h
  ·cases e;exact⟨f,fd,ps,I,hm,b,F⟩
  ·exact g.mt d c' a h
 mks:=g.mks
def GOk.addK(g:GOk cl (Gn T fs) P wo K mg base k)(hk:k'+1<=k)(hm:mg c=some (.ref (cl c)))(M:Mk K (cl c) f)(b0:zcW K fd ps [])(bD:zcW K fd ps ds)(J:Vals dvs ds)(U:∀w,Shds cl w dvs I)(F:FnOk P wo K mg base (CXE P wo) k' f fd ps (zhI cl fi.ar false fi.run)):
  GOk cl (Gn T (fs.cls c I fi)) P wo K mg base k where
 con:=g.con
 fn:=g.fn
 blt:=g.blt
 exc:=g.exc
 und:=g.und
 isx:=g.isx
 fk:=g.fk
 mt:=g.mt
 mks:=fun c' a b h=>by
  rcases zc2 h with⟨rfl,e⟩|h
  ·cases e;exact⟨f,fd,ps,dvs,ds,k',hk,hm,M,b0,bD,J,U,F⟩
  ·exact g.mks c' a b h
noncomputable def znJ(I:Nat)(own:Bool)(body:(List D->Sto->Out D)->Fs):Nat->List D->Sto->Out D
 |0=>fun _ _=>.bad|n+1=>za2 I own (body (znJ I own body n))
def zpj(h:zhI cl n own (fun _ _=>.bad) vs H Q E):False:=by
 obtain⟨_,B,w,ds,S,_,_,_,q⟩:=h;exact q
theorem GOk.addR{m c qual:Str}{st:Stmt}{f:Addr}{fd:FuncData}{N ps:List Str}{own:Bool}{body:(List D->Sto->Out D)->Fs}(g:GOk cl (Gn T fs) P wo K mg base k)(U:Fun K m qual st f fd)(S:FnScope N ps (zaa st))(hK:K=cl.K)(hP:P=cl.P)(J:wo=cl.wo)(I:Cls K (cl c))(hm:Meth K (cl c) m f)(b:zcW K fd ps [])
  (hd:∀r,zai (Gn T ((fs.mt m c ⟨ps.length,own,r⟩).at c)) own N st=some (body r)):∀n,GOk cl (Gn T (fs.mt m c ⟨ps.length,own,znJ N.length own body n⟩)) P wo K mg base (k+n)
 |0=>g.addM I hm b ⟨fun vs H Q E h=>(zpj h).elim,fun A outer s H args us vs Q E d he e a h=>(zpj h).elim⟩|n+1=>(g.up (yb0 k (n+1))).addM I hm b (zmL U S ((g.addR U S hK hP J I hm b hd n).at c) hK hP J (hd _))
def zmZ(x:PySem.W.excIn K C b i=true):(PySem.W.clsIn K C).isSome=true/\PySem.W.typeIn K (.ref C)=some (.type "type"):=by
 unfold PySem.W.excIn at x;split at x
 ·rename_i d cd a e;refine⟨?_,?_⟩
  ·unfold PySem.W.clsIn;rw[e];rfl
  ·show(K.lookup C).map (·.cls)=_;rw[e];rfl
 ·cases x
def zg6(U:K.lookup C=some ⟨el,ed,.cls I,es⟩)(J:I.mro=.ref C::m):PySem.W.subIn K (.ref C) v=some ((Value.ref C::m).contains v):=by
 show PySem.W.mroIn K C v=_;unfold PySem.W.mroIn PySem.W.clsIn;rw[U];show(if I.mro.isEmpty then none else some (I.mro.contains v))=_;rw[J];rfl
def zlE(h:a≠b):(Value.ref a==Value.ref b)=false:=Bool.eq_false_iff.mpr fun z=>h (Value.ref.inj (yb1.mp z))
theorem zq7(J:K.lookup C=some ⟨el,ed,.cls U,es⟩)(I:U.mro=.ref C::.ref F::bmV):PySem.W.kitOne K (.ref C) (.type "ValueError")=some true:=by
 have h1:PySem.W.kitMeta "ValueError"=true:=by decide +kernel
 have h0:(Value.ref C==Value.type "ValueError")=false:=by with_unfolding_all rfl
 unfold PySem.W.kitOne PySem.W.kitCls;simp only[h0,h1,zg6 J I];simp
def zq8{C D F:Addr}{el:Value}{ed:Option Addr}{I:ClassData}{es:Array (Option Value)}{b:List Value}{i:String}(U:K.lookup C=some ⟨el,ed,.cls I,es⟩)(J:I.mro=.ref C::.ref F::bmV)(x:PySem.W.excIn K D b i=true):PySem.W.kitOne K (.ref C) (.ref D)=some (decide (D=C)||decide (D=F)):=by
 by_cases h:D=C
 ·subst h;unfold PySem.W.kitOne;rw[if_pos (ybt _)];simp
 ·obtain⟨h1,h2⟩:=zmZ x;have h0:=zlE (fun z=>h z.symm:C≠D);unfold PySem.W.kitOne PySem.W.kitCls;simp only[h0,h1,h2,zg6 U J];have c:(Value.ref D==Value.ref C)=false:=zlE h;simp only[ycD,c,Bool.false_or,yaK,yby,ybt,Bool.and_self,ycM,h,decide_false]
  by_cases h4:D=F
  ·subst h4;simp
  ·have a:(Value.ref D==Value.ref F)=false:=zlE h4;simp only[a,Bool.false_or,h4,decide_false,Option.some.injEq]
   with_unfolding_all rfl
def zhl{c:ClassData}{C F:Addr}{m:List Value}(h:c.mro=.ref C::.ref F::m):c.mro.contains (.ref F)=true:=by
 rw[h,ycD,ycD,ybt,Bool.true_or,Bool.or_true]
def zpN{L:List (Str×Addr)}:∀{C:Str},C∈L.map (·.1)->∃a,L.lookup C=some a/\(C,a)∈L:=by
 induction L with
 |nil=>intro C h;simp at h|cons p L b=>
  intro C h;rw[yaz]
  cases e:C==p.1 with
  |true=>exact⟨p.2,rfl,by rw[eq_of_beq e];exact yay⟩
  |false=>
   have:C∈L.map (·.1):=by
    rw[yau,yat]at h
    rcases h with h|h
    ·rw[h]at e;simp at e
    ·exact h
   obtain⟨a,h1,h2⟩:=b this;exact⟨a,h1,yas _ h2⟩
theorem zln:∀{L:List (Str×Addr)},(L.map (·.2)).Nodup->∀{C c:Str}{a:Addr},(C,a)∈L->(c,a)∈L->C=c
 |[],_,_,_,_,h,_=>by simp at h
 |p::L,nd,C,c,a,h,h'=>by
  rw[yau,ybw]at nd;rw[yat]at h h'
  rcases h with h|h<;>rcases h' with h'|h'
  ·rw[<-h']at h;exact(Prod.mk.inj h).1
  ·exact absurd (yar.mpr ⟨_,h',by rw[<-h]⟩) nd.1
  ·exact absurd (yar.mpr ⟨_,h,by rw[<-h']⟩) nd.1
  ·exact zln nd.2 h h'
def zu1{L:List (Str×Addr)}(nd:(L.map (·.2)).Nodup){C c:Str}(J:C∈L.map (·.1))(I:c∈L.map (·.1)):(L.lookup C).getD 0=(L.lookup c).getD 0↔C=c:=by
 obtain⟨a,h1,h2⟩:=zpN J;obtain⟨b,d,h4⟩:=zpN I;rw[h1,d];constructor
 ·intro e;have:a=b:=e;subst this;exact zln nd h2 h4
 ·rintro rfl;rw[h1]at d;cases d;rfl
def zjU
  (I:K.lookup (cl c)=some ⟨el,ed,.cls ec,es⟩) (J:ec.mro=.ref (cl c)::.ref F::bmV) (hF:cl "FloorError"=F)
  (ga:PySem.W.findIn K (.ref (cl c)) "__getattribute__"=some (some (.builtin "BaseException.__getattribute__"))) (gt:PySem.W.findIn K (.ref (cl c)) "__getattr__"=some none) (cc:PySem.W.findIn K (.ref (cl c)) "__class__"=some (some (.builtin "object.__class__")))
  (U:∀C∈exc,PySem.W.excIn K (cl C) bmV "ValueError.__new__"=true) (hi:∀C∈exc,(cl C=cl c↔C=c)/\(cl C=cl "FloorError" ↔ C="FloorError")):zu5 K cl exc c:=by
 refine⟨⟨ga,gt,cc,?_,?_,_,_,_,_,I⟩,zq7 I J,fun C a=>?_⟩
 ·rw[zg6 I J];simp
 ·rw[zg6 I J];simp
 ·rw[zq8 I J (U C a)];obtain⟨i1,i2⟩:=hi C a;rw[hF]at i2;simp only[i1,i2]
end
noncomputable def zns(K:PySem.W.Frag):Sp:=fun vs H Q _=>∃(a:Addr) (ns:List Int),vs=[.ref a]/\ns.length<=63/\zvo H/\SqL K H a (ns.map V.int)/\∀H',Q (.bl true) H'
def zuc{cl:Cf}{run:List D->Sto->Out D}(I:∀l:List Int,l.length<=63->∃S,run [.scr l] []=.ok (.bl true) S):∀vs H Q E,zns cl.K vs H Q E->zhI cl 1 false run vs H Q E:=by
 rintro vs H Q E ⟨a,ns,rfl,c,d,b,q⟩;refine⟨rfl,⟨fun _=>none,fun _=>none⟩,⟨H,fun _=>none,[]⟩,[.scr ns],[],rfl,⟨(fun a o h=>by cases h),(fun a r h=>by cases h),rfl,(fun n ob h=>by simp at h)⟩,.cons ?_ .nil,?_⟩
 ·rcases b with(b|⟨o,b⟩)|b
  ·rcases d a with z|⟨o,xs,z⟩
   ·rw[b]at z;cases z
   ·rw[b]at z;cases z
  ·exact .scr b rfl
  ·exact .scrK fun H=>.inr b
 ·obtain⟨S',e⟩:=I ns c;rw[e];intro v w' _ _ r;have r':Shd cl w' v (.bl true):=r;cases r';exact q _
structure FnT(K:PySem.W.Frag)(x q:Str)(st:Stmt)(f:Addr):Prop where
 ex:∃(oc:Value) (od:Option Addr) (kV dc pm:Value) (an:Option Addr) (cd ct:Value) (sl:Array (Option Value)),K.lookup f=some ⟨oc,od,.func (PySem.W.fnOf x q (zbY st) (zby st) (zaa st) .none kV dc pm an cd ct),sl⟩/\PySem.W.codeIn K cd q=true/\PySem.W.keepIn K (.ref f)=true/\PySem.W.isFn K (.ref f)=true
structure GFn(K:PySem.W.Frag)(n x:Str)(st:Stmt):Prop where
 ex:∃f,PySem.W.nsIn K mainGlobals n=some (some (.ref f))/\FnT K x x st f
structure MFn(K:PySem.W.Frag)(C:Addr)(m q:Str)(st:Stmt):Prop where
 ex:∃f,PySem.W.findIn K (.ref C) m=some (some (.ref f))/\FnT K m q st f
noncomputable def BB(x q:Str)(st:Stmt)(ps:List Str):Prop:=∀(kV doc pm:Value) (an:Option Addr) (a ct:Value) (us:List Value),us.length=ps.length->bindArgs (PySem.W.fnOf x q (zbY st) (zby st) (zaa st) .none kV doc pm an a ct) ⟨us,[]⟩=pure (ps.zip us)
def bb0{p:List Value->Prop}(h:p []):∀us:List Value,us.length=0->p us:=fun us e=>by rw[yaV e];exact h
def bbS{n:Nat}{p:List Value->Prop}(h:∀a:Value,∀us:List Value,us.length=n->p (a::us)):∀us:List Value,us.length=n+1->p us:=fun us e=>by
 cases us with
 |nil=>cases e|cons a us=>exact h a us (Nat.succ.inj e)
def bb1{p:List Value->Prop}(h:∀a0:Value,p [a0]):∀us:List Value,us.length=1->p us:=bbS fun a0=>bb0 (h a0)
def bb2{p:List Value->Prop}(h:∀a0 a1:Value,p [a0,a1]):∀us:List Value,us.length=2->p us:=bbS fun a0=>bbS fun a1=>bb0 (h a0 a1)
def bb3{p:List Value->Prop}(h:∀a0 a1 a2:Value,p [a0,a1,a2]):∀us:List Value,us.length=3->p us:=bbS fun a0=>bbS fun a1=>bbS fun a2=>bb0 (h a0 a1 a2)
def bb4{p:List Value->Prop}(h:∀a0 a1 a2 I:Value,p [a0,a1,a2,I]):∀us:List Value,us.length=4->p us:=bbS fun a0=>bbS fun a1=>bbS fun a2=>bbS fun I=>bb0 (h a0 a1 a2 I)
def bb5{p:List Value->Prop}(h:∀a0 a1 a2 J I:Value,p [a0,a1,a2,J,I]):∀us:List Value,us.length=5->p us:=bbS fun a0=>bbS fun a1=>bbS fun a2=>bbS fun J=>bbS fun I=>bb0 (h a0 a1 a2 J I)
def bb6{p:List Value->Prop}(h:∀a0 a1 a2 U J I:Value,p [a0,a1,a2,U,J,I]):∀us:List Value,us.length=6->p us:=bbS fun a0=>bbS fun a1=>bbS fun a2=>bbS fun U=>bbS fun J=>bbS fun I=>bb0 (h a0 a1 a2 U J I)
section
variable{cl:Cf}{T:Tab}{P:Program}{wo:PySem.World}{K:PySem.W.Frag}{mg:Z6}{base:Heap}{k:Nat}{fs:Fn3}
def FnT.un{x q:Str}{st:Stmt}{f:Addr}{ps:List Str}(p:FnT K x q st f)(b:BB x q st ps):∃fd,Fun K x q st f fd/\zcW K fd ps []/\PySem.W.keepIn K (.ref f)=true/\PySem.W.isFn K (.ref f)=true:=by
 obtain⟨d,od,kV,e,pm,an,cd,ct,a,l,c,kp,i⟩:=p.ex;have U:=zpz (st:=st) l c kp;exact⟨_,U,U.binds b,kp,i⟩
def GOk.addG{n x:Str}{st:Stmt}{N ps:List Str}{own:Bool}{f_:Fs}{h:Heap}(g:GOk cl (Gn T fs) P wo K mg base k)(X:K.In h)(G:h.Ns mainGlobals mg)(p:GFn K n x st)(S:FnScope N ps (zaa st))(hK:K=cl.K)(J:P=cl.P)(I:wo=cl.wo)(b:BB x x st ps)(hd:zai (Gn T fs) own N st=some f_):
  GOk cl (Gn T (fs.fn n ⟨ps.length,own,za2 N.length own f_⟩)) P wo K mg base (k+1):=by
 obtain⟨f,a,p⟩:=p.ex;obtain⟨fd,U,B,kp,_⟩:=p.un b;exact GOk.add g (ybc X G a) kp B (zmL U S g hK J I hd)
def GOk.addMG{m c q:Str}{st:Stmt}{N ps:List Str}{own:Bool}{f_:Fs}(g:GOk cl (Gn T fs) P wo K mg base k)(cc:Cls K (cl c))(p:MFn K (cl c) m q st)(S:FnScope N ps (zaa st))(hK:K=cl.K)(J:P=cl.P)(I:wo=cl.wo)(b:BB m q st ps)(hd:zai (Gn T (fs.at c)) own N st=some f_):
  GOk cl (Gn T (fs.mt m c ⟨ps.length,own,za2 N.length own f_⟩)) P wo K mg base (k+1):=by
 obtain⟨f,a,p⟩:=p.ex;obtain⟨fd,U,B,kp,i⟩:=p.un b;exact GOk.addM (g.up (ycN _)) cc ⟨a,i,kp⟩ B (zmL U S (g.at c) hK J I hd)
def GOk.addRG{m c q:Str}{st:Stmt}{N ps:List Str}{own:Bool}{body:(List D->Sto->Out D)->Fs}(g:GOk cl (Gn T fs) P wo K mg base k)(cc:Cls K (cl c))(p:MFn K (cl c) m q st)(S:FnScope N ps (zaa st))(hK:K=cl.K)(J:P=cl.P)(I:wo=cl.wo)(b:BB m q st ps)
  (hd:∀r,zai (Gn T ((fs.mt m c ⟨ps.length,own,r⟩).at c)) own N st=some (body r)) (n:Nat):GOk cl (Gn T (fs.mt m c ⟨ps.length,own,znJ N.length own body n⟩)) P wo K mg base (k+n):=by
 obtain⟨f,a,p⟩:=p.ex;obtain⟨fd,U,B,kp,i⟩:=p.un b;exact GOk.addR g U S hK J I cc ⟨a,i,kp⟩ B hd n
def GOk.addKG{c q:Str}{st:Stmt}{N ps:List Str}{f_:Fs}{h:Heap}(g:GOk cl (Gn T fs) P wo K mg base k)(X:K.In h)(G:h.Ns mainGlobals mg)(J:PySem.W.nsIn K mainGlobals c=some (some (.ref (cl c))))(mk:PySem.W.makesIn K (cl c)=true)(I:PySem.W.keepIn K (.ref (cl c))=true)(p:MFn K (cl c) "__init__" q st)(S:FnScope N ps (zaa st))(hK:K=cl.K)(hP:P=cl.P)(hW:wo=cl.wo)(b:BB "__init__" q st ps)(hd:zai (Gn T (fs.at c)) false N st=some f_):
  GOk cl (Gn T (fs.cls c [] ⟨ps.length,false,za2 N.length false f_⟩)) P wo K mg base (k+2):=by
 obtain⟨f,a,p⟩:=p.ex;obtain⟨fd,U,B,kp,i⟩:=p.un b;exact GOk.addK (k':=k+1) (dvs:=[]) (fi:=⟨ps.length,false,za2 N.length false f_⟩) (g.up (yb0 k 2)) (yai _) (ybc X G J) ⟨mk,a,i,I⟩ B B .nil (fun _=>.nil) (zmL U S (g.at c) hK hP hW hd)
end
open PySem
open L2 hiding D
noncomputable def zcx:Fs:=
  (zad (sFz [] (zaP (zfs (eUn (zeF "tuple") (zah 0)) (zdr leD leD (zah 1) (zay zdB [(zah 0)]) (zah 2)))))
  sNx)
noncomputable def zaA:List S2.D->Sto->Out S2.D:=za2 3 false zcx
noncomputable def zgp:Fs:=
  (zad (sFz [] (zaK 1 false (eIf (zag gtD (zay zdB [(zah 0)]) (zaf (.int 0))) (zay zdB [(zag ixD (zah 0) (zaf (.int 0)))]) (zaf (.int 0)))))
  (zad (sFz [1] (zaP (zcU [(zay zdB [(zah 0)]),(zac 1)])))
  sNx))
noncomputable def zcj:List S2.D->Sto->Out S2.D:=za2 2 false zgp
noncomputable def zcA:Fs:=
  (zad (sFz [3,4] (zhJ 2 (zcU [(zac 3),(zac 4)]))) sNx)
noncomputable def zdM:Fs:=
  (zad (sFz [] (zfT (.one 4) (zeL (zag ixD (zah 1) (zaf (.int 1)))) zcA)) sNx)
noncomputable def zeG:Fs:=
  (zad (sFz [0] (zaK 1 false (eFn zcj [(zac 0)])))
  (zad (sFz [] (zaK 2 true (zez [])))
  (zad (sFz [] (zfT (.one 3) (zeL (zag ixD (zah 1) (zaf (.int 0)))) zdM))
  (zad (sFz [] (zhc 2))
  sNx))))
noncomputable def zaQ:List S2.D->Sto->Out S2.D:=za2 5 true zeG
noncomputable def zdI:Fs:=
  (zad (sFz [1] (zaP (eFn zaA [(zac 1),(zay zdB [(zah 0)]),(zay zdB [(zah 0)])])))
  sNx)
noncomputable def zbO:List S2.D->Sto->Out S2.D:=za2 2 false zdI
noncomputable def ze8:Fs:=
  (zad (sFz [1] (sIf (eUn zev (eFn zaA [(zac 1),(zay zdB [(zah 0)]),(zay zdB [(zah 0)])])) (zad (sFz [] (zaP (zaf (.bl false)))) sNx) sNx))
  (zad (sFz [0,1] (zaP (zay zpM [(zes 2 (.tup [0,1]) (zrX (zac 0) (zac 1)) zhs (eFn zbO [(zac 0),(zac 1)]) [])])))
  sNx))
noncomputable def zdW:List S2.D->Sto->Out S2.D:=za2 2 false ze8
noncomputable def zeH:Fs:=
  (zad (sFz [] (zaP (zag ixD (zag ixD (zah 0) (zag ixD (zah 1) (zaf (.int 0)))) (zag ixD (zah 1) (zaf (.int 1))))))
  sNx)
noncomputable def zak:List S2.D->Sto->Out S2.D:=za2 2 false zeH
noncomputable def zdH:Fs:=
  (zad (sFz [0,0] (zaP (zes 1 (.one 0) (za1 (eFn zaQ [(zac 0)])) (zag zkx (eFn zak [(zac 1),(zac 0)]) (zaf .non)) (zac 0) [0])))
  sNx)
noncomputable def zcu:List S2.D->Sto->Out S2.D:=za2 1 true zdH
noncomputable def zdd:Fs:=
  (zad (sFz [1,1,0] (zaP (zay zpM [(zes 1 (.one 0) (za1 (eFn zcu [(zac 1)])) zhs (zag eqD (eFn zak [(zac 2),(zac 0)]) (eFn zak [(zac 1),(zac 0)])) [1,0])])))
  sNx)
noncomputable def zca:List S2.D->Sto->Out S2.D:=za2 2 false zdd
noncomputable def zcJ:Fs:=
  (zad (sFz [] (sIf (zag ltD (zah 1) (zay zdB [(zah 0)])) (zad (sFz [] (zaP (zag ixD (zah 0) (zah 1)))) sNx) sNx))
  (zad (sFz [] (sIf (zag eqD (zah 0) (zez [])) (zad (sFz [] (zaP (zaf (.int 0)))) sNx) sNx))
  (zad (sFz [] (zaP (zag zb1 (zag zhk (zag ixD (zah 0) (zag zky (zah 1) (zay zdB [(zah 0)]))) (zaf (.int 31))) (zah 1))))
  sNx)))
noncomputable def zb2:List S2.D->Sto->Out S2.D:=za2 2 false zcJ
noncomputable def zeJ:Fs:=
  (zad (sFz [0,1] (zaK 3 false (zag zky (zag zhk (zag zb1 (eFn zb2 [(zac 0),(zac 1)]) (zag zhk (zaf (.int 6151)) (zag zb1 (zah 1) (zaf (.int 1))))) (zaf (.int 40692))) (zaf (.int 2147483399)))))
  (zad (sFz [] (zaP (zag zky (zag zky (zag zb1 (zag zhk (zah 3) (zah 3)) (zag zuI (zah 3) (zaf (.int 31)))) (zaf (.int 2147483629))) (zah 2))))
  sNx))
noncomputable def zau:List S2.D->Sto->Out S2.D:=za2 4 false zeJ
noncomputable def zbB:Fs:=
  (zad (sFz [1,3,5,0] (zaK 6 false (zay zcq [(zes 1 (.one 0) (zeL (zaf (.int 4))) zhs (eFn zau [(zac 4),(zag zb1 (zag zb1 (zag zb1 (zah 1) (zag zhk (zaf (.int 4)) (zah 3))) (zaf (.int 2))) (zah 0)),(zac 2)]) [1,3,5,0])]))) (zad (sFz [0] (sIf (zag eqD (eFn zau [(zac 0),(zag zb1 (zag zb1 (zah 1) (zaf (.int 60))) (zah 5)),(zaf (.int 3))]) (zaf (.int 0))) (zad (sFz [] (zaK 6 false (zcU [(zag ixD (zah 6) (zaf (.int 0))),(zag ixD (zah 6) (zaf (.int 1))),(zag ixD (zah 6) (zaf (.int 0))),(zag ixD (zah 6) (zaf (.int 1)))]))) sNx) sNx)) (zad (sFz [] (sIf (zag zkZ (zah 6) (zah 4)) (zad (sFz [6] (zhJ 4 (zac 6))) sNx) sNx)) sNx)))
noncomputable def zd5:Fs:=
  (zad (sFz [0,1] (zaK 3 false (zag zb1 (zaf (.int 2)) (eFn zau [(zac 0),(zac 1),(zaf (.int 2))]))))
  (zad (sFz [] (zaK 4 true (zez [])))
  (zad (sFz [0,2] (zfT (.one 5) (zeL (zag zb1 (zaf (.int 1)) (eFn zau [(zac 0),(zag zb1 (zah 1) (zaf (.int 1))),(zac 2)]))) zbB))
  (zad (sFz [] (zaP (zay zcq [(zah 4)])))
  sNx))))
noncomputable def zcZ:List S2.D->Sto->Out S2.D:=za2 7 false zd5
noncomputable def zbC:Fs:=
  (zad (sFz [0] (zaK 10 false (eFn zau [(zac 0),(zag zb1 (zag zb1 (zah 1) (zag zhk (zaf (.int 7)) (zah 7))) (zah 9)),(zag zhk (zay zdB [(zah 2)]) (zah 5))]))) (zad (sFz [10] (zhJ 8 (eIf (zag ltD (zah 10) (zay zdB [(zah 2)])) (zac 10) (zaf .non)))) sNx))
noncomputable def zdi:Fs:=
  (zad (sFz [] (zaK 8 true (zez []))) (zad (sFz [4] (zfT (.one 9) (zeL (zac 4)) zbC)) (zad (sFz [] (zhJ 6 (zay zcq [(zah 8)]))) sNx)))
noncomputable def zd7:Fs:=
  (zad (sFz [] (zaK 6 true (zez [])))
  (zad (sFz [3] (zfT (.one 7) (zeL (zac 3)) zdi))
  (zad (sFz [] (zaP (zay zcq [(zah 6)])))
  sNx)))
noncomputable def zc1:List S2.D->Sto->Out S2.D:=za2 11 false zd7
noncomputable def zen:Fs:=
  (zad (sFz [] (zaP (zfs (eUn (zeF "int") (zah 0)) (eUn zev (eUn (zeF "bool") (zah 0))))))
  sNx)
noncomputable def zaV:List S2.D->Sto->Out S2.D:=za2 1 false zen
noncomputable def zcm:Fs:=
  (zad (sFz [1] (zaP (zfs (eFn zaV [(zac 1)]) (zdr leD ltD (zaf (.int 0)) (zah 1) (zay zdB [(zah 0)])))))
  sNx)
noncomputable def zaG:List S2.D->Sto->Out S2.D:=za2 2 false zcm
noncomputable def zeI:Fs:=
  (zad (sFz [1] (sIf (eOr (eUn zev (eFn zaA [(zac 1),(zaf (.int 2)),(zaf (.int 2))])) (eOr (eUn zev (eFn zaV [(zag ixD (zah 1) (zaf (.int 0)))])) (eUn zev (eFn zaV [(zag ixD (zah 1) (zaf (.int 1)))])))) (zad (sFz [] (zaP (zaf (.bl false)))) sNx) sNx))
  (zad (sFz [0] (zaK 2 false (eFn zcj [(zac 0)])))
  (zad (sFz [] (zaP (zfs (zdr leD ltD (zaf (.int 0)) (zag ixD (zah 1) (zaf (.int 0))) (zag ixD (zah 2) (zaf (.int 0)))) (zdr leD ltD (zaf (.int 0)) (zag ixD (zah 1) (zaf (.int 1))) (zag ixD (zah 2) (zaf (.int 1)))))))
  sNx)))
noncomputable def zaI:List S2.D->Sto->Out S2.D:=za2 3 false zeI
noncomputable def zd4:Fs:=
  (zad (sFz [1,2,0,1,2] (sIf (eOr (eUn zev (eFn zaI [(zac 1),(zac 2)])) (eUn zev (eFn zaG [(zac 0),(eFn zak [(zac 1),(zac 2)])]))) (zad (sFz [] (zaP (zaf .non))) sNx) sNx))
  (zad (sFz [1,2] (zaP (zag ixD (zag ixD (zah 0) (eFn zak [(zac 1),(zac 2)])) (zah 3))))
  sNx))
noncomputable def zaW:List S2.D->Sto->Out S2.D:=za2 4 false zd4
noncomputable def zde:Fs:=
  (zad (sFz [] (zaK 3 false (zcU [(zag ixD (zah 2) (zaf (.int 0))),(zag zb1 (zag ixD (zah 2) (zaf (.int 1))) (zaf (.int 1)))])))
  (zad (sFz [0,1,2,0,1,3] (zaP (zcU [(eFn zaW [(zac 0),(zac 1),(zac 2),(zaf (.int 1))]),(eFn zaW [(zac 0),(zac 1),(zac 3),(zaf (.int 3))])])))
  sNx))
noncomputable def zcb:List S2.D->Sto->Out S2.D:=za2 4 false zde
noncomputable def zcI:Fs:=
  (zad (sFz [] (zaK 3 false (zcU [(zag zb1 (zag ixD (zah 2) (zaf (.int 0))) (zaf (.int 1))),(zag ixD (zah 2) (zaf (.int 1)))])))
  (zad (sFz [0,1,2,0,1,3] (zaP (zcU [(eFn zaW [(zac 0),(zac 1),(zac 2),(zaf (.int 2))]),(eFn zaW [(zac 0),(zac 1),(zac 3),(zaf (.int 0))])])))
  sNx))
noncomputable def zbQ:List S2.D->Sto->Out S2.D:=za2 4 false zcI
noncomputable def zfr:Fs:=
  (zad (sFz [] (zaP (zfs (zag zkZ (zaf .non) (zah 0)) (zag neD (zag ixD (zah 0) (zaf (.int 0))) (zag ixD (zah 0) (zaf (.int 1)))))))
  sNx)
noncomputable def zdn:List S2.D->Sto->Out S2.D:=za2 1 false zfr
noncomputable def zeN:Fs:=
  (zad (sFz [0,1,3] (sIf (eFn zdn [(eFn zcb [(zac 0),(zac 1),(zac 3)])]) (zad (sFz [3] (zhJ 2 (zcU [(zac 3),(zaf (.str "east"))]))) sNx) sNx)) (zad (sFz [0,1,3] (sIf (eFn zdn [(eFn zbQ [(zac 0),(zac 1),(zac 3)])]) (zad (sFz [3] (zhJ 2 (zcU [(zac 3),(zaf (.str "south"))]))) sNx) sNx)) sNx))
noncomputable def zgr:Fs:=
  (zad (sFz [] (zaK 2 true (zez [])))
  (zad (sFz [1] (zfT (.one 3) (za1 (eFn zaQ [(zac 1)])) zeN))
  (zad (sFz [] (zhc 2))
  sNx)))
noncomputable def zcE:List S2.D->Sto->Out S2.D:=za2 4 true zgr
noncomputable def zeo:Fs:=
  (zad (sFz [1,1,0] (sIf (eUn zev (zay zpM [(zes 1 (.one 0) (za1 (eFn zaQ [(zac 1)])) zhs (eFn zaG [(zac 2),(eFn zak [(zac 1),(zac 0)])]) [1,0])])) (zad (sFz [] (zaP (zaf (.bl false)))) sNx) sNx))
  (zad (sFz [0,1] (zaP (zag eqD (zay zdB [(eFn zcE [(zac 0),(zac 1)])]) (zaf (.int 0)))))
  sNx))
noncomputable def zdl:List S2.D->Sto->Out S2.D:=za2 2 false zeo
noncomputable def zd6:Fs:=
  (zad (sFz [0,1] (zaP (zag ixD (zez [(zcU [(zaf (.int 1)),(zaf (.int 1))]),(zcU [(zaf (.int 1)),(zaf (.int 2))]),(zcU [(zaf (.int 2)),(zaf (.int 1))]),(zcU [(zaf (.int 2)),(zaf (.int 2))]),(zcU [(zaf (.int 2)),(zaf (.int 2))]),(zcU [(zaf (.int 1)),(zaf (.int 4))]),(zcU [(zaf (.int 2)),(zaf (.int 3))]),(zcU [(zaf (.int 3)),(zaf (.int 2))]),(zcU [(zaf (.int 3)),(zaf (.int 1))]),(zcU [(zaf (.int 2)),(zaf (.int 3))])]) (eFn zau [(zac 0),(zac 1),(zaf (.int 10))]))))
  sNx)
noncomputable def zc0:List S2.D->Sto->Out S2.D:=za2 2 false zd6
noncomputable def zdj:Fs:=
  (zad (sFz [] (zrU 3 (zay zmp [(zah 4)]))) sNx)
noncomputable def zci:Fs:=
  (zad (sFz [10] (zaK 12 false (zag inD (zah 7) (zcU [(zaf .non),(zac 10)])))) (zad (sFz [] (sIf (zfs (zag gtD (zag zky (zah 6) (zah 2)) (zaf (.int 0))) (zag neD (zag ixD (zag ixD (zah 0) (zag ixD (zah 9) (eUn ziW (zaf (.int 1))))) (zaf (.int 1))) (zag ixD (zah 11) (zaf (.int 3))))) (zad (sFz [] (zaK 12 false (zaf (.bl false)))) sNx) sNx)) (zad (sFz [] (sIf (zfs (zag geD (zah 6) (zah 2)) (zag neD (zag ixD (zag ixD (zah 0) (zag ixD (zah 9) (zag zlj (zah 6) (zah 2)))) (zaf (.int 2))) (zag ixD (zah 11) (zaf (.int 0))))) (zad (sFz [] (zaK 12 false (zaf (.bl false)))) sNx) sNx)) (zad (sFz [12] (sIf (zac 12) (zad (sFz [10] (zhJ 8 (zag zb1 (zah 9) (zcU [(zac 10)])))) sNx) sNx)) sNx))))
noncomputable def zch:Fs:=
  (zad (sFz [0] (zfT (.tup [10,11]) (zkP (zac 0)) zci)) sNx)
noncomputable def zcg:Fs:=
  (zad (sFz [] (zaK 8 true (zez []))) (zad (sFz [5] (zfT (.one 9) (za1 (zac 5)) zch)) (zad (sFz [8] (zaK 5 false (zac 8))) sNx)))
noncomputable def zd8:Fs:=
  (zad (sFz [] (zaK 2 false (zay zdB [(zag ixD (zah 1) (zaf (.int 0)))])))
  (zad (sFz [] (zaK 3 true (zez [])))
  (zad (sFz [1] (zfT (.one 4) (za1 (zac 1)) zdj))
  (zad (sFz [] (zaK 5 true (zez [(zcU [])])))
  (zad (sFz [3] (zfT (.tup [6,7]) (zkP (zac 3)) zcg))
  (zad (sFz [5] (zaP (zac 5)))
  sNx))))))
noncomputable def zcl:List S2.D->Sto->Out S2.D:=za2 13 false zd8
noncomputable def zcK:Fs:=
  (zad (sFz [1,1,0] (zaP (zay zcq [(zes 1 (.one 0) (zkN (zaf (.int 0)) (zay zdB [(zah 0)]) (zac 1)) zhs (zay zcq [(eSl (zah 2) (some (zah 0)) (some (zag zb1 (zah 0) (zah 1))))]) [1,0])])))
  sNx)
noncomputable def zbR:List S2.D->Sto->Out S2.D:=za2 2 false zcK
noncomputable def zi2:Fs:=
  (zad (sFz [] (zaP (eOr (zag zmx (zah 0) (zaf .non)) (zag eqD (zah 0) (zah 1)))))
  sNx)
noncomputable def zf2:List S2.D->Sto->Out S2.D:=za2 2 false zi2
noncomputable def zcN:Fs:=
  (zad (sFz [1] (zeQ "Ways" "tiles" (zac 0) (zac 1)))
  (zad (sFz [2,2] (zeQ "Ways" "ground" (zac 0) (zes 1 (.one 0) (za1 (eFn zaQ [(zac 2)])) zhs (eFn zak [(zac 1),(zac 0)]) [2])))
  (zad (sFz [2] (zeQ "Ways" "size" (zac 0) (eFn zcj [(zac 2)])))
  (zad (sFz [3] (zeQ "Ways" "is_round" (zac 0) (zac 3)))
  (zad (sFz [] (zko "Ways" "known" 0))
  sNx)))))
noncomputable def za0:List S2.D->Sto->Out S2.D:=za2 4 false zcN
noncomputable def zb6:Fs:=
  (zad (sFz [] (zaP (zag zhk (zcU [(zaf .non)]) (zag zb1 (zag ixD (zdT "Ways" "size" (zac 0)) (zaf (.int 1))) (zaf (.int 2))))))
  sNx)
noncomputable def zaY:List S2.D->Sto->Out S2.D:=za2 1 false zb6
noncomputable def zcM:Fs:=
  (zad (sFz [] (zaP (zag eqD (zag zky (zag zb1 (zah 1) (zaf (.int 1))) (zag ixD (zdT "Ways" "size" (zac 0)) (zaf (.int 1)))) (zaf (.int 0)))))
  sNx)
noncomputable def zaZ:List S2.D->Sto->Out S2.D:=za2 2 false zcM
noncomputable def za6:Fs:=
  (zad (sFz [] (zaP (eIf (zag eqD (zag zky (zah 1) (zag ixD (zdT "Ways" "size" (zac 0)) (zaf (.int 1)))) (zaf (.int 0))) (zag ixD (zah 3) (zaf (.int 3))) (zag ixD (zah 2) (eUn ziW (zaf (.int 1)))))))
  sNx)
noncomputable def zax:List S2.D->Sto->Out S2.D:=za2 4 false za6
noncomputable def zbX:Fs:=
  (zad (sFz [1] (zaK 4 false (zaJ "Ways" "ends_row" zaZ (zac 0) [(zac 1)])))
  (zad (sFz [] (zaK 5 false (zag geD (zag zb1 (zah 1) (zag ixD (zdT "Ways" "size" (zac 0)) (zaf (.int 1)))) (zay zdB [(zdT "Ways" "ground" (zac 0))]))))
  (zad (sFz [4] (zaK 6 false (eIf (zac 4) (zaf .non) (zag ixD (zah 3) (zaf (.int 1))))))
  (zad (sFz [5] (zaK 7 false (eIf (zac 5) (zaf .non) (zag ixD (zah 3) (zaf (.int 2))))))
  (zad (sFz [4,1,2,3] (zaK 8 false (eIf (zfs (zdT "Ways" "is_round" (zac 0)) (eUn zev (zac 4))) (zaJ "Ways" "colour_round" zax (zac 0) [(zac 1),(zac 2),(zac 3)]) (zaf .non))))
  (zad (sFz [6,7,8] (zaP (zag zb1 (zag zb1 (zcU [(zac 6)]) (eSl (zah 2) (some (zaf (.int 2))) (some (eUn ziW (zaf (.int 1)))))) (zcU [(zac 7),(zac 8)]))))
  sNx))))))
noncomputable def zbf:List S2.D->Sto->Out S2.D:=za2 9 false zbX
noncomputable def zbh:Fs:=
  (zad (sFz [] (zaK 2 false (zag ixD (zdT "Ways" "ground" (zac 0)) (zah 1))))
  (zad (sFz [] (sIf (zag zmx (zah 2) (zaf .non)) (zad (sFz [] (zaP (eUn lrD (zay zdB [(zdT "Ways" "tiles" (zac 0))])))) sNx) sNx))
  (zad (sFz [2,2] (zaP (eIf (eFn zaG [(zdT "Ways" "tiles" (zac 0)),(zac 2)]) (zez [(zac 2)]) (zez []))))
  sNx)))
noncomputable def zaN:List S2.D->Sto->Out S2.D:=za2 3 false zbh
noncomputable def zbt:Fs:=
  (zad (sFz [1] (sIf (eOr (eUn zev (zdT "Ways" "is_round" (zac 0))) (eUn zev (zaJ "Ways" "ends_row" zaZ (zac 0) [(zac 1)]))) (zad (sFz [] (zaP (zaf (.bl true)))) sNx) sNx))
  (zad (sFz [1,2,3] (zaP (zag eqD (zag ixD (zah 3) (zaf (.int 1))) (zaJ "Ways" "colour_round" zax (zac 0) [(zac 1),(zac 2),(zac 3)]))))
  sNx))
noncomputable def zaX:List S2.D->Sto->Out S2.D:=za2 4 false zbt
noncomputable def zeK:Fs:=
  (zad (sFz [] (sIf (eOr (eUn zev (eFn zf2 [(zag ixD (zah 2) (zaf (.int 0))),(zag ixD (zah 3) (zaf (.int 3)))])) (eUn zev (eFn zf2 [(zag ixD (zah 2) (zaf (.int 1))),(zag ixD (zah 3) (zaf (.int 0)))]))) (zad (sFz [] (zaP (zaf (.bl false)))) sNx) sNx))
  (zad (sFz [1,2,3] (zaP (zaJ "Ways" "fits_round" zaX (zac 0) [(zac 1),(zac 2),(zac 3)])))
  sNx))
noncomputable def zdx:List S2.D->Sto->Out S2.D:=za2 4 false zeK
noncomputable def zbc:Fs:=
  (zad (sFz [] (zaK 5 false (zag ixD (zdT "Ways" "tiles" (zac 0)) (zah 4)))) (zad (sFz [1,2,5] (sIf (zaJ "Ways" "fits" zdx (zac 0) [(zac 1),(zac 2),(zac 5)]) (zad (sFz [4,1,2,5] (zhJ 3 (zcU [(zac 4),(zaJ "Ways" "seam_behind" zbf (zac 0) [(zac 1),(zac 2),(zac 5)])]))) sNx) sNx)) sNx))
noncomputable def zdg:Fs:=
  (zad (sFz [] (zaK 3 true (zez [])))
  (zad (sFz [1] (zfT (.one 4) (za1 (zaJ "Ways" "numbers_for" zaN (zac 0) [(zac 1)])) zbc))
  (zad (sFz [] (zhc 3))
  sNx)))
noncomputable def zbA:List S2.D->Sto->Out S2.D:=za2 6 true zdg
noncomputable def zal(rec_:List S2.D->Sto->Out S2.D):Fs:=
  (zad (sFz [] (sIf (zag eqD (zah 1) (zay zdB [(zdT "Ways" "ground" (zac 0))])) (zad (sFz [] (zaP (zaf (.int 1)))) sNx) sNx))
  (zad (sFz [1,2] (zaK 3 false (zcU [(zac 1),(zac 2)])))
  (zad (sFz [] (sIf (zpF "Ways" "known" (zac 3) (zac 0)) (zad (sFz [1,2,0,1] (zkn "Ways" "known" (zac 0) 3 (zay zss [(zes 1 (.one 0) (za1 (zaJ "Ways" "choices" zbA (zac 0) [(zac 1),(zac 2)])) zhs (zaJ "Ways" "count_from" rec_ (zac 1) [(zag zb1 (zah 2) (zaf (.int 1))),(zag ixD (zah 0) (zaf (.int 1)))]) [0,1])]))) sNx) sNx))
  (zad (sFz [] (zaP (zkO "Ways" "known" (zac 0) 3)))
  sNx))))
noncomputable def zaz:List S2.D->Sto->Out S2.D:=znJ 4 false zal 40
noncomputable def zco:Fs:=
  (zad (sFz [] (zaP (zaJ "Ways" "count_from" zaz (zac 0) [(zaf (.int 0)),(zaJ "Ways" "first_seam" zaY (zac 0) [])])))
  sNx)
noncomputable def zba:List S2.D->Sto->Out S2.D:=za2 1 false zco
noncomputable def zdJ:Fs:=
  (zad (sFz [0,1] (zaP (zaJ "Ways" "count_all" zba (eMk "Ways" [(.bl false)] za0 [(zac 0),(zac 1)]) [])))
  sNx)
noncomputable def zaM:List S2.D->Sto->Out S2.D:=za2 2 false zdJ
noncomputable def zgq:Fs:=
  (zad (sFz [0,1] (zaP (zay zcq [(zes 1 (.one 0) (zeL (zag ixD (zah 1) (zaf (.int 0)))) zhs (zay zcq [(eSl (zah 1) (some (zag zhk (zah 0) (zag ixD (zah 2) (zaf (.int 1))))) (some (zag zhk (zag zb1 (zah 0) (zaf (.int 1))) (zag ixD (zah 2) (zaf (.int 1))))))]) [0,1])])))
  sNx)
noncomputable def zeV:List S2.D->Sto->Out S2.D:=za2 2 false zgq
noncomputable def za9:Fs:=
  (zad (sFz [] (zaK 7 false (zaJ "Ways" "count_from" zaz (zac 0) [(zag zb1 (zah 5) (zaf (.int 1))),(zag ixD (zah 6) (zaf (.int 1)))]))) (zad (sFz [] (sIf (zag ltD (zah 3) (zah 7)) (zad (sFz [] (zhJ 2 (zag ixD (zah 6) (zaf (.int 0))))) (zad (sFz [] (zaK 4 false (zag ixD (zah 6) (zaf (.int 1))))) (zad (sFz [] sBk) sNx))) sNx)) (zad (sFz [] (zrV 3 (· - ·) (zac 7))) sNx)))
noncomputable def zbK:Fs:=
  (zad (sFz [5,4] (zfT (.one 6) (za1 (zaJ "Ways" "choices" zbA (zac 0) [(zac 5),(zac 4)])) za9)) sNx)
noncomputable def zb5:Fs:=
  (zad (sFz [] (zaK 2 true (zez [])))
  (zad (sFz [1] (zaK 3 false (zac 1)))
  (zad (sFz [] (zaK 4 false (zaJ "Ways" "first_seam" zaY (zac 0) [])))
  (zad (sFz [] (zfT (.one 5) (zeL (zay zdB [(zdT "Ways" "ground" (zac 0))])) zbK))
  (zad (sFz [] (zhc 2))
  sNx)))))
noncomputable def zbr:List S2.D->Sto->Out S2.D:=za2 8 true zb5
noncomputable def zcL:Fs:=
  (zad (sFz [] (sIf (eUn zev (zdr leD ltD (zaf (.int 0)) (zah 1) (zaJ "Ways" "count_all" zba (zac 0) []))) (zad (sFz [] (sRz "NoFill" [(zaf (.str "the floor has no fill with this number"))])) sNx) sNx))
  (zad (sFz [1] (zaP (eFn zeV [(zaJ "Ways" "numbers_by" zbr (zac 0) [(zac 1)]),(zdT "Ways" "size" (zac 0))])))
  sNx))
noncomputable def zbk:List S2.D->Sto->Out S2.D:=za2 2 false zcL
noncomputable def zd3:Fs:=
  (zad (sFz [0,1] (zaP (eOr (zag zmx (zah 1) (zaf .non)) (eFn zaG [(zac 0),(zac 1)]))))
  sNx)
noncomputable def zcD:List S2.D->Sto->Out S2.D:=za2 2 false zd3
noncomputable def zbF:Fs:=
  (zad (sFz [0,1] (sIf (eUn zev (eFn zaI [(zac 0),(zac 1)])) (zad (sFz [] (sRz "NoPlace" [(zaf (.str "there is no such place"))])) sNx) sNx))
  sNx)
noncomputable def zaw:List S2.D->Sto->Out S2.D:=za2 2 false zbF
noncomputable def zdF:Fs:=
  (zad (sFz [] (zaK 3 false (zag ixD (zah 0) (zag ixD (zah 1) (zaf (.int 0))))))
  (zad (sFz [2] (zaK 4 false (zag zb1 (zag zb1 (eSl (zah 3) none (some (zag ixD (zah 1) (zaf (.int 1))))) (zcU [(zac 2)])) (eSl (zah 3) (some (zag zb1 (zag ixD (zah 1) (zaf (.int 1))) (zaf (.int 1)))) none))))
  (zad (sFz [4] (zaP (zag zb1 (zag zb1 (eSl (zah 0) none (some (zag ixD (zah 1) (zaf (.int 0))))) (zcU [(zac 4)])) (eSl (zah 0) (some (zag zb1 (zag ixD (zah 1) (zaf (.int 0))) (zaf (.int 1)))) none))))
  sNx)))
noncomputable def zct:List S2.D->Sto->Out S2.D:=za2 5 false zdF
noncomputable def zcH:Fs:=
  (zad (sFz [1,2] (zlu (eFn zaw [(zac 1),(zac 2)])))
  (zad (sFz [0,3] (sIf (eUn zev (eFn zcD [(zac 0),(zac 3)])) (zad (sFz [] (sRz "NoTile" [(zaf (.str "the set has no such number"))])) sNx) sNx))
  (zad (sFz [1,2,3] (zaP (eFn zct [(zac 1),(zac 2),(zac 3)])))
  sNx)))
noncomputable def zat:List S2.D->Sto->Out S2.D:=za2 4 false zcH
noncomputable def zfq:Fs:=
  (zad (sFz [0,1] (zaP (zag gtD (eFn zaM [(zac 0),(zac 1)]) (zaf (.int 0)))))
  sNx)
noncomputable def zdm:List S2.D->Sto->Out S2.D:=za2 2 false zfq
noncomputable def ze9:Fs:=
  (zad (sFz [1,2,0,2] (sIf (eOr (eUn zev (eFn zdW [(zac 1),(zac 2)])) (eUn zev (eFn zdl [(zac 0),(zac 2)]))) (zad (sFz [] (zaP (zaf (.bl false)))) sNx) sNx))
  (zad (sFz [2,1] (zaP (eFn zca [(zac 2),(zac 1)])))
  sNx))
noncomputable def zbP:List S2.D->Sto->Out S2.D:=za2 3 false ze9
noncomputable def zmS:Fs:=
  (zad (sFz [2] (sIf (eUn zev (eFn zaV [(zac 2)])) (zad (sFz [] (sRz "NoFill" [(zaf (.str "this is no number of a fill"))])) sNx) sNx))
  (zad (sFz [0,1,2] (zaP (zaJ "Ways" "whole_by" zbk (eMk "Ways" [(.bl false)] za0 [(zac 0),(zac 1)]) [(zac 2)])))
  sNx))
noncomputable def zjA:List S2.D->Sto->Out S2.D:=za2 3 false zmS
noncomputable def zdK:Fs:=
  (zad (sFz [0,0] (zaP (zes 1 (.one 0) (za1 (eFn zaQ [(zac 0)])) (zag zmx (eFn zak [(zac 1),(zac 0)]) (zaf .non)) (zac 0) [0])))
  sNx)
noncomputable def zcv:List S2.D->Sto->Out S2.D:=za2 1 true zdK
noncomputable def zep:Fs:=
  (zad (sFz [3,5] (zaK 6 false (eFn zak [(zac 3),(zac 5)]))) (zad (sFz [0,0,1,5,6] (sIf (zag eqD (eFn zaM [(zac 0),(eFn zat [(zac 0),(zac 1),(zac 5),(zac 6)])]) (zah 2)) (zad (sFz [5,6] (zhJ 4 (zcU [(zac 5),(zac 6)]))) sNx) sNx)) sNx))
noncomputable def zfK:Fs:=
  (zad (sFz [0,1] (zaK 2 false (eFn zaM [(zac 0),(zac 1)])))
  (zad (sFz [] (sIf (zag eqD (zah 2) (zaf (.int 0))) (zad (sFz [] (zaP (zez []))) sNx) sNx))
  (zad (sFz [0,1] (zaK 3 false (eFn zjA [(zac 0),(zac 1),(zaf (.int 0))])))
  (zad (sFz [] (zaK 4 true (zez [])))
  (zad (sFz [1] (zfT (.one 5) (za1 (eFn zcv [(zac 1)])) zep))
  (zad (sFz [] (zhc 4))
  sNx))))))
noncomputable def zeW:List S2.D->Sto->Out S2.D:=za2 7 true zfK
noncomputable def zcT:Fs:=
  (zad (sFz [0,2,3,4] (zaK 2 false (eFn zat [(zac 0),(zac 2),(zac 3),(zac 4)]))) sNx)
noncomputable def zdG:Fs:=
  (zad (sFz [1] (zaK 2 false (zac 1)))
  (zad (sFz [0,1] (zfT (.tup [3,4]) (za1 (eFn zeW [(zac 0),(zac 1)])) zcT))
  (zad (sFz [2] (zaP (zac 2)))
  sNx)))
noncomputable def za3:List S2.D->Sto->Out S2.D:=za2 5 false zdG
noncomputable def Fo.seq(b:Fs):Fo->Fo|.nx I S'=>b I S'|o=>o
def zwo(a b:Fs)(ρ:Env):Out D->Fo|.ok d S'=>(match isB d with|some true=>a ρ S'|some false=>b ρ S'|none=>.bad)|.exc x S'=>.ex x ρ S'|.bad=>.bad
noncomputable def zws(i:Nat)(o:Bool)(ρ:Env):Out D->Fo|.ok d S'=>.nx (ρ.set i (some (o,d))) S'|.exc c S'=>.ex c ρ S'|.bad=>.bad
noncomputable def zwr(ρ:Env):Out D->Fo|.ok _ S'=>.nx ρ S'|.exc c S'=>.ex c ρ S'|.bad=>.bad
noncomputable def zyc(ρ:Env):Out D->Fo|.ok d S'=>.rt d S'|.exc c S'=>.ex c ρ S'|.bad=>.bad
noncomputable def zuq(S:Sto):Option (Option (Bool×D))->Fo|some (some (true,d))=>.rt d S|_=>.bad
def zrn(i:Nat)(ρ:Env)(l:List D):Out D->Fo
 |.ok d S'=>if small l.length then .nx (ρ.set i (some (true,.lst (l++[d])))) S' else .bad
 |.exc c S'=>.ex c ρ S'|.bad=>.bad
noncomputable def zyn(i:Nat)(f:Fe)(ρ:Env)(S:Sto):Option (Option (Bool×D))->Fo|some (some (true,.lst l))=>zrn i ρ l (f ρ S)|_=>.bad
def zri(i:Nat)(ρ:Env)(l:List D):Out D->Fo
 |.ok (.lst k) S'=>if small (l.length+k.length)then .nx (ρ.set i (some (true,.lst (l++k)))) S' else .bad
 |.ok _ _=>.bad|.exc c S'=>.ex c ρ S'|.bad=>.bad
noncomputable def zyj(i:Nat)(f:Fe)(ρ:Env)(S:Sto):Option (Option (Bool×D))->Fo|some (some (true,.lst l))=>zri i ρ l (f ρ S)|_=>.bad
noncomputable def zrg(i j:Nat)(J I:Bool)(d1:D)(ρ:Env):Out D->Fo|.ok d2 S2=>.nx ((ρ.set i (some (J,d1))).set j (some (I,d2))) S2|.exc c S'=>.ex c ρ S'|.bad=>.bad
noncomputable def zyd(i j:Nat)(J I:Bool)(g:Fe)(ρ:Env):Out D->Fo|.ok d1 S1=>zrg i j J I d1 ρ (g ρ S1)|.exc c S'=>.ex c ρ S'|.bad=>.bad
noncomputable def zwn(S:Sto):Option Env->Fo|some I=>.nx I S|none=>.bad
def zrm(t:Tg)(ρ:Env):Out D->Fo|.ok d S'=>zwn S' (t.put ρ d)|.exc c S'=>.ex c ρ S'|.bad=>.bad
noncomputable def zwq(t:Tg)(a:Fs)(ρ:Env):Out (List D)->Fo|.ok ds S'=>zel t a ds ρ S'|.exc c S'=>.ex c ρ S'|.bad=>.bad
noncomputable def zya(S:Sto):Option (Option (Bool×D))->Out D|some (~~~d)=>.ok d S|_=>.bad
noncomputable def zyl(S:Sto):Option (Option (Bool×D))->Out D|some (some (_,d))=>.ok d S|_=>.bad
def kUn(u:D->Option D):Out D->Out D|.ok a S=>Out.of (u a) S|.exc c S=>.exc c S|.bad=>.bad
def zoC(u:D->D->Option D)(a:D):Out D->Out D|.ok b S=>Out.of (u a b) S|.exc c S=>.exc c S|.bad=>.bad
noncomputable def zym(u:D->D->Option D)(g:Fe)(ρ:Env):Out D->Out D|.ok a S=>zoC u a (g ρ S)|.exc c S=>.exc c S|.bad=>.bad
def kIf(f g:Fe)(ρ:Env):Out D->Out D|.ok d S1=>(match isB d with|some true=>f ρ S1|some false=>g ρ S1|none=>.bad)|.exc c S=>.exc c S|.bad=>.bad
def zwt(g:Fe)(ρ:Env):Out D->Out D|.ok d S1=>(match isB d with|some true=>g ρ S1|some false=>.ok (.bl false) S1|none=>.bad)|.exc c S=>.exc c S|.bad=>.bad
def kOr(g:Fe)(ρ:Env):Out D->Out D|.ok d S1=>(match isB d with|some true=>.ok (.bl true) S1|some false=>g ρ S1|none=>.bad)|.exc c S=>.exc c S|.bad=>.bad
noncomputable def zjT(d:D):Out (List D)->Out (List D)|.ok ds S=>.ok (d::ds) S|.exc c S=>.exc c S|.bad=>.bad
def zrk(fs:List Fe)(ρ:Env):Out D->Out (List D)|.ok d S=>zjT d (zao fs ρ S)|.exc c S=>.exc c S|.bad=>.bad
def zyb:Out (List D)->Out D|.ok ds S=>if small ds.length then .ok (.tup ds) S else .bad|.exc c S=>.exc c S|.bad=>.bad
def zyf:Out (List D)->Out D|.ok ds S=>if small ds.length then .ok (.lst ds) S else .bad|.exc c S=>.exc c S|.bad=>.bad
def zut(u:List D->Option D):Out (List D)->Out D|.ok ds S=>Out.of (u ds) S|.exc c S=>.exc c S|.bad=>.bad
noncomputable def kFn(r:List D->Sto->Out D):Out (List D)->Out D|.ok ds S=>r ds S|.exc c S=>.exc c S|.bad=>.bad
def zgg(v:D->D->Option D)(b:D):Out D->Out D|.ok c S=>Out.of (v b c) S|.exc c S=>.exc c S|.bad=>.bad
def zgf(v:D->D->Option D)(h:Fe)(ρ:Env)(b:D)(S:Sto):Option D->Out D|some d=>(match isB d with|some true=>zgg v b (h ρ S)|some false=>.ok (.bl false) S|none=>.bad)|none=>.bad
noncomputable def zhn(u v:D->D->Option D)(h:Fe)(ρ:Env)(a:D):Out D->Out D|.ok b S=>zgf v h ρ b S (u a b)|.exc c S=>.exc c S|.bad=>.bad
noncomputable def zpw(u v:D->D->Option D)(g h:Fe)(ρ:Env):Out D->Out D|.ok a S=>zhn u v h ρ a (g ρ S)|.exc c S=>.exc c S|.bad=>.bad
noncomputable def zyg:Out D->Out (Option Int)|.ok (.int i) S=>.ok (some i) S|.ok _ _=>.bad|.exc c S=>.exc c S|.bad=>.bad
def zve(d:D)(l:Option Int):Out (Option Int)->Out D|.ok u S=>Out.of (slD d l u) S|.exc c S=>.exc c S|.bad=>.bad
def zvf(d:D)(u:Option Fe)(ρ:Env):Out (Option Int)->Out D|.ok l S=>zve d l (zdS u ρ S)|.exc c S=>.exc c S|.bad=>.bad
def kSl(l u:Option Fe)(ρ:Env):Out D->Out D|.ok d S=>zvf d u ρ (zdS l ρ S)|.exc c S=>.exc c S|.bad=>.bad
noncomputable def zjS:Out D->Out (List D)|.ok (.lst l) S=>.ok l S|.ok (.tup l) S=>.ok l S|.ok (.scr l) S=>.ok (l.map D.int) S|.ok _ _=>.bad|.exc c S=>.exc c S|.bad=>.bad
def zrj:Out (List D)->Out (List D)|.ok [.lst l] S=>.ok (zdh l) S|.ok [.tup l] S=>.ok (zdh l) S|.ok _ _=>.bad|.exc c S=>.exc c S|.bad=>.bad
def zx9:Out (List D)->Out (List D)|.ok ds S1=>(match ds with|[.tup l,.tup k]=>.ok (zhH l k) S1|_=>.bad)|.exc c S=>.exc c S|.bad=>.bad
def zup:Out (List D)->Out (List D)|.ok ds S1=>(match ds with|[.int j]=>if -1000000<=j/\j<=1000000 then .ok (zaB 0 j) S1 else .bad|_=>.bad)|.exc c S=>.exc c S|.bad=>.bad
def zuo:Out (List D)->Out (List D)|.ok ds S1=>(match ds with|[.int i,.int j,.int c]=>if i=0/\0<=j/\j<=1000/\1<=c/\c<=1000 then .ok (zeU j c) S1 else .bad|_=>.bad)|.exc c S=>.exc c S|.bad=>.bad
def zmv:Out (List D)->Out D|.ok ys S2=>if small ys.length then .ok (.lst ys) S2 else .bad|_=>.bad
def zrl(tg:Tg)(c elt:Fe)(ρ0:Env):Out (List D)->Out D|.ok ds S1=>zmv (zcS tg c elt ρ0 ds S1)|.exc c S=>.exc c S|.bad=>.bad
noncomputable def zyk:Option (Option (Bool×D))->Option (Bool×D)|some (~~~d)=>(~~~d)|_=>none
noncomputable def zwp(ρ:Env)(i:Nat):Option (Option (Bool×D))->Env|some (some (true,d))=>ρ.set i (~~~d)|_=>ρ
noncomputable def zvg(own:Bool):Fo->Out D|.rt d S'=>.ok d S'|.nx _ S'=>if own then .bad else .ok .non S'|.ex c _ S'=>.exc c S'|_=>.bad
def kRz(c:Str)(ρ:Env):Out (List D)->Fo|.ok ds S'=>if small ds.length then .ex c ρ S' else .bad|.exc x S'=>.ex x ρ S'|.bad=>.bad
section
variable{ρ:Env}{S:Sto}{f g h k c:Fe}{a b:Fs}
@[simp] def zpd:zad a b ρ S=(a ρ S).seq b:=by
 show(match a ρ S with|.nx c S'=>b c S'|o=>o)=_
 cases a ρ S<;>rfl
@[simp] def zxL:(Fo.nx ρ S).seq b=b ρ S:=(rfl)
@[simp] def zui:(Fo.rt d S).seq b=.rt d S:=(rfl)
@[simp] def zxK:(Fo.bk ρ S).seq b=.bk ρ S:=(rfl)
@[simp] def zxJ:(Fo.ex x ρ S).seq b=.ex x ρ S:=(rfl)
def ziJ(h:ρ[i]?=some (some (o,zfL ps))):zha i ρ=some (o,ps):=by
 unfold zha;rw[h];show(psX (pdD ps)).map _=_;rw[zjD];rfl
def zju(h:ρ[i]?=some (~~~pD p)):zfR i ρ=some p:=by
 unfold zfR;rw[h];rfl
def zrD(h:ρ[i]?=some (~~~pD p)):zg0 i ρ S=.ok (zfL [p]) S:=by
 unfold zg0;rw[zju h]
def zt5(h:ρ[i]?=some (some (o,zfL ps)))(hf:f ρ S=.ok (pD p) S1):zio i f ρ S=.ok (.bl (!decide (p∈ps))) S1:=by
 unfold zio;rw[ziJ h];dsimp only;rw[hf];rfl
def zte(h:ρ[i]?=some (some (true,zfL ps)))(U:ρ[j]?=some (~~~pD p))(I:p ∉ ps)(J:ps.length<=100000):zkm i j ρ S=.nx (ρ.set i (some (true,zfL (ps++[p])))) S:=by
 unfold zkm;rw[ziJ h,zju U];dsimp only;rw[if_pos ⟨I,J⟩]
def zsJ(h:ρ[i]?=some (some (o,zfL ps)))(I:zps ps=true):zkM i ρ S=.ok (.lst ((zfy ps).map pD)) S:=by
 unfold zkM;rw[ziJ h];dsimp only;rw[I,if_pos rfl]
def zv2(h:ρ[j]?=some (some (true,.lst (l++[d])))):zrT i j ρ S=.nx ((ρ.set j (some (true,.lst l))).set i (~~~d)) S:=by
 unfold zrT;rw[h];dsimp only;rw[List.getLast?_concat,yci]
@[simp] def zvs:sFz is a ρ S=a (frz is ρ) S:=(rfl)
@[simp] def zr6:frz [] ρ=ρ:=(rfl)
@[simp] def zr5:frz (i::is) ρ=frz is (frz1 ρ i):=(rfl)
@[simp] def zvw(i:Nat):frz1 ρ i=zwp ρ i ρ[i]?:=(rfl)
@[simp] def zxW:zwp ρ i (some (some (true,d)))=ρ.set i (~~~d):=(rfl)
@[simp] def zum:zwp ρ i (some (~~~d))=ρ:=(rfl)
@[simp] def zyD:sNx ρ S=.nx ρ S:=(rfl)
@[simp] def zyF:sBk ρ S=.bk ρ S:=(rfl)
@[simp] def zw6:zaK i o f ρ S=zws i o ρ (f ρ S):=(rfl)
@[simp] def zx5:zws i o ρ (.ok d S)=.nx (ρ.set i (some (o,d))) S:=(rfl)
@[simp] def zx4:zws i o ρ (.exc x S)=.ex x ρ S:=(rfl)
@[simp] def zw5:zlu f ρ S=zwr ρ (f ρ S):=(rfl)
@[simp] def zx0:zwr ρ (.ok d S)=.nx ρ S:=(rfl)
@[simp] def zxZ:zwr ρ (.exc x S)=.ex x ρ S:=(rfl)
@[simp] def zr2:zaP f ρ S=zyc ρ (f ρ S):=(rfl)
@[simp] def zul:zyc ρ (.ok d S)=.rt d S:=(rfl)
@[simp] def zvq:zhc i ρ S=zuq S ρ[i]?:=(rfl)
@[simp] def zxP:zuq S (some (some (true,d)))=.rt d S:=(rfl)
@[simp] def zyE:sIf c a b ρ S=zwo a b ρ (c ρ S):=(rfl)
@[simp] def zxV:zwo a b ρ (.ok (.bl true) S)=a ρ S:=(rfl)
@[simp] def zxU:zwo a b ρ (.ok (.bl false) S)=b ρ S:=(rfl)
@[simp] def zw7:zhJ i f ρ S=zyn i f ρ S ρ[i]?:=(rfl)
@[simp] def zzZ:zyn i f ρ S (some (some (true,.lst l)))=zrn i ρ l (f ρ S):=(rfl)
@[simp] def zx6:zrn i ρ l (.ok d S)=if small l.length then .nx (ρ.set i (some (true,.lst (l++[d])))) S else .bad:=(rfl)
@[simp] def zw4:zrU i f ρ S=zyj i f ρ S ρ[i]?:=(rfl)
@[simp] def zzR:zyj i f ρ S (some (some (true,.lst l)))=zri i ρ l (f ρ S):=(rfl)
@[simp] def zxY{l k:List D}:zri i ρ l (.ok (.lst k) S)=if small (l.length+k.length)then .nx (ρ.set i (some (true,.lst (l++k)))) S else .bad:=(rfl)
@[simp] def zw2:zs5 i j J f I g ρ S=zyd i j J I g ρ (f ρ S):=(rfl)
@[simp] def zzC:zyd i j J I g ρ (.ok d S)=zrg i j J I d ρ (g ρ S):=(rfl)
@[simp] def zxR:zrg i j J I d ρ (.ok e S)=.nx ((ρ.set i (some (J,d))).set j (some (I,e))) S:=(rfl)
@[simp] def zvu:zkp t f ρ S=zrm t ρ (f ρ S):=by
 unfold zkp zrm
 cases f ρ S with
 |ok d S'=>dsimp only;cases t.put ρ d<;>rfl|exc c S'=>rfl|bad=>rfl
@[simp] def zx3:zrm t ρ (.ok d S)=zwn S (t.put ρ d):=(rfl)
@[simp] def zzB:zwn S (some I)=.nx I S:=(rfl)
@[simp] def zw3:zfT t it a ρ S=zwq t a ρ (it ρ S):=(rfl)
@[simp] def zzO:zwq t a ρ (.ok ds S)=zel t a ds ρ S:=(rfl)
@[simp] def zyC:sRz x fs ρ S=kRz x ρ (zao fs ρ S):=(rfl)
@[simp] def zAx:kRz x ρ (.ok ds S)=if small ds.length then .ex x ρ S else .bad:=(rfl)
@[simp] def zxc:(Tg.one i).put ρ d=some (ρ.set i (~~~d)):=(rfl)
@[simp] def zw9:(Tg.tup is).put ρ (.tup ds)=zfw is ds ρ:=(rfl)
@[simp] def zxb:zfw (i::is) (d::ds) ρ=zfw is ds (ρ.set i (~~~d)):=(rfl)
@[simp] def zxa:zfw [] [] ρ=some ρ:=(rfl)
@[simp] def zr7:zac i ρ S=zya S ρ[i]?:=(rfl)
@[simp] def zwg:zya S (some (~~~d))=.ok d S:=(rfl)
@[simp] def zr9:zah i ρ S=zyl S ρ[i]?:=(rfl)
@[simp] def zwk:zyl S (some (some (o,d)))=.ok d S:=(rfl)
@[simp] def zr8:zaf d ρ S=.ok d S:=(rfl)
@[simp] def zyQ:eUn u f ρ S=kUn u (f ρ S):=by
 unfold eUn;cases f ρ S<;>rfl
@[simp] def zzx:kUn u (.ok d S)=Out.of (u d) S:=(rfl)
@[simp] def zxq:zag u f g ρ S=zym u g ρ (f ρ S):=by
 unfold zag
 cases f ρ S with
 |ok a S1=>show((g ρ S1).bind fun b S2=>Out.of (u a b) S2)=zoC u a (g ρ S1);cases g ρ S1<;>rfl|exc c S=>rfl|bad=>rfl
@[simp] def zx2:zym u g ρ (.ok d S)=zoC u d (g ρ S):=(rfl)
@[simp] def zx1:zoC u d (.ok e S)=Out.of (u d e) S:=(rfl)
@[simp] def zyU:eIf c f g ρ S=kIf f g ρ (c ρ S):=by
 unfold eIf;cases c ρ S<;>rfl
@[simp] def zzM:kIf f g ρ (.ok (.bl true) S)=f ρ S:=(rfl)
@[simp] def zzL:kIf f g ρ (.ok (.bl false) S)=g ρ S:=(rfl)
@[simp] def zxr:zfs f g ρ S=zwt g ρ (f ρ S):=by
 unfold zfs;cases f ρ S<;>rfl
@[simp] def zx8:zwt g ρ (.ok (.bl true) S)=g ρ S:=(rfl)
@[simp] def zx7:zwt g ρ (.ok (.bl false) S)=.ok (.bl false) S:=(rfl)
@[simp] def zyS:eOr f g ρ S=kOr g ρ (f ρ S):=by
 unfold eOr;cases f ρ S<;>rfl
@[simp] def zzE:kOr g ρ (.ok (.bl true) S)=.ok (.bl true) S:=(rfl)
@[simp] def zzD:kOr g ρ (.ok (.bl false) S)=g ρ S:=(rfl)
@[simp] def zpV:zao [] ρ S=.ok [] S:=(rfl)
@[simp] def zpW:zao (f::fs) ρ S=zrk fs ρ (f ρ S):=by
 show((f ρ S).bind fun d S1=>(zao fs ρ S1).bind fun ds S2=>.ok (d::ds) S2)=_
 cases f ρ S with
 |ok a S1=>show((zao fs ρ S1).bind fun ds S2=>.ok (a::ds) S2)=zjT a (zao fs ρ S1);cases zao fs ρ S1<;>rfl|exc c S=>rfl|bad=>rfl
@[simp] def zrc:zrk fs ρ (.ok d S)=zjT d (zao fs ρ S):=(rfl)
@[simp] def zwi:zrk fs ρ (.exc x S)=.exc x S:=(rfl)
@[simp] def zrb:zjT d (.ok ds S)=.ok (d::ds) S:=(rfl)
@[simp] def zxl:zcU fs ρ S=zyb (zao fs ρ S):=by
 unfold zcU;cases zao fs ρ S<;>rfl
@[simp] def zzy:zyb (.ok ds S)=if small ds.length then .ok (.tup ds) S else .bad:=(rfl)
@[simp] def zxn:zez fs ρ S=zyf (zao fs ρ S):=by
 unfold zez;cases zao fs ρ S<;>rfl
@[simp] def zzH:zyf (.ok ds S)=if small ds.length then .ok (.lst ds) S else .bad:=(rfl)
@[simp] def zpX:zay u fs ρ S=zut u (zao fs ρ S):=by
 unfold zay;cases zao fs ρ S<;>rfl
@[simp] def zre:zut u (.ok ds S)=Out.of (u ds) S:=(rfl)
@[simp] def zyV:eFn r fs ρ S=kFn r (zao fs ρ S):=by
 unfold eFn;cases zao fs ρ S<;>rfl
@[simp] def zzP:kFn r (.ok ds S)=r ds S:=(rfl)
@[simp] def zu9:zdr u v f g h ρ S=zpw u v g h ρ (f ρ S):=by
 show((f ρ S).bind fun a S1=>(g ρ S1).bind fun b S2=>match(u a b).bind isB with
  |some true=>(h ρ S2).bind fun c e=>Out.of (v b c) e|some false=>.ok (.bl false) S2|none=>.bad)=_
 cases f ρ S with
 |ok a S1=>
  show((g ρ S1).bind fun b S2=>match(u a b).bind isB with
   |some true=>(h ρ S2).bind fun c e=>Out.of (v b c) e|some false=>.ok (.bl false) S2|none=>.bad)=zhn u v h ρ a (g ρ S1)
  cases g ρ S1 with
  |ok b S2=>
   show(match(u a b).bind isB with
    |some true=>(h ρ S2).bind fun c e=>Out.of (v b c) e|some false=>.ok (.bl false) S2|none=>.bad)=zgf v h ρ b S2 (u a b)
   cases i:u a b with
   |none=>rfl|some d=>
    show(match isB d with
     |some true=>(h ρ S2).bind fun c e=>Out.of (v b c) e|some false=>.ok (.bl false) S2|none=>.bad)=(match isB d with|some true=>zgg v b (h ρ S2)|some false=>.ok (.bl false) S2|none=>.bad)
    cases j:isB d with
    |none=>rfl|some x=>cases x with
     |true=>show((h ρ S2).bind fun c e=>Out.of (v b c) e)=zgg v b (h ρ S2);cases h ρ S2<;>rfl|false=>rfl
  |exc c S=>rfl|bad=>rfl
 |exc c S=>rfl|bad=>rfl
@[simp] def zzY:zpw u v g h ρ (.ok d S)=zhn u v h ρ d (g ρ S):=(rfl)
@[simp] def zzX:zhn u v h ρ d (.ok e S)=zgf v h ρ e S (u d e):=(rfl)
@[simp] def zzW:zgf v h ρ e S (some (.bl true))=zgg v e (h ρ S):=(rfl)
@[simp] def zzV:zgf v h ρ e S (some (.bl false))=.ok (.bl false) S:=(rfl)
@[simp] def zzU:zgg v e (.ok d S)=Out.of (v e d) S:=(rfl)
@[simp] def zu8:zdS none ρ S=.ok none S:=(rfl)
@[simp] def zu7:zdS (some f) ρ S=zyg (f ρ S):=by
 show((f ρ S).bind fun d S1=>match d with|.int i=>.ok (some i) S1|_=>.bad)=_
 cases f ρ S with
 |ok d S'=>cases d<;>rfl|exc c S'=>rfl|bad=>rfl
@[simp] def zzK:zyg (.ok (.int i) S)=.ok (some i) S:=(rfl)
@[simp] def zyR:eSl f l u ρ S=kSl l u ρ (f ρ S):=by
 unfold eSl
 cases f ρ S with
 |ok d S1=>
  show((zdS l ρ S1).bind fun l S2=>(zdS u ρ S2).bind fun u a=>Out.of (slD d l u) a)=zvf d u ρ (zdS l ρ S1)
  cases zdS l ρ S1 with
  |ok l S2=>show((zdS u ρ S2).bind fun u a=>Out.of (slD d l u) a)=zve d l (zdS u ρ S2);cases zdS u ρ S2<;>rfl|exc c S=>rfl|bad=>rfl
 |exc c S=>rfl|bad=>rfl
@[simp] def zAw:kSl l u ρ (.ok d S)=zvf d u ρ (zdS l ρ S):=(rfl)
@[simp] def zzA:zvf d u ρ (.ok l S)=zve d l (zdS u ρ S):=(rfl)
@[simp] def zzz:zve d l (.ok u S)=Out.of (slD d l u) S:=(rfl)
@[simp] def zvv:za1 f ρ S=zjS (f ρ S):=by
 show((f ρ S).bind fun d S1=>match d with|.lst l=>.ok l S1|.tup l=>.ok l S1|.scr l=>.ok (l.map D.int) S1|_=>.bad)=_
 cases f ρ S with
 |ok d S'=>cases d<;>rfl|exc c S'=>rfl|bad=>rfl
@[simp] def zzJ:zjS (.ok (.lst l) S)=.ok l S:=(rfl)
@[simp] def zzI:zjS (.ok (.tup l) S)=.ok l S:=(rfl)
@[simp] def zxk:zkP f ρ S=zrj (zao [f] ρ S):=by
 show((zao [f] ρ S).bind fun ds S1=>match ds with|[.lst l]=>.ok (zdh l) S1|[.tup l]=>.ok (zdh l) S1|_=>.bad)=_
 cases zao [f] ρ S with
 |ok ds S'=>
  cases ds with
  |nil=>rfl|cons d ds=>cases ds with
   |nil=>cases d<;>rfl|cons e ds=>cases d<;>rfl
 |exc c S'=>rfl|bad=>rfl
@[simp] def zzT:zrj (.ok [.lst l] S)=.ok (zdh l) S:=(rfl)
@[simp] def zzS:zrj (.ok [.tup l] S)=.ok (zdh l) S:=(rfl)
@[simp] def zyx:zrX f g ρ S=zx9 (zao [f,g] ρ S):=by
 unfold zrX;cases zao [f,g] ρ S<;>rfl
@[simp] def zxG{l k:List D}:zx9 (.ok [.tup l,.tup k] S)=.ok (zhH l k) S:=(rfl)
@[simp] def zw8:zeL f ρ S=zup (zao [f] ρ S):=by
 unfold zeL;cases zao [f] ρ S<;>rfl
@[simp] def zxO:zup (.ok [.int j] S)=if -1000000<=j/\j<=1000000 then .ok (zaB 0 j) S else .bad:=(rfl)
@[simp] def zr3:zkN f g h ρ S=zuo (zao [f,g,h] ρ S):=by
 unfold zkN;cases zao [f,g,h] ρ S<;>rfl
@[simp] def zuk:zuo (.ok [.int i,.int j,.int m] S)=if i=0/\0<=j/\j<=1000/\1<=m/\m<=1000 then .ok (zeU j m) S else .bad:=(rfl)
@[simp] def zsa:zes n t it c f caps ρ S=zrl t c f (zcp n caps ρ) (it ρ S):=by
 unfold zes
 cases it ρ S with
 |ok ds S'=>
  simp only[Out.bind,zrl]
  cases zcS t c f (zcp n caps ρ) ds S'<;>rfl
 |exc c S'=>rfl|bad=>rfl
@[simp] def zun:zrl t c f ρ0 (.ok ds S)=zmv (zcS t c f ρ0 ds S):=(rfl)
@[simp] def zrd:zmv (.ok ys S)=if small ys.length then .ok (.lst ys) S else .bad:=(rfl)
@[simp] def zyy:zhs ρ S=.ok (.bl true) S:=(rfl)
@[simp] def zk3:zcp n caps ρ=List.replicate n none++caps.map (zuR ρ):=(rfl)
@[simp] def zsb:zuR ρ i=zyk ρ[i]?:=(rfl)
@[simp] def zwj:zyk (some (~~~d))=(~~~d):=(rfl)
def zaj:za2 n own fs ds S=zvg own (fs (ds.map (fun d=>~~~d)++List.replicate (n-ds.length) none) S):=(rfl)
@[simp] def zuj:zvg own (.rt d S)=.ok d S:=(rfl)
@[simp] def zxN:zvg false (.nx ρ S)=.ok .non S:=(rfl)
@[simp] def zxM:zvg own (.ex x ρ S)=.exc x S:=(rfl)
@[simp] def zyP{b:Bool}:isB (.bl b)=some b:=(rfl)
@[simp] def zyG{b:Bool}:zev (.bl b)=some (.bl (!b)):=(rfl)
@[simp] def zyH:ziW (.int i)=some (.int (-i)):=(rfl)
@[simp] def zxs:zb1 (.int i) (.int j)=some (.int (i+j)):=(rfl)
@[simp] def zsc:zb1 (.tup x) (.tup y)=if small (x.length+y.length)then some (.tup (x++y))else none:=(rfl)
@[simp] def zyz:zlj (.int i) (.int j)=some (.int (i-j)):=(rfl)
@[simp] def zyJ:zhk (.int i) (.int j)=if zcr i||zcr j then some (.int (i*j))else none:=(rfl)
@[simp] def zyK:zky (.int i) (.int j)=if 0<j then some (.int (i % j))else none:=(rfl)
@[simp] def zyW:zuI (.int i) (.int j)=if 0<j/\j<1073741824 then some (.int (i / j))else none:=(rfl)
@[simp] def zAs:ltD (.int i) (.int j)=some (.bl (decide (i<j))):=(rfl)
@[simp] def zAt:leD (.int i) (.int j)=some (.bl (decide (i<=j))):=(rfl)
@[simp] def zAu:gtD (.int i) (.int j)=some (.bl (decide (j<i))):=(rfl)
@[simp] def zAv:geD (.int i) (.int j)=some (.bl (decide (j<=i))):=(rfl)
@[simp] def zyN:ixD (.lst l) (.int i)=atI l i:=(rfl)
@[simp] def zyL:ixD (.tup l) (.int i)=atI l i:=(rfl)
@[simp] def zyM:ixD (.scr l) (.int i)=(atI l i).map D.int:=(rfl)
@[simp] def zxj:zdB [.lst l]=some (.int l.length):=(rfl)
@[simp] def zr4:zdB [.tup l]=some (.int l.length):=(rfl)
@[simp] def zxi:zdB [.scr l]=some (.int l.length):=(rfl)
@[simp] def zr1:zcq [.lst l]=some (.tup l):=(rfl)
@[simp] def zw0:zcq [.tup l]=some (.tup l):=(rfl)
@[simp] def zxh:zmp [.tup l]=some (.lst l):=(rfl)
@[simp] def zyO:zmx d .non=some (.bl (zdD d)):=(rfl)
@[simp] def zxd:zkx d .non=some (.bl (!zdD d)):=(rfl)
@[simp] def zxg:zdD .non=true:=(rfl)
@[simp] def zxf:zdD (.int i)=false:=(rfl)
@[simp] def zyA:slD (.tup l) x y=some (.tup (zff l x y)):=(rfl)
@[simp] def zyB:slD (.lst l) x y=some (.lst (zff l x y)):=(rfl)
@[simp] def zfO:small n=decide (n<=100000):=(rfl)
def zbZ{α:Type}(xs:List α)(j:Nat):atI xs (j:Int)=xs[j]?:=by
 unfold atI ixN
 by_cases h:j<xs.length
 ·simp[h]
 ·simp[h]
@[simp] def zvl{α:Type}(xs:List α):atI xs 0=xs[0]?:=zbZ xs 0
@[simp] def zwU{α:Type}(xs:List α):atI xs 1=xs[1]?:=zbZ xs 1
@[simp] def zwT{α:Type}(xs:List α):atI xs 2=xs[2]?:=zbZ xs 2
@[simp] def zuZ{α:Type}(xs:List α):atI xs 3=xs[3]?:=zbZ xs 3
def zdN{α:Type}{xs:List α}(h:0<=i):atI xs i=xs[i.toNat]?:=by
 obtain⟨n,rfl⟩:=ybp h;exact zbZ xs n
end
theorem zej(Iv:Nat->Env->Prop)(step:∀k d ρ,ds[k]?=some d->Iv k ρ->∃U J,tg.put ρ d=some U/\body U S=.nx J S/\Iv (k+1) J)(h0:Iv 0 ρ):∃I,zel tg body ds ρ S=.nx I S/\Iv ds.length I:=by
 have go:∀(n:Nat) (es:List D) (k:Nat) (ρ:Env),es.length=n->ds.drop k=es->k+n=ds.length->Iv k ρ->∃I,zel tg body es ρ S=.nx I S/\Iv ds.length I:=by
  intro n
  induction n with
  |zero=>
   intro es k ρ a he e hi;obtain rfl:es=[]:=yaV a;exact⟨ρ,rfl,by rw[show ds.length=k by omega];exact hi⟩
  |succ n c=>
   intro es k ρ a he e hi
   cases es with
   |nil=>cases a|cons d es=>
    have hd:ds[k]?=some d:=by
     have:=congrArg (fun l=>l[0]?) he;rw[ybz]at this;simpa using this
    obtain⟨U,J,i,h,b⟩:=step k d ρ hd hi;obtain⟨I,g,f⟩:=c es (k+1) J (by simpa using a) (by rw[<-List.drop_drop,he];rfl) (by omega) b;refine⟨I,?_,f⟩;unfold zel;rw[i];dsimp only;rw[h];exact g
 exact go ds.length ds 0 ρ rfl (by simp) (by omega) h0
theorem zd9:∀{ds:List D},(∀d∈ds,∃I,tg.put ρ0 d=some I/\c I S=.ok (.bl (p d)) S/\(p d=true->elt I S=.ok (g d) S))->zcS tg c elt ρ0 ds S=.ok ((ds.filter p).map g) S
 |[],_=>rfl|d::ds,h=>by
  obtain⟨I,j,i,f⟩:=h d yay;have b:=zd9 (ds:=ds) fun x e=>h x (yas _ e)
  unfold zcS;rw[j];dsimp only;rw[i]
  cases a:p d with
  |true=>simp[f a,b,a]|false=>simp[b,a]
def zcR(h:∀d∈ds,∃I,tg.put ρ0 d=some I/\elt I S=.ok (g d) S):zcS tg zhs elt ρ0 ds S=.ok (ds.map g) S:=by
 have:=zd9 (c:=zhs) (p:=fun _=>true) (tg:=tg) (elt:=elt) (ρ0:=ρ0) (S:=S) (g:=g) (ds:=ds) fun d hd=>by
  obtain⟨I,b,a⟩:=h d hd;exact⟨I,b,rfl,fun _=>a⟩
 rw[this,List.filter_eq_self.mpr (fun _ _=>rfl)]
mutual
noncomputable def D.pl:D->Bool
 |.non=>true|.int _=>true|.str _=>true|.tup l=>D.pls l|.lst l=>D.pls l|_=>false
noncomputable def D.pls:List D->Bool
 |[]=>true|d::l=>d.pl&&D.pls l
end
theorem D.pls_iff:∀{l:List D},D.pls l=true↔∀d∈l,d.pl=true
 |[]=>by simp[D.pls]
 |d::l=>by simp[D.pls,D.pls_iff (l:=l)]
mutual
theorem zj4:∀(d e:D),d.pl=true->e.pl=true->(d.py.eqv e.py=true↔d=e)
 |.non,e,_,h=>by cases e<;>simp[D.py,PyData.eqv,D.pl]at h ⊢
 |.int i,e,_,h=>by cases e<;>simp[D.py,PyData.eqv,D.pl]at h ⊢
 |.str x,e,_,h=>by cases e<;>simp[D.py,PyData.eqv,D.pl]at h ⊢
 |.tup l,e,hd,h=>by
  cases e with
  |tup k=>
   simp only[D.py,PyData.eqv,D.pl]at hd h ⊢;rw[zi4 l k hd h];simp
  |_=>simp[D.py,PyData.eqv,D.pl]at h ⊢
 |.lst l,e,hd,h=>by
  cases e with
  |lst k=>
   simp only[D.py,PyData.eqv,D.pl]at hd h ⊢;rw[zi4 l k hd h];simp
  |_=>simp[D.py,PyData.eqv,D.pl]at h ⊢
 |.bl _,_,hd,_=>by simp[D.pl]at hd
 |.dic _,_,hd,_=>by simp[D.pl]at hd
 |.ref _,_,hd,_=>by simp[D.pl]at hd
 |.exc _,_,hd,_=>by simp[D.pl]at hd
 |.scr _,_,hd,_=>by simp[D.pl]at hd
theorem zi4:∀(l k:List D),D.pls l=true->D.pls k=true->(PyData.eqvAll (D.pys l) (D.pys k)=true↔l=k)
 |[],[],_,_=>by simp[D.pys,PyData.eqvAll]
 |[],_::_,_,_=>by simp[D.pys,PyData.eqvAll]
 |_::_,[],_,_=>by simp[D.pys,PyData.eqvAll]
 |d::l,e::k,h1,h2=>by
  simp only[D.pls,yac]at h1 h2;simp only[D.pys,PyData.eqvAll,yac,List.cons.injEq];rw[zj4 d e h1.1 h2.1,zi4 l k h1.2 h2.2]
end
@[simp] def zrz:D.fit n (.int i)=true:=by cases n<;>rfl
@[simp] def zwE:D.fit n .non=true:=by cases n<;>rfl
@[simp] def zwD:D.fit (n+1) (.tup l)=D.fits n l:=(rfl)
@[simp] def zmP:D.fit (n+1) (.lst l)=D.fits n l:=(rfl)
@[simp] def zvj:D.fits n []=true:=by cases n<;>rfl
@[simp] def zuG:D.fits n (d::l)=(d.fit n&&D.fits n l):=by cases n<;>rfl
@[simp] def zvx:eqD (.int i) (.int j)=some (.bl (decide (i=j))):=by
 unfold eqD zeX;simp[D.py,PyData.eqv]
 cases h:(i==j)<;>simp_all
@[simp] def zyI:neD (.int i) (.int j)=some (.bl (!decide (i=j))):=by
 unfold neD zeX;simp[D.py,PyData.eqv]
 cases h:(i==j)<;>simp_all
def zgZ:eqD (.scr l) (.lst [])=some (.bl (decide (l=[]))):=by
 cases l with
 |nil=>rfl|cons a l=>simp[eqD,D.fit,D.fits,zeX,D.py,D.pys,PyData.eqv,PyData.eqvAll]
noncomputable def zkS(l:List Int)(k:Int):Int:=if k<l.length then l.getD k.toNat 0 else if l=[]then 0 else l.getD (k % l.length).toNat 0*31+k
def zb0(l:List Int)(k:Int)(many:Int):Int:=
 let d:=(zkS l k+6151*(k+1))*40692 % 2147483399
 (d*d+d / 31) % 2147483629 % many
def zb3(l:List Int)(k:Int)(h:0<many):0<=zb0 l k many/\zb0 l k many<many:=⟨ydc _ (by omega),ycI _ h⟩
@[simp] def zyq:zcr 31=true:=by decide
@[simp] def zvk:zcr 6151=true:=by decide
@[simp] def zuH:zcr 40692=true:=by decide
theorem zpC(h0:-(2 ^ 64)<i)(h:i<2 ^ 64):zcr i=true:=by unfold zcr;simp;omega
theorem znG(I:0<=k):zb2 [.scr l,.int k] S=.ok (.int (zkS l k)) S:=by
 unfold zkS
 by_cases h:k<l.length
 ·have a:l[k.toNat]?=some l[k.toNat]:=yab (by omega);rw[if_pos h,yav,a];simp[zb2,zaj,zcJ,h,zdN I,a]
 ·by_cases h0:l=[]
  ·subst h0;simp[zb2,zaj,zcJ,zgZ,show ¬ k<0 by omega]
  ·have d:0<l.length:=by cases l with|nil=>exact absurd rfl h0|cons _ _=>simp
   have b:0<=k % (l.length:Int):=ydc _ (by omega);have c:k % (l.length:Int)<l.length:=ycI _ (by omega);have a:l[(k % (l.length:Int)).toNat]?=some (l[(k % (l.length:Int)).toNat]'(by omega)):=yab (by omega);rw[if_neg h,if_neg h0,yav,a];simp[zb2,zaj,zcJ,h,h0,zgZ,zdN b,a,d]
theorem zbq(I:0<=k)(hm:0<many):zau [.scr l,.int k,.int many] S=.ok (.int (zb0 l k many)) S:=by
 unfold zb0;have h0:0<=(zkS l k+6151*(k+1))*40692 % 2147483399:=ydc _ (by omega);have h1:(zkS l k+6151*(k+1))*40692 % 2147483399<2147483399:=ycI _ (by omega);have hf:zcr ((zkS l k+6151*(k+1))*40692 % 2147483399)=true:=zpC (by omega) (by omega);simp[zau,zaj,zeJ,znG I,hf,hm]
noncomputable def zab(t:List Int):D:=.tup (t.map D.int)
def zoH{t u:List Int}:t.map D.int=u.map D.int↔t=u:=by
 constructor
 ·intro h
  induction t generalizing u with
  |nil=>cases u with|nil=>rfl|cons _ _=>cases h
  |cons a t c=>cases u with
   |nil=>cases h|cons b u=>
    simp only[yau,List.cons.injEq,D.int.injEq]at h;rw[h.1,c h.2]
 ·rintro rfl;rfl
def zno:zab t=zab u↔t=u:=by unfold zab;rw[D.tup.injEq];exact zoH
def znY{t:List Int}:D.pls (t.map D.int)=true:=by rw[D.pls_iff];intro d hd;obtain⟨i,_,rfl⟩:=yar.mp hd;rfl
def zlS:(zab t).pl=true:=znY
def zmO{t:List Int}:D.fits n (t.map D.int)=true:=by rw[D.fits_iff];intro d hd;obtain⟨i,_,rfl⟩:=yar.mp hd;exact zrz
def zfJ:(zab t).fit (n+1)=true:=zmO
theorem zmk:∀{l:List D},d.pl=true->D.pls l=true->(zif d l=true↔d∈l)
 |[],_,_=>by simp[zif]
 |e::l,h,a=>by
  simp only[D.pls,yac]at a;have b:=zmk (d:=d) (l:=l) h a.2;have c:=zj4 e d a.1 h;unfold zif;simp only[List.any_cons,yc8,yat];unfold zif at b;rw[b];unfold zeX;rw[c]
  constructor<;>(intro z;rcases z with z|z<;>simp[z])
def zie{ts:Z2}:zkZ (zab t) (.lst (ts.map zab))=some (.bl (!decide (t∈ts))):=by
 have f1:(zab t).fit 8=true:=zfJ
 have f2:D.fits 8 (ts.map zab)=true:=by rw[D.fits_iff];intro d hd;obtain⟨i,_,rfl⟩:=yar.mp hd;exact zfJ
 have p2:D.pls (ts.map zab)=true:=by rw[D.pls_iff];intro d hd;obtain⟨i,_,rfl⟩:=yar.mp hd;exact zlS
 have m:=zmk (d:=zab t) zlS p2
 have:(zab t∈ts.map zab)↔t∈ts:=by
  rw[yar];constructor
  ·rintro⟨u,a,e⟩;rw[<-zno.mp e];exact a
  ·intro h;exact⟨t,h,rfl⟩
 rw[this]at m;unfold zkZ;simp only[zgA,f1,f2,Bool.and_self,ycM,Option.some.injEq,D.bl.injEq];congr 1
 by_cases h:t∈ts
 ·rw[m.mpr h];simp[h]
 ·cases hm:zif (zab t) (ts.map zab)
  ·simp[h]
  ·exact absurd (m.mp hm) h
structure Tiles(most:Int)(ts:Z2):Prop where
 ne:1<=ts.length
 le:(ts.length:Int)<=most
 four:∀t∈ts,t.length=4
 col:∀t∈ts,∀c∈t,0<=c/\c<3
 nd:ts.Nodup
def zcC{k:Nat}(h:(zaB 0 hi)[k]?=some d):d=.int k/\(k:Int)<hi:=by
 unfold zaB at h;rw[yao]at h
 cases a:(List.range (hi-0).toNat)[k]? with
 |none=>rw[a]at h;cases h|some j=>
  rw[a]at h;obtain⟨h1,h2⟩:=yaj.mp a;simp at h1 h2;subst h2;simp at h;exact⟨h.symm,by omega⟩
@[simp] def zlG:(zaB 0 hi).length=hi.toNat:=by unfold zaB;simp
def zs8:zaB 0 4=[.int 0,.int 1,.int 2,.int 3]:=by rfl
@[simp] def zAd:zcr 4=true:=by decide
@[simp] def zAc:zcr 7=true:=by decide
theorem zpY(ha:0<=at')(hk:0<=k)(I:0<col)(U:col<=3)(hn:ts.length<=1000):
  ∃t J,t.length=4/\(∀c∈t,0<=c/\c<3)/\zbB [~~~.scr l,~~~.int at',~~~.int most,~~~.int col,some (true,.lst (ts.map zab)),~~~.int k,y] S
   = .nx [~~~.scr l,~~~.int at',~~~.int most,~~~.int col,some (true,.lst ((if t∈ts then ts else ts++[t]).map zab)),~~~.int k,J] S:=by
 have a:∀ρ0:Env,ρ0=[none,~~~.int at',~~~.int col,~~~.int k,~~~.scr l]->zcS (.one 0) zhs (eFn zau [(zac 4),(zag zb1 (zag zb1 (zag zb1 (zah 1) (zag zhk (zaf (.int 4)) (zah 3))) (zaf (.int 2))) (zah 0)),(zac 2)]) ρ0 (zaB 0 4) S
   = .ok ([zb0 l (at'+4*k+2+0) col,zb0 l (at'+4*k+2+1) col,zb0 l (at'+4*k+2+2) col,zb0 l (at'+4*k+2+3) col].map D.int) S:=by
  rintro _ rfl;rw[zs8,zcR (g:=fun d=>match d with|.int i=>.int (zb0 l (at'+4*k+2+i) col)|_=>.non)]
  ·rfl
  ·intro d hd;simp only[yat,ya2,ycQ]at hd
   rcases hd with rfl|rfl|rfl|rfl<;>exact⟨_,rfl,by simp;rw[zbq (by omega) I]⟩
 have p:=zb3 l (at'+4*k+2+0) I;have o:=zb3 l (at'+4*k+2+1) I;have n:=zb3 l (at'+4*k+2+2) I;have m:=zb3 l (at'+4*k+2+3) I;generalize zb0 l (at'+4*k+2+0) col=e,zb0 l (at'+4*k+2+1) col=b,zb0 l (at'+4*k+2+2) col=p2,zb0 l (at'+4*k+2+3) col=f at*
 have fin:∀t:List Int,(zad (sFz [] (sIf (zag zkZ (zah 6) (zah 4)) (zad (sFz [6] (zhJ 4 (zac 6))) sNx) sNx)) sNx) [~~~.scr l,~~~.int at',~~~.int most,~~~.int col,some (true,.lst (ts.map zab)),~~~.int k,~~~zab t] S
   = .nx [~~~.scr l,~~~.int at',~~~.int most,~~~.int col,some (true,.lst ((if t∈ts then ts else ts++[t]).map zab)),~~~.int k,~~~zab t] S:=by
  intro t
  by_cases h:t∈ts
  ·simp[zie,h]
  ·simp[zie,h,show ts.length<=100000 by omega]
 by_cases j:zb0 l (at'+60+k) 3=0
 ·refine⟨[e,b,e,b],~~~zab [e,b,e,b],rfl,by simp;omega,?_⟩;rw[<-fin];simp[zbB,a,zbq (show 0<=at'+60+k by omega) (show(0:Int)<3 by omega),j];rfl
 ·refine⟨[e,b,p2,f],~~~zab [e,b,p2,f],rfl,by simp;omega,?_⟩;rw[<-fin];simp[zbB,a,zbq (show 0<=at'+60+k by omega) (show(0:Int)<3 by omega),j];rfl
theorem zlw(I:0<=at')(hm:0<most)(J:most<=100):∃ts,Tiles most ts/\zcZ [.scr l,.int at',.int most] S=.ok (.tup (ts.map zab)) S:=by
 have b:=zb3 l at' (many:=2) (by omega);have n:=zb3 l (at'+1) hm;have p:=zbq (l:=l) (S:=S) I (show(0:Int)<2 by omega);have p2:=zbq (l:=l) (S:=S) (show 0<=at'+1 by omega) hm;generalize zb0 l at' 2=c,zb0 l (at'+1) most=m at*
 obtain⟨o,e,ts,x,y,rfl,h1,h2,i,h4,g⟩:=zej (tg:=.one 5) (body:=zbB) (ds:=zaB 0 (1+m)) (S:=S) (fun k ρ=>∃ts x y,ρ=[~~~.scr l,~~~.int at',~~~.int most,~~~.int (2+c),some (true,.lst (ts.map zab)),x,y]/\ts.length<=k/\(0<k->1<=ts.length)/\(∀t∈ts,t.length=4)/\(∀t∈ts,∀c∈t,0<=c/\c<3)/\ts.Nodup) (by
   rintro k d ρ hd ⟨ts,x,y,rfl,h1,h2,i,h4,g⟩;obtain⟨rfl,s⟩:=zcC hd;obtain⟨t,r,a1,a2,q⟩:=zpY (l:=l) (at':=at') (most:=most) (col:=2+c) (k:=k) (S:=S) (ts:=ts) (y:=y) I (by omega) (by omega) (by omega) (by omega);refine⟨_,_,rfl,q,_,_,_,rfl,?_,?_,?_,?_,?_⟩
   ·split<;>(try simp)<;>omega
   ·intro _;split
    ·rename_i h;exact List.length_pos_of_mem h
    ·simp
   ·intro u f;split at f
    ·exact i u f
    ·rw[ya8,yaB]at f
     rcases f with f|rfl
     ·exact i u f
     ·exact a1
   ·intro u f;split at f
    ·exact h4 u f
    ·rw[ya8,yaB]at f
     rcases f with f|rfl
     ·exact h4 u f
     ·exact a2
   ·split
    ·exact g
    ·rename_i h;rw[List.nodup_append];refine⟨g,by simp,?_⟩
     intro a I b j;rw[yaB]at j;subst j;rintro rfl;exact h I)
  (ρ:=[~~~.scr l,~~~.int at',~~~.int most,~~~.int (2+c),some (true,.lst []),none,none]) ⟨[],none,none,rfl,by simp,by simp,by simp,by simp,by simp⟩
 rw[zlG]at h1 h2;refine⟨ts,⟨h2 (by omega),by omega,i,h4,g⟩,?_⟩;simp[zcZ,zaj,zd5,p,p2,show -1000000<=1+m/\1+m<=1000000 by omega,e]
noncomputable def oD:Option Int->D|none=>.non|some i=>.int i
noncomputable def zeB(c:Nat)(g:Nat->Option Int):List D:=(List.range c).map fun j=>oD (g j)
def zf1(c:Nat)(g:Nat->Option Int):D:=.tup (zeB c g)
noncomputable def zdc(r c:Nat)(g:Z1):List D:=(List.range r).map fun i=>zf1 c (g i)
def flr(r c:Nat)(g:Z1):D:=.tup (zdc r c g)
@[simp] def zec:(zeB c g).length=c:=by simp[zeB]
@[simp] def zdE:(zdc r c g).length=r:=by simp[zdc]
def zeT(h:j<c):(zeB c g)[j]?=some (oD (g j)):=by simp[zeB,h]
def zc3(h:i<r):(zdc r c g)[i]?=some (zf1 c (g i)):=by simp[zdc,h]
@[simp] def zwC(h:i<(zdc r c g).length):(zdc r c g)[i]=zf1 c (g i):=by simp[zdc]
def zlD:zeB (k+1) g=zeB k g++[oD (g k)]:=by simp[zeB,ycb]
def zmM:zdc (k+1) c g=zdc k c g++[zf1 c (g k)]:=by simp[zdc,ycb]
def zkY(l:List Int)(at' n m:Int)(i j:Nat):Option Int:=if zb0 l (at'+7*i+j) (n*m)<n then some (zb0 l (at'+7*i+j) (n*m))else none
theorem zt1(h:0<n*m):∀x,zkY l at' n m i j=some x->0<=x/\x<n:=by
 intro x e;unfold zkY at e;have:=zb3 l (at'+7*i+j) h;split at e
 ·cases e;omega
 ·cases e
theorem zoP{l:List Int}{at' m:Int}{ts:List D}{r c:Nat}{i:Nat}{S:Sto}{A B Mm:Option (Bool×D)}{y:Option (Bool×D)}{z:Option (Bool×D)}(ha:0<=at')(U:0<(ts.length:Int)*m)(hm:zcr m=true)(hc:c<=1000):
  ∃J I,zel (.one 9) zbC (zaB 0 c) [~~~.scr l,~~~.int at',~~~.tup ts,A,B,~~~.int m,Mm,~~~.int i,some (true,.lst []),y,z] S
   = .nx [~~~.scr l,~~~.int at',~~~.tup ts,A,B,~~~.int m,Mm,~~~.int i,some (true,.lst (zeB c (zkY l at' ts.length m i))),J,I] S:=by
 obtain⟨a,e,J,I,rfl⟩:=zej (tg:=.one 9) (body:=zbC) (ds:=zaB 0 c) (S:=S) (fun k ρ=>∃y z,ρ=[~~~.scr l,~~~.int at',~~~.tup ts,A,B,~~~.int m,Mm,~~~.int i,some (true,.lst (zeB k (zkY l at' ts.length m i))),y,z]) (by
  rintro k d ρ hd ⟨y,z,rfl⟩;obtain⟨rfl,b⟩:=zcC hd;have p:=zbq (l:=l) (S:=S) (show 0<=at'+7*(i:Int)+(k:Int)by omega) U;have pn:=zb3 l (at'+7*(i:Int)+(k:Int)) U;refine⟨_,_,rfl,?_,~~~.int k,~~~(.int (zb0 l (at'+7*i+k) (ts.length*m))),rfl⟩
  ·rw[zlD]
   by_cases h:zb0 l (at'+7*(i:Int)+(k:Int)) (ts.length*m)<ts.length
   ·simp[zbC,p,hm,h,zkY,oD,show k<=100000 by omega]
   ·simp[zbC,p,hm,h,zkY,oD,show k<=100000 by omega])
  (ρ:=[~~~.scr l,~~~.int at',~~~.tup ts,A,B,~~~.int m,Mm,~~~.int i,some (true,.lst []),y,z]) ⟨y,z,rfl⟩
 exact⟨J,I,by simpa using e⟩
theorem zlB(ha:0<=at')(U:0<(ts.length:Int)*m)(hm:zcr m=true)(J:0<=r)(I:r<=1000)(hc:0<=c)(a3:c<=1000):
  zc1 [.scr l,.int at',.tup ts,.int r,.int c,.int m] S=.ok (flr r.toNat c.toNat (zkY l at' ts.length m)) S:=by
 obtain⟨r,rfl⟩:=ybp J;obtain⟨c,rfl⟩:=ybp hc
 obtain⟨g,e,x1,f,b,a,rfl⟩:=zej (tg:=.one 7) (body:=zdi) (ds:=zaB 0 r) (S:=S) (fun k ρ=>∃x1 f b a,ρ=[~~~.scr l,~~~.int at',~~~.tup ts,~~~.int r,~~~.int c,~~~.int m,some (true,.lst (zdc k c (zkY l at' ts.length m))),x1,f,b,a]) (by
  rintro k d ρ hd ⟨x1,f,b,a,rfl⟩;obtain⟨rfl,n⟩:=zcC hd;obtain⟨j,h,e⟩:=zoP (l:=l) (at':=at') (m:=m) (ts:=ts) (r:=r) (c:=c) (i:=k) (S:=S) (A:= ~~~.int r) (B:= ~~~.int c) (Mm:=some (true,.lst (zdc k c (zkY l at' ts.length m)))) (y:=b) (z:=a) ha U hm (by omega);refine⟨_,_,rfl,?_,~~~.int k,some (true,.lst (zeB c (zkY l at' ts.length m k))),j,h,rfl⟩
  ·rw[zmM]
   simp[zdi,e,zf1,show -1000000<=(c:Int)/\(c:Int)<=1000000 by omega,show k<=100000 by omega])
  (ρ:=[~~~.scr l,~~~.int at',~~~.tup ts,~~~.int r,~~~.int c,~~~.int m,some (true,.lst []),none,none,none,none]) ⟨none,none,none,none,rfl⟩
 simp at e;simp[zc1,zaj,zd7,e,flr,show -1000000<=(r:Int)/\(r:Int)<=1000000 by omega]
noncomputable abbrev plD(i j:Nat):D:=.tup [.int i,.int j]
noncomputable def zcn(r c:Nat):List D:=(List.range r).flatMap fun i=>(List.range c).map fun j=>plD i j
def zh8:zcn (k+1) c=zcn k c++(List.range c).map fun j=>plD k j:=by simp[zcn,ycb]
def zbx(h:d∈zcn r c):∃i j,i<r/\j<c/\d=plD i j:=by
 simp only[zcn,ybB,yaX,yar]at h;obtain⟨i,hi,j,a,e⟩:=h;exact⟨i,j,hi,a,e.symm⟩
def zlR(hi:i<r)(I:j<c):plD i j∈zcn r c:=by
 simp only[zcn,ybB,yaX,yar];exact⟨i,hi,j,I,rfl⟩
def zdY:(zcn r c).length=r*c:=by
 induction r with
 |zero=>simp[zcn]|succ k a=>rw[zh8,yak,a];simp[yb8]
theorem zhd(h:1<=r):zcj [flr r c g] S=.ok (.tup [.int r,.int c]) S:=by
 have e:=zc3 (c:=c) (g:=g) (i:=0) (r:=r) (by omega);simp[zcj,zaj,zgp,flr,e,zf1,show 0<r by omega]
theorem zbd(h:1<=r)(I:r<=100)(J:c<=100):zaQ [flr r c g] S=.ok (.lst (zcn r c)) S:=by
 have inner:∀(k:Nat) (y:Option (Bool×D)),k<r->∃a,zel (.one 4) zcA (zaB 0 c) [~~~flr r c g,~~~.tup [.int r,.int c],some (true,.lst (zcn k c)),~~~.int k,y] S
   = .nx [~~~flr r c g,~~~.tup [.int r,.int c],some (true,.lst (zcn (k+1) c)),~~~.int k,a] S:=by
  intro k y i
  obtain⟨b,e,a,rfl⟩:=zej (tg:=.one 4) (body:=zcA) (ds:=zaB 0 c) (S:=S) (fun j ρ=>∃y,ρ=[~~~flr r c g,~~~.tup [.int r,.int c],some (true,.lst (zcn k c++(List.range j).map fun j=>plD k j)),~~~.int k,y]) (by
   rintro j d ρ hd ⟨y,rfl⟩;obtain⟨rfl,l⟩:=zcC hd
   have f:k*c+j<=100000:=by
    have:k*c<=100*100:=ybv (by omega) (by omega);omega
   refine⟨_,_,rfl,?_,~~~.int j,rfl⟩
   simp[zcA,ycb,zdY,f])
   (ρ:=[~~~flr r c g,~~~.tup [.int r,.int c],some (true,.lst (zcn k c)),~~~.int k,y]) ⟨y,by simp⟩
  refine⟨a,?_⟩;rw[e,zh8];simp
 obtain⟨b,e,x,y,rfl⟩:=zej (tg:=.one 3) (body:=zdM) (ds:=zaB 0 r) (S:=S) (fun k ρ=>∃x y,ρ=[~~~flr r c g,~~~.tup [.int r,.int c],some (true,.lst (zcn k c)),x,y]) (by
  rintro k d ρ hd ⟨x,y,rfl⟩;obtain⟨rfl,i⟩:=zcC hd;obtain⟨a,e⟩:=inner k y (by omega);refine⟨_,_,rfl,?_,~~~.int k,a,rfl⟩
  simp[zdM,e,show -1000000<=(c:Int)/\(c:Int)<=1000000 by omega])
  (ρ:=[~~~flr r c g,~~~.tup [.int r,.int c],some (true,.lst []),none,none]) ⟨none,none,rfl⟩
 simp at e;simp[zaQ,zaj,zeG,zhd h,e,show -1000000<=(r:Int)/\(r:Int)<=1000000 by omega]
def zbL(hi:i<r)(I:j<c):zak [flr r c g,plD i j] S=.ok (oD (g i j)) S:=by
 simp[zak,zaj,zeH,flr,plD,zbZ,zc3 hi,zeT I,zf1]
def zdV:zaA [.tup l,.int a,.int b] S=.ok (.bl (decide (a<=l.length/\(l.length:Int)<=b))) S:=by
 by_cases h1:a<=(l.length:Int)
 ·by_cases h2:(l.length:Int)<=b<;>simp[zaA,zaj,zcx,zeF,h1,h2]
 ·simp[zaA,zaj,zcx,zeF,h1]
theorem zh1:zbO [.tup l,.tup k] S=.ok (.bl (decide (l.length=k.length))) S:=by
 simp[zbO,zaj,zdI,zdV];rw[<-Bool.decide_and,decide_eq_decide];omega
def zrO{α:Type}{xs:List α}{p:α->Bool}:zhA (xs.map fun x=>D.bl (p x))=some (xs.map p):=by
 induction xs with
 |nil=>rfl|cons x xs a=>simp[zhA,a]
theorem all_map{α:Type}{xs:List α}{p:α->Bool}:zpM [.lst (xs.map fun x=>D.bl (p x))]=some (.bl (xs.all p)):=by
 show Option.map _ (zhA _)=_;rw[zrO];simp[List.all_map]
@[simp] def zrC:eqD (oD a) (oD b)=some (.bl (decide (a=b))):=by
 cases a<;>cases b<;>simp[oD]
 ·rfl
 ·rfl
 ·rfl
@[simp] def zxF:zdD (oD a)=decide (a=none):=by cases a<;>simp[oD]
theorem zfV{l:List D}{n:Nat}{S:Sto}:zaA [.tup l,.int n,.int n] S=.ok (.bl (decide (l.length=n))) S:=by
 rw[zdV];congr 3;apply propext;omega
theorem znA(h1:1<=r)(I:r<=1000):zdW [flr r c g,flr r' c' h] S=.ok (.bl (decide (r'=r/\c'=c))) S:=by
 by_cases e:r'=r
 ·subst e
  have l:zhH (zdc r' c g) (zdc r' c' h)=(List.range r').map fun i=>.tup [zf1 c (g i),zf1 c' (h i)]:=by
   apply ybn;intro i
   by_cases hi:i<r'
   ·have:i<(zhH (zdc r' c g) (zdc r' c' h)).length:=by rw[zfF];simp;omega
    obtain⟨x,y,k,j,m⟩:=zg4 (yab this);rw[zc3 hi]at k j;cases k;cases j;rw[yab this,m];simp[hi]
   ·rw[yaP (by rw[zfF];simp;omega),yaP (by simp;omega)]
  have b:zcS (.tup [0,1]) zhs (eFn zbO [(zac 0),(zac 1)]) [none,none] (zhH (zdc r' c g) (zdc r' c' h)) S=.ok ((List.range r').map fun _=>.bl (decide (c=c'))) S:=by
   rw[l,zcR (g:=fun _=>.bl (decide (c=c')))]
   ·simp
   ·intro d hd;simp only[yar,yaX]at hd;obtain⟨i,hi,rfl⟩:=hd;exact⟨_,rfl,by simp[zf1,zh1]⟩
  have f:zpM [.lst ((List.range r').map fun _=>.bl (decide (c=c')))]=some (.bl (decide (c'=c))):=by
   rw[all_map (p:=fun _=>decide (c=c'))]
   by_cases a:c=c'
   ·subst a;simp
   ·have:((List.range r').all fun _=>false)=false:=by
     cases r' with
     |zero=>omega|succ n=>simp[ycb]
    simp only[a,show ¬ c'=c from fun z=>a z.symm,decide_false,this]
  simp only[List.map_const',ybu]at b f;simp[zdW,zaj,ze8,flr,zfV,b,f,show r'<=100000 by omega]
 ·simp[zdW,zaj,ze8,flr,zfV,e]
noncomputable def zer(g:Z1):D->Bool|.tup [.int i,.int j]=>(g i.toNat j.toNat).isSome|_=>false
def znB(h:1<=r)(I:r<=100)(J:c<=100):zcu [flr r c g] S=.ok (.lst ((zcn r c).filter (zer g))) S:=by
 have a:((zcn r c).filter (zer g)).length<=100000:=by
  refine yal (ybg _ _) ?_;rw[zdY];have:r*c<=100*100:=ybv I J;omega
 have e:zcS (.one 0) (zag zkx (eFn zak [(zac 1),(zac 0)]) (zaf .non)) (zac 0) [none,~~~flr r c g] (zcn r c) S=.ok ((zcn r c).filter (zer g)) S:=by
  rw[zd9 (g:=id) (p:=zer g)]
  ·simp
  ·intro d hd;obtain⟨i,j,hi,b,rfl⟩:=zbx hd;refine⟨_,rfl,?_,fun _=>by simp⟩;simp[zbL hi b,zer]
   cases g i j<;>rfl
 simp[zcu,zaj,zdH,zbd h I J,e,a]
noncomputable def zoQ(r c:Nat)(g h:Z1):Bool:=decide (∀i,i<r->∀j,j<c->h i j=none\/g i j=h i j)
def zhZ(h1:1<=r)(I:r<=100)(J:c<=100):zca [flr r c g,flr r c h] S=.ok (.bl (zoQ r c g h)) S:=by
 have k:((zcn r c).filter (zer h)).length<=100000:=by
  refine yal (ybg _ _) ?_;rw[zdY];have:r*c<=100*100:=ybv I J;omega
 have e:zcS (.one 0) zhs (zag eqD (eFn zak [(zac 2),(zac 0)]) (eFn zak [(zac 1),(zac 0)])) [none,~~~flr r c h,~~~flr r c g] ((zcn r c).filter (zer h)) S=.ok (((zcn r c).filter (zer h)).map fun d=>.bl ((fun d=>match d with|.tup [.int i,.int j]=>decide (g i.toNat j.toNat=h i.toNat j.toNat)|_=>true) d)) S:=by
  rw[zcR];intro d hd;obtain⟨i,j,hi,a,rfl⟩:=zbx ((ybo.mp hd).1);exact⟨_,rfl,by simp[zbL hi a]⟩
 have l:(((zcn r c).filter (zer h)).all fun d=>match d with|.tup [.int i,.int j]=>decide (g i.toNat j.toNat=h i.toNat j.toNat)|_=>true)=zoQ r c g h:=by
  rw[ybH];unfold zoQ;rw[ybs,ycJ];constructor
  ·intro H i hi j a
   cases f:h i j with
   |none=>exact .inl rfl|some x=>
    have:=H (plD i j) (ybo.mpr ⟨zlR hi a,by simp[zer,f]⟩);simp[f]at this;exact .inr this
  ·intro H d hd;obtain⟨i,j,hi,a,rfl⟩:=zbx ((ybo.mp hd).1);have b:=(ybo.mp hd).2;simp[zer]at b
   rcases H i hi j a with z|z
   ·rw[z]at b;cases b
   ·simp[z]
 simp[zca,zaj,zdd,znB h1 I J,e,k,all_map,l]
theorem zek{tg:Tg}{α:Type}(mk:List D->α->Env)(g:D->List D)(N:Nat):∀{ds:List D},(∀d∈ds,∀(L:List D) (x:α),L.length+(g d).length<=N->∃I U,tg.put (mk L x) d=some I/\body I S=.nx (mk (L++g d) U) S) →
  ∀(J:List D) (x0:α),J.length+(ds.flatMap g).length<=N->∃U,zel tg body ds (mk J x0) S=.nx (mk (J++ds.flatMap g) U) S
 |[],_,J,x0,_=>⟨x0,by simp[zel]⟩
 |d::ds,step,J,x0,b=>by
  rw[ybi,yak]at b;obtain⟨I,U,f,e⟩:=step d yay J x0 (by omega);obtain⟨a,c⟩:=zek mk g N (ds:=ds) (fun d hd=>step d (yas _ hd)) (J++g d) U (by rw[yak];omega);refine⟨a,?_⟩;unfold zel;rw[f];dsimp only;rw[e];dsimp only;rw[c,ybi,ybP]
theorem zj1{α:Type}{g:α->List D}:∀{ds:List α},(∀d∈ds,(g d).length<=m)->(ds.flatMap g).length<=ds.length*m
 |[],_=>by simp
 |d::ds,h=>by
  have h1:=h d yay;have h2:=zj1 (ds:=ds) fun d hd=>h d (yas _ hd)
  rw[ybi,yak,yan,yb8];omega
def zhj(h:d.pl=true)(f:d.fit 9=true):neD d d=some (.bl false):=by
 unfold neD zeX;rw[f,(zj4 d d h h).mpr rfl];rfl
def zrB(h:d.pl=true)(f:d.fit 9=true):eqD d d=some (.bl true):=by
 unfold eqD zeX;rw[f,(zj4 d d h h).mpr rfl];rfl
structure TOk(ts:Z2):Prop where
 four:∀t∈ts,t.length=4
 le:ts.length<=100
noncomputable def zaL(ts:Z2)(n:Int)(s:Nat):Int:=(ts.getD n.toNat []).getD s 0
theorem zfP{ts:Z2}(ht:TOk ts){n:Int}(h0:0<=n)(h1:n<ts.length):atI (ts.map zab) n=some (.tup ([zaL ts n 0,zaL ts n 1,zaL ts n 2,zaL ts n 3].map D.int)):=by
 rw[zdN h0,yao,yab (by omega)];have h4:=ht.four _ (ya1 (show n.toNat<ts.length by omega))
 have e:ts.getD n.toNat []=ts[n.toNat]:=by rw[yav,yab (by omega)];rfl
 unfold zaL;rw[e];generalize ts[n.toNat]=t at*
 match t,h4 with
 |[a,b,c,d],_=>rfl
def zdw:zaV [.int i] S=.ok (.bl true) S:=by simp[zaV,zaj,zen,zeF]
def ziL:zaV [.non] S=.ok (.bl false) S:=by simp[zaV,zaj,zen,zeF]
def zb9(h:∀x,o=some x->0<=x/\x<ts.length):zaG [.tup ts,oD o] S=.ok (.bl o.isSome) S:=by
 cases o with
 |none=>simp[zaG,zaj,zcm,oD,ziL]|some x=>obtain⟨h0,h1⟩:=h x rfl;simp[zaG,zaj,zcm,oD,zdw,h0,h1]
noncomputable def hp1:Fe:=zdr leD ltD (zaf (.int 0)) (zag ixD (zah 1) (zaf (.int 0))) (zag ixD (zah 2) (zaf (.int 0)))
noncomputable def hp2:Fe:=zdr leD ltD (zaf (.int 0)) (zag ixD (zah 1) (zaf (.int 1))) (zag ixD (zah 2) (zaf (.int 1)))
noncomputable def hpF:Fs:=(zad (sFz [1] (sIf (eOr (eUn zev (eFn zaA [(zac 1),(zaf (.int 2)),(zaf (.int 2))])) (eOr (eUn zev (eFn zaV [(zag ixD (zah 1) (zaf (.int 0)))])) (eUn zev (eFn zaV [(zag ixD (zah 1) (zaf (.int 1)))])))) (zad (sFz [] (zaP (zaf (.bl false)))) sNx) sNx))
  (zad (sFz [0] (zaK 2 false (eFn zcj [(zac 0)]))) (zad (sFz [] (zaP (zfs hp1 hp2))) sNx)))
def zuD:zeI=hpF:=rfl
def zcs(h1:1<=r):zaI [flr r c g,.tup [.int i,.int j]] S=.ok (.bl (decide ((0<=i/\i<r)/\0<=j/\j<c))) S:=by
 have ht:zaA [.tup [.int i,.int j],.int 2,.int 2] S=.ok (.bl true) S:=by rw[zdV];simp
 have sz:=zhd (c:=c) (g:=g) (S:=S) h1
 have t1:∀x,hp1 [x,~~~.tup [.int i,.int j],~~~.tup [.int r,.int c]] S=.ok (.bl (decide (0<=i/\i<r))) S:=fun x=>by
  by_cases a:0<=i<;>simp[hp1,a]
 have b:∀x,hp2 [x,~~~.tup [.int i,.int j],~~~.tup [.int r,.int c]] S=.ok (.bl (decide (0<=j/\j<c))) S:=fun x=>by
  by_cases a:0<=j<;>simp[hp2,a]
 rw[Bool.decide_and];generalize decide (0<=i/\i<r)=d,decide (0<=j/\j<c)=e,flr r c g=fl at*;simp only[zaI,zaj,zuD]
 cases d<;>simp[hpF,ht,zdw,sz,t1,b]
noncomputable def InT(ts:Z2)(g:Z1):Prop:=∀i j x,g i j=some x->0<=x/\x<ts.length
noncomputable def zfd(ts:Z2)(r c:Nat)(g:Z1)(i j s:Nat):Option Int:=if i<r/\j<c then(g i j).map fun x=>zaL ts x s else none
theorem zfH{ts:Z2}{r c:Nat}{g:Z1}{i j s:Nat}{S:Sto}(ht:TOk ts)(I:InT ts g)(h1:1<=r)(hs:s<4):zaW [.tup (ts.map zab),flr r c g,plD i j,.int s] S=.ok (oD (zfd ts r c g i j s)) S:=by
 unfold zfd
 by_cases h:i<r/\j<c
 ·have f:zaI [flr r c g,plD i j] S=.ok (.bl true) S:=by rw[zcs h1];congr 3;simp;omega
  have a:=zbL (g:=g) (S:=S) h.1 h.2;have b:=zb9 (ts:=ts.map zab) (o:=g i j) (S:=S) (fun x d=>by simpa using I i j x d);rw[if_pos h]
  cases d:g i j with
  |none=>
   rw[d]at a b;simp only[oD]at a b;simp[zaW,zaj,zd4,f,a,b,oD]
  |some x=>
   obtain⟨x0,x1⟩:=I i j x d;rw[d]at a b;have e:=zfP ht x0 x1
   have es:atI ([zaL ts x 0,zaL ts x 1,zaL ts x 2,zaL ts x 3].map D.int) (s:Int)=some (.int (zaL ts x s)):=by
    rw[zbZ]
    match s,hs with
    |0,_=>rfl|1,_=>rfl|2,_=>rfl|3,_=>rfl
   simp only[oD]at a b;simp only[yau,ydg]at e es;simp[zaW,zaj,zd4,f,a,b,oD,e,es]
 ·have f:zaI [flr r c g,plD i j] S=.ok (.bl false) S:=by rw[zcs h1];congr 3;simp;omega
  rw[if_neg h];simp[zaW,zaj,zd4,f,oD]
theorem znF(ht:TOk ts)(I:InT ts g)(h1:1<=r):zcb [.tup (ts.map zab),flr r c g,plD i j] S=.ok (.tup [oD (zfd ts r c g i j 1),oD (zfd ts r c g i (j+1) 3)]) S:=by
 have b:zaW [.tup (ts.map zab),flr r c g,.tup [.int i,.int j],.int 1] S=_:=zfH (i:=i) (j:=j) (s:=1) (S:=S) (c:=c) ht I h1 (by omega);have a:zaW [.tup (ts.map zab),flr r c g,.tup [.int i,.int ((j:Int)+1)],.int 3] S=_:=zfH (i:=i) (j:=j+1) (s:=3) (S:=S) (c:=c) ht I h1 (by omega);simp[zcb,zaj,zde,plD,b,a]
theorem zlx(ht:TOk ts)(I:InT ts g)(h1:1<=r):zbQ [.tup (ts.map zab),flr r c g,plD i j] S=.ok (.tup [oD (zfd ts r c g i j 2),oD (zfd ts r c g (i+1) j 0)]) S:=by
 have b:zaW [.tup (ts.map zab),flr r c g,.tup [.int i,.int j],.int 2] S=_:=zfH (i:=i) (j:=j) (s:=2) (S:=S) (c:=c) ht I h1 (by omega);have a:zaW [.tup (ts.map zab),flr r c g,.tup [.int ((i:Int)+1),.int j],.int 0] S=_:=zfH (i:=i+1) (j:=j) (s:=0) (S:=S) (c:=c) ht I h1 (by omega);simp[zbQ,zaj,zcI,plD,b,a]
noncomputable def cl2:Option Int->Option Int->Bool|some a,some b=>!decide (a=b)|_,_=>false
def zh2:zdn [.tup [oD a,oD b]] S=.ok (.bl (cl2 a b)) S:=by
 cases a<;>cases b
 all_goals simp[zdn,zaj,zfr,oD,cl2,zkZ,zgA,zif,zeX,D.py,PyData.eqv]
noncomputable def clD(d:D)(s:Str):D:=.tup [d,.str s]
def clG(ts:Z2)(r c:Nat)(g:Z1):D->List D
 |.tup [.int i,.int j]=>(if cl2 (zfd ts r c g i.toNat j.toNat 1) (zfd ts r c g i.toNat (j.toNat+1) 3)then[clD (.tup [.int i,.int j]) "east"]else[])++(if cl2 (zfd ts r c g i.toNat j.toNat 2) (zfd ts r c g (i.toNat+1) j.toNat 0)then[clD (.tup [.int i,.int j]) "south"]else[])
 |_=>[]
def clL(ts:Z2)(r c:Nat)(g:Z1):List D:=(zcn r c).flatMap (clG ts r c g)
def zrK:(clG ts r c g d).length<=2:=by
 unfold clG;split
 ·rw[yak];split<;>split<;>simp
 ·simp
theorem zrJ(I:r<=100)(J:c<=100):(clL ts r c g).length<=20000:=by
 refine yal (zj1 fun d _=>zrK) ?_;rw[zdY];have:r*c<=100*100:=ybv I J;omega
theorem zfZ(ht:TOk ts)(J:InT ts g)(h1:1<=r)(I:r<=100)(U:c<=100):zcE [.tup (ts.map zab),flr r c g] S=.ok (.lst (clL ts r c g)) S:=by
 obtain⟨k,e⟩:=zek (tg:=.one 3) (body:=zeN) (S:=S) (fun L (x:Option (Bool×D))=>[~~~.tup (ts.map zab),~~~flr r c g,some (true,.lst L),x]) (clG ts r c g) 50000 (ds:=zcn r c) (by
  intro d hd L x m;obtain⟨i,j,hi,l,rfl⟩:=zbx hd;refine⟨_,~~~plD i j,rfl,?_⟩;have f:=znF (i:=i) (j:=j) (S:=S) (c:=c) ht J h1;have b:=zlx (i:=i) (j:=j) (S:=S) (c:=c) ht J h1
  have h:L.length<=100000:=by omega
  have a:L.length+1<=100000:=by omega
  simp only[plD]at f b
  cases a1:cl2 (zfd ts r c g i j 1) (zfd ts r c g i (j+1) 3)<;>cases a2:cl2 (zfd ts r c g i j 2) (zfd ts r c g (i+1) j 0)<;>simp[zeN,plD,f,b,zh2,a1,a2,clG,clD,h,a]) [] none (by have:=zrJ (ts:=ts) (g:=g) I U;unfold clL at this;simp only[ybI];omega)
 simp at e;simp[zcE,zaj,zgr,zbd h1 I U,e,clL]
noncomputable def zkG(r c:Nat)(g:Z1):Bool:=decide (∀i,i<r->∀j,j<c->(g i j).isSome=true)
def zlz(ht:TOk ts)(U:InT ts g)(h1:1<=r)(I:r<=100)(J:c<=100):zdl [.tup (ts.map zab),flr r c g] S=.ok (.bl (zkG r c g&&decide (clL ts r c g=[]))) S:=by
 have e:zcS (.one 0) zhs (eFn zaG [(zac 2),(eFn zak [(zac 1),(zac 0)])]) [none,~~~flr r c g,~~~.tup (ts.map zab)] (zcn r c) S=.ok ((zcn r c).map fun d=>.bl (zer g d)) S:=by
  rw[zcR];intro d hd;obtain⟨i,j,hi,a,rfl⟩:=zbx hd;exact⟨_,rfl,by simp[zbL hi a,zb9 (ts:=ts.map zab) (o:=g i j) (fun x h=>by simpa using U i j x h),zer]⟩
 have f:(zcn r c).all (zer g)=zkG r c g:=by
  rw[ybH];unfold zkG;rw[ybs,ycJ];constructor
  ·intro H i hi j a;simpa[zer]using H (plD i j) (zlR hi a)
  ·intro H d hd;obtain⟨i,j,hi,a,rfl⟩:=zbx hd;simpa[zer]using H i hi j a
 have b:(zcn r c).length<=100000:=by
  rw[zdY];have:r*c<=100*100:=ybv I J;omega
 have k:decide ((clL ts r c g).length=0)=decide (clL ts r c g=[]):=by rw[decide_eq_decide];exact List.length_eq_zero_iff
 cases hf:zkG r c g
 ·simp[zdl,zaj,zeo,zbd h1 I J,e,b,all_map,f,hf]
 ·simp[zdl,zaj,zeo,zbd h1 I J,e,b,all_map,f,hf,zfZ ht U h1 I J]
noncomputable def sdL:List (Nat×Nat):=[(1,1),(1,2),(2,1),(2,2),(2,2),(1,4),(2,3),(3,2),(3,1),(2,3)]
theorem zly(I:0<=at'):∃r c:Nat,1<=r/\r<=3/\1<=c/\c<=4/\r*c<=6/\zc0 [.scr l,.int at'] S=.ok (.tup [.int r,.int c]) S:=by
 have p:=zbq (l:=l) (S:=S) (many:=10) I (by decide);have n:=zb3 l at' (many:=10) (by decide);generalize zb0 l at' 10=q at*
 have a:q.toNat<sdL.length:=by show q.toNat<10;omega
 have e:atI (sdL.map fun p:Nat×Nat=>D.tup [.int p.1,.int p.2]) q=some (.tup [.int sdL[q.toNat].1,.int sdL[q.toNat].2]):=by rw[zdN n.1,yao,yab a];rfl
 obtain⟨a1,a2,f,d,b⟩:=(by decide:∀p∈sdL,1<=p.1/\p.1<=3/\1<=p.2/\p.2<=4/\p.1*p.2<=6) _ (ya1 a);refine⟨_,_,a1,a2,f,d,b,?_⟩;generalize (sdL[q.toNat])=y at*;simp only[sdL,yau,ydg]at e;simp at e;simp[zc0,zaj,zd6,p,e]
theorem zkb(h:t≠[]):atI (t.map D.int) (-1)=some (.int (t.getLastD 0)):=by
 have a:0<t.length:=by cases t with|nil=>exact absurd rfl h|cons _ _=>simp
 have e:atI (t.map D.int) (-1)=(t.map D.int)[t.length-1]?:=by
  unfold atI ixN;rw[if_neg (by omega),if_pos (by rw[yad];omega)];show(t.map D.int)[(-1+((t.map D.int).length:Int)).toNat]?=_;congr 1;rw[yad];omega
 rw[e,yao,yab (by omega)];rw[List.getLastD_eq_getLast?,List.getLast?_eq_getElem?,yab (by omega)];rfl
noncomputable def zpA(ts:Z2)(c:Nat)(t:List Int)(n:Int):Bool:=decide ((0<t.length % c->zaL ts (t.getLastD 0) 1=zaL ts n 3)/\(c<=t.length->zaL ts (t.getD (t.length-c) 0) 2=zaL ts n 0))
noncomputable def InR(ts:Z2)(t:List Int):Prop:=∀x∈t,0<=x/\x<ts.length
def zoz{t:List Int}(h:t≠[]):t.getLastD 0∈t:=by
 cases t with
 |nil=>exact absurd rfl h|cons a t=>rw[List.getLastD_cons];exact List.getLastD_mem_cons
def zjl{ts:Z2}(ht:TOk ts){x:Int}(h:0<=x/\x<ts.length):atI (ts.map zab) x=some (.tup [.int (zaL ts x 0),.int (zaL ts x 1),.int (zaL ts x 2),.int (zaL ts x 3)]):=zfP ht h.1 h.2
noncomputable def unI:D->Int|.int i=>i|_=>0
def zjj{t:List Int}:(t.map D.int).map unI=t:=by
 induction t with
 |nil=>rfl|cons a t b=>simp only[yau,b];rfl
theorem zoU(ht:TOk ts)(h:d∈zdh (ts.map zab)):∃n:Nat,n<ts.length/\d=.tup [.int n,.tup [.int (zaL ts n 0),.int (zaL ts n 1),.int (zaL ts n 2),.int (zaL ts n 3)]]:=by
 obtain⟨k,c⟩:=List.getElem?_of_mem h;obtain⟨y,a,rfl⟩:=zfc c
 have b:k<ts.length:=by
  have:=(yaj.mp a).1;simpa using this
 refine⟨k,b,?_⟩;have:=zjl ht (x:=(k:Int)) ⟨by omega,by omega⟩;rw[zbZ,a]at this;rw[Option.some.inj this]
noncomputable def zvD:D->List D|.tup l=>l|_=>[]
theorem zh3{t:List Int}{r c:Nat}{S:Sto}(I:t.length=r*c)(hc:1<=c)(U:c<=100)(hr:r<=100)(J:r*c<=1000):zbR [zab t,.int c] S=.ok (flr r c fun i j=>some (t.getD (i*c+j) 0)) S:=by
 have m:(((r*c:Nat):Int)+(c:Int)-1) / (c:Int)=(r:Int):=by
  rw[ydd]
  have:((r:Int)*(c:Int)+(c:Int)-1)=((c:Int)-1)+(r:Int)*(c:Int):=by omega
  rw[this,Int.add_mul_ediv_right _ _ (by omega),Int.ediv_eq_zero_of_lt (by omega) (by omega)];omega
 have o:zeU ((r*c:Nat):Int) (c:Int)=(List.range r).map fun i:Nat=>.int ((i*c:Nat):Int):=by
  unfold zeU;rw[m];simp[ydd]
 have l:zcS (.one 0) zhs (zay zcq [(eSl (zah 2) (some (zah 0)) (some (zag zb1 (zah 0) (zah 1))))]) [none,~~~.int c,~~~zab t] ((List.range r).map fun i:Nat=>.int ((i*c:Nat):Int)) S=.ok (zdc r c fun i j=>some (t.getD (i*c+j) 0)) S:=by
  have f:∀d∈(List.range r).map fun i:Nat=>D.int ((i*c:Nat):Int),∃a,(Tg.one 0).put [none,~~~.int c,~~~zab t] d=some a/\zay zcq [(eSl (zah 2) (some (zah 0)) (some (zag zb1 (zah 0) (zah 1))))] a S=.ok ((fun d=>match d with|.int i=>.tup (((t.map D.int).drop i.toNat).take c)|_=>.non) d) S:=by
   intro d hd;obtain⟨i,hi,rfl⟩:=yar.mp hd;rw[yaX]at hi;refine⟨_,rfl,?_⟩
   have e:zff (t.map D.int) (some ((i*c:Nat):Int)) (some (((i*c:Nat):Int)+(c:Int)))=((t.map D.int).drop (i*c)).take c:=by
    unfold zff;rw[show((i*c:Nat):Int)+(c:Int)=((i*c+c:Nat):Int)by omega,HT.zfk,HT.zfk,yad,I]
    have h1:i*c+c<=r*c:=by
     have:=ybk c (show i+1<=r by omega);rwa[yb8]at this
    rw[ycc h1,ycc (show i*c<=r*c by omega),show i*c+c-i*c=c by omega]
   have p:(t.map D.int).drop (((i*c:Nat):Int)).toNat=(t.map D.int).drop (i*c):=by rw[yaI]
   rw[<-p]at e;generalize ((i*c:Nat):Int)=q at*;simp[zab,e]
  rw[zcR f,ybb];congr 1;unfold zdc;refine ydb fun i hi=>?_
  rw[yaX]at hi;show D.tup (((t.map D.int).drop (((i*c:Nat):Int)).toNat).take c)=zf1 c _;rw[yaI];unfold zf1;congr 1
  have h1:i*c+c<=r*c:=by
   have:=ybk c (show i+1<=r by omega);rwa[yb8]at this
  apply ybn;intro j;rw[ydm]
  by_cases k:j<c
  ·rw[if_pos k,ybz,zeT k,yao,yab (by omega)];simp[oD,yav,yab (show i*c+j<t.length by omega)]
  ·rw[if_neg k,yaP (by simp;omega)]
 have n:(0:Int)<=((r*c:Nat):Int)/\((r*c:Nat):Int)<=1000/\1<=(c:Int)/\(c:Int)<=1000:=by omega
 have h:r<=100000:=by omega
 rw[<-o]at l;generalize b:((r*c:Nat):Int)=g at*
 have hlen:((t.map D.int).length:Int)=g:=by rw[yad,I];exact b
 unfold zab at*;simp only[zbR,zaj,zcK,zpd,zvs,zr5,zr6,zvw,yau,ydg,yan,ybI,ycZ,ybQ,yaS,List.replicate,ycG,ycF,zum,zr2,zpX,zpW,zpV,zsa,zr3,zr8,zr9,zr7,zwk,zwg,zrc,zrb,zre,zr4,hlen,Out.of_some,zuk,show(0:Int)=0 from rfl,true_and,if_pos n,zun,zk3,zsb,zwj,l,zrd,zfO,zdE,yax h,ycM,zr1,zul,zui,zuj,ybx];rfl
noncomputable def zd2:Fs:=
  (zad (sFz [] (zaK 1 false (zag ixD (zah 0) (zaf (.int 0)))))
  (zad (sFz [] (zaK 2 false (zag ixD (zah 0) (zaf (.int 1)))))
  (zad (sFz [2,1,1,2] (zaP (zez [(zcU [(zag zlj (zah 1) (zaf (.int 1))),(zac 2)]),(zcU [(zac 1),(zag zlj (zah 2) (zaf (.int 1)))]),(zcU [(zac 1),(zag zb1 (zah 2) (zaf (.int 1)))]),(zcU [(zag zb1 (zah 1) (zaf (.int 1))),(zac 2)])])))
  sNx)))
noncomputable def zcY:List S2.D->Sto->Out S2.D:=za2 3 true zd2
noncomputable def zdf:Fs:=
  (zad (sFz [0,1] (zaK 2 false (eFn zak [(zac 0),(zac 1)])))
  (zad (sFz [1,0,2] (zaP (zes 1 (.one 0) (za1 (eFn zcY [(zac 1)])) (zfs (eFn zaI [(zac 1),(zac 0)]) (zag eqD (eFn zak [(zac 1),(zac 0)]) (zah 2))) (zac 0) [0,2])))
  sNx))
noncomputable def zcc:List S2.D->Sto->Out S2.D:=za2 3 true zdf
noncomputable def zc7:Fs:=
  (zad (sFz [] (sIf (zio 2 (zac 5)) (zad (sFz [] (zkm 2 5)) (zad (sFz [5] (zhJ 3 (zac 5))) sNx)) sNx)) sNx)
noncomputable def zfM:Fs:=
  (zad (sFz [] (zrT 4 3)) (zad (sFz [0,4] (zfT (.one 5) (za1 (eFn zcc [(zac 0),(zac 4)])) zc7)) sNx))
noncomputable def zj3:Fs:=
  (zad (sFz [0,1] (zlu (eFn zaw [(zac 0),(zac 1)])))
  (zad (sFz [] (zaK 2 true (zg0 1)))
  (zad (sFz [1] (zaK 3 true (zez [(zac 1)])))
  (zad (sFz [] (zjv 100000 (zag gtD (zay zdB [(zah 3)]) (zaf (.int 0))) zfM))
  (zad (sFz [2] (zaP (zkM 2)))
  sNx)))))
noncomputable def zh6:List S2.D->Sto->Out S2.D:=za2 6 false zj3
noncomputable def zbN:Fs:=
  (zad (sFz [0,4,5,3] (zaK 4 false (eFn zat [(zac 0),(zac 4),(zac 5),(zac 3)]))) sNx)
noncomputable def ze7:Fs:=
  (zad (sFz [1] (zaK 4 false (zac 1)))
  (zad (sFz [1,2] (zfT (.one 5) (za1 (eFn zh6 [(zac 1),(zac 2)])) zbN))
  (zad (sFz [4] (zaP (zac 4)))
  sNx)))
noncomputable def zbE:List S2.D->Sto->Out S2.D:=za2 6 false ze7
noncomputable def zc5:Fs:=
  (zad (sFz [1] (zeQ "Painter" "tiles" (zac 0) (zac 1)))
  (zad (sFz [2] (zeQ "Painter" "now" (zac 0) (zac 2)))
  (zad (sFz [] (zhX "Painter" "before" 0))
  (zad (sFz [] (zhX "Painter" "after" 0))
  sNx))))
noncomputable def zbT:List S2.D->Sto->Out S2.D:=za2 3 false zc5
noncomputable def zcQ:Fs:=
  (zad (sFz [] (zaP (zdT "Painter" "now" (zac 0))))
  sNx)
noncomputable def zbm:List S2.D->Sto->Out S2.D:=za2 1 false zcQ
noncomputable def zb7:Fs:=
  (zad (sFz [] (zaP (eFn zcE [(zdT "Painter" "tiles" (zac 0)),(zdT "Painter" "now" (zac 0))])))
  sNx)
noncomputable def zbs:List S2.D->Sto->Out S2.D:=za2 1 false zb7
noncomputable def za8:Fs:=
  (zad (sFz [] (zaP (eFn zdm [(zdT "Painter" "tiles" (zac 0)),(zdT "Painter" "now" (zac 0))])))
  sNx)
noncomputable def zaE:List S2.D->Sto->Out S2.D:=za2 1 false za8
noncomputable def zcO:Fs:=
  (zad (sFz [] (zaP (zcU [(zgv "Painter" "before" 0),(zgv "Painter" "after" 0)])))
  sNx)
noncomputable def zbS:List S2.D->Sto->Out S2.D:=za2 1 false zcO
noncomputable def za7:Fs:=
  (zad (sFz [] (sIf (zag neD (zah 1) (zdT "Painter" "now" (zac 0))) (zad (sFz [] (zgB "Painter" "before" 0 (znO "Painter" "now" (znN 0)))) (zad (sFz [] (zhX "Painter" "after" 0)) (zad (sFz [1] (zeQ "Painter" "now" (zac 0) (zac 1))) sNx))) sNx))
  sNx)
noncomputable def zaq:List S2.D->Sto->Out S2.D:=za2 2 false za7
noncomputable def zcy:Fs:=
  (zad (sFz [1,2] (zlu (zaJ "Painter" "change_to" zaq (zac 0) [(eFn zat [(zdT "Painter" "tiles" (zac 0)),(zdT "Painter" "now" (zac 0)),(zac 1),(zac 2)])])))
  sNx)
noncomputable def za4:List S2.D->Sto->Out S2.D:=za2 3 false zcy
noncomputable def zcf:Fs:=
  (zad (sFz [1,2] (zlu (zaJ "Painter" "change_to" zaq (zac 0) [(eFn zbE [(zdT "Painter" "tiles" (zac 0)),(zdT "Painter" "now" (zac 0)),(zac 1),(zac 2)])])))
  sNx)
noncomputable def zaS:List S2.D->Sto->Out S2.D:=za2 3 false zcf
noncomputable def zcP:Fs:=
  (zad (sFz [] (zlu (zaJ "Painter" "change_to" zaq (zac 0) [(eFn za3 [(zdT "Painter" "tiles" (zac 0)),(zdT "Painter" "now" (zac 0))])])))
  sNx)
noncomputable def zbl:List S2.D->Sto->Out S2.D:=za2 1 false zcP
noncomputable def zbG:Fs:=
  (zad (sFz [1] (sIf (eUn zev (eFn zbP [(zdT "Painter" "tiles" (zac 0)),(zdT "Painter" "now" (zac 0)),(zac 1)])) (zad (sFz [] (sRz "NoFill" [(zaf (.str "this is no fill of the floor"))])) sNx) sNx))
  (zad (sFz [1] (zlu (zaJ "Painter" "change_to" zaq (zac 0) [(zac 1)])))
  sNx))
noncomputable def zaD:List S2.D->Sto->Out S2.D:=za2 2 false zbG
noncomputable def zcd:Fs:=
  (zad (sFz [] (sIf (zag eqD (zgv "Painter" "before" 0) (zaf (.int 0))) (zad (sFz [] (sRz "Nothing" [(zaf (.str "there is no change to take back"))])) sNx) sNx))
  (zad (sFz [] (zgB "Painter" "after" 0 (znO "Painter" "now" (znN 0))))
  (zad (sFz [] (zeQ "Painter" "now" (zac 0) (zhu "Painter" "before" 0)))
  sNx)))
noncomputable def zaH:List S2.D->Sto->Out S2.D:=za2 1 false zcd
noncomputable def zce:Fs:=
  (zad (sFz [] (sIf (zag eqD (zgv "Painter" "after" 0) (zaf (.int 0))) (zad (sFz [] (sRz "Nothing" [(zaf (.str "there is no change to do again"))])) sNx) sNx))
  (zad (sFz [] (zgB "Painter" "before" 0 (znO "Painter" "now" (znN 0))))
  (zad (sFz [] (zeQ "Painter" "now" (zac 0) (zhu "Painter" "after" 0)))
  sNx)))
noncomputable def zaR:List S2.D->Sto->Out S2.D:=za2 1 false zce
noncomputable def zbM:Fs:=
  (zad (sFz [1] (sIf (zfs (zag ltD (zah 2) (zaf (.int 4))) (zag zkZ (zah 3) (eFn zaQ [(zac 1)]))) (zad (sFz [] (zaP (zaf (.str "no place")))) sNx) sNx))
  (zad (sFz [] (sIf (zfs (zag ltD (zah 2) (zaf (.int 4))) (zag eqD (zah 4) (zay zdB [(zah 0)]))) (zad (sFz [] (zaP (zaf (.str "no tile")))) sNx) sNx))
  (zad (sFz [] (sIf (zag ltD (zah 2) (zaf (.int 3))) (zad (sFz [0,1,3,4] (zaP (eFn zat [(zac 0),(zac 1),(zac 3),(zac 4)]))) sNx) sNx))
  (zad (sFz [] (sIf (zag eqD (zah 2) (zaf (.int 3))) (zad (sFz [0,1,3,4] (zaP (eFn zbE [(zac 0),(zac 1),(zac 3),(zac 4)]))) sNx) sNx))
  (zad (sFz [] (sIf (zag eqD (zah 2) (zaf (.int 4))) (zad (sFz [0,1] (zaP (eFn za3 [(zac 0),(zac 1)]))) sNx) sNx))
  (zad (sFz [0,1,5,5] (zaP (eIf (eFn zbP [(zac 0),(zac 1),(zac 5)]) (zac 5) (zaf (.str "no fill")))))
  sNx))))))
noncomputable def zav:List S2.D->Sto->Out S2.D:=za2 6 false zbM
noncomputable def zc4:Fs:=
  (zad (sFz [0,1] (zaK 4 false (eFn zcl [(zac 0),(zac 1)])))
  (zad (sFz [2] (zaP (eIf (zag eqD (zah 4) (zez [])) (zac 2) (eFn zbR [(zag ixD (zah 4) (zag zky (zah 3) (zay zdB [(zah 4)]))),(zay zdB [(zag ixD (zah 1) (zaf (.int 0)))])]))))
  sNx))
noncomputable def zck:List S2.D->Sto->Out S2.D:=za2 5 false zc4
noncomputable def zwm(und:Str->Str->Bool)(C:Str)(i j:Nat):Fo->Fo
 |.ex c a S'=>if und c C&&decide (i<a.length)then .nx ((a.set j (~~~.exc c)).set i none) S' else .bad
 |o=>o
section
variable{ρ:Env}{S:Sto}{f g:Fe}{a:Fs}
@[simp] def zw1:zs4 und C i j a ρ S=zwm und C i j (a ρ S):=(rfl)
@[simp] def zxI:zwm und C i j (.nx ρ S)=.nx ρ S:=(rfl)
@[simp] def zxH:zwm und C i j (.ex c ρ S)=if und c C&&decide (i<ρ.length)then .nx ((ρ.set j (~~~.exc c)).set i none) S else .bad:=(rfl)
@[simp] def zxe:zdD (.exc c)=false:=(rfl)
end
noncomputable abbrev Gf:=Nat->Nat->Option Int
noncomputable def ov(g h:Gf):Gf:=fun i j=>(h i j).or (g i j)
noncomputable def un(g h:Gf):Gf:=fun i j=>if(h i j).isSome then none else g i j
noncomputable def sh1:D->Bool|.non=>true|.bl _=>true|.int _=>true|.str _=>true|.tup _=>true|.lst _=>true|_=>false
def sh2:D->Bool|.tup l=>l.all sh1|d=>sh1 d
def zyi(c f:Str):Out D->Out D|.ok d S=>(match zhr c f d S with|some r=>.ok r S|none=>.bad)|.exc c S=>.exc c S|.bad=>.bad
noncomputable def zgS(G:List D->Sto->Out D)(d:D):Out (List D)->Out D|.ok ds S=>G (d::ds) S|.exc c S=>.exc c S|.bad=>.bad
def zus(c m:Str)(G:List D->Sto->Out D)(fs:List Fe)(ρ:Env):Out D->Out D|.ok d S=>if zdq c m d S then zgS G d (zao fs ρ S)else .bad|.exc c S=>.exc c S|.bad=>.bad
noncomputable def zvh(n:Nat):Out D->Out D|.ok r S=>(match r with|.non=>.ok (.ref n) S|_=>.bad)|.exc c S=>.exc c S|.bad=>.bad
noncomputable def kMk(c:Str)(I:List D)(G:List D->Sto->Out D):Out (List D)->Out D|.ok ds S=>zvh S.length (G (.ref S.length::(ds++I)) (S++[⟨c,[]⟩]))|.exc c S=>.exc c S|.bad=>.bad
def zoB(c f:Str)(I:D):Out D->Out D|.ok d S=>(match zjN I,zhK c f d S with|some k,some (_,_,ds)=>.ok (.bl (zbI k ds).isNone) S|_,_=>.bad)|.exc c S=>.exc c S|.bad=>.bad
noncomputable def zye(c f:Str)(fo:Fe)(ρ:Env):Out D->Out D|.ok d S=>zoB c f d (fo ρ S)|.exc c S=>.exc c S|.bad=>.bad
def zyh(c f:Str)(o:Option NK):Out D->Out D|.ok d S=>(match o,zhK c f d S with|some k,some (_,_,ds)=>(match zbI k ds with|some r=>.ok r S|none=>.bad)|_,_=>.bad)|.exc c S=>.exc c S|.bad=>.bad
section
variable{ρ:Env}{S:Sto}{f g h k:Fe}
@[simp] def zxp:zdT c x f ρ S=zyi c x (f ρ S):=by unfold zdT;cases f ρ S<;>rfl
@[simp] def zzQ:zyi c x (.ok d S)=(match zhr c x d S with|some r=>.ok r S|none=>.bad):=(rfl)
@[simp] def zvy:zaJ c m G f fs ρ S=zus c m G fs ρ (f ρ S):=by
 unfold zaJ
 cases f ρ S with
 |ok d S1=>
  show(if zdq c m d S1 then(zao fs ρ S1).bind fun ds S2=>G (d::ds) S2 else .bad)=(if zdq c m d S1 then zgS G d (zao fs ρ S1)else .bad)
  cases zao fs ρ S1<;>rfl
 |exc c S=>rfl|bad=>rfl
@[simp] def zxT:zus c m G fs ρ (.ok d S)=if zdq c m d S then zgS G d (zao fs ρ S)else .bad:=(rfl)
@[simp] def zwh:zgS G d (.ok ds S)=G (d::ds) S:=(rfl)
@[simp] def zyT:eMk c I G fs ρ S=kMk c I G (zao fs ρ S):=by
 unfold eMk
 cases zao fs ρ S with
 |ok ds S1=>
  show((G (.ref S1.length::(ds++I)) (S1++[⟨c,[]⟩])).bind fun r S2=>match r with|.non=>.ok (.ref S1.length) S2|_=>.bad)=zvh S1.length (G (.ref S1.length::(ds++I)) (S1++[⟨c,[]⟩]))
  cases G (.ref S1.length::(ds++I)) (S1++[⟨c,[]⟩])<;>rfl
 |exc c S=>rfl|bad=>rfl
@[simp] def zAy:kMk c I G (.ok ds S)=zvh S.length (G (.ref S.length::(ds++I)) (S++[⟨c,[]⟩])):=(rfl)
@[simp] def zzG:zvh n (.ok .non S)=.ok (.ref n) S:=(rfl)
@[simp] def zxm:zpF c x f g ρ S=zye c x g ρ (f ρ S):=by
 unfold zpF
 cases f ρ S with
 |ok d S1=>
  show((g ρ S1).bind fun d' S2=>match zjN d,zhK c x d' S2 with|some k,some (_,_,ds)=>.ok (.bl (zbI k ds).isNone) S2|_,_=>.bad)=zoB c x d (g ρ S1)
  cases g ρ S1<;>rfl
 |exc c S=>rfl|bad=>rfl
@[simp] def zzF:zye c x g ρ (.ok d S)=zoB c x d (g ρ S):=(rfl)
@[simp] def zxS:zoB c x I (.ok d S)=(match zjN I,zhK c x d S with|some k,some (_,_,ds)=>.ok (.bl (zbI k ds).isNone) S|_,_=>.bad):=(rfl)
@[simp] def zxo:zkO c x f i ρ S=zyh c x (zk0 ρ i) (f ρ S):=by unfold zkO;cases f ρ S<;>rfl
@[simp] def zzN:zyh c x o (.ok d S)=(match o,zhK c x d S with|some k,some (_,_,ds)=>(match zbI k ds with|some r=>.ok r S|none=>.bad)|_,_=>.bad):=(rfl)
end
noncomputable def wOb(T Gd I:D)(b:Bool)(ds:List (D×D)):Ob:=⟨"Ways",[("tiles",false,T),("ground",false,Gd),("size",false,I),("is_round",false,.bl b),("known",true,.dic ds)]⟩
def zt0(o:Option Int):oDn o=oD o:=by cases o<;>rfl
structure WAt(S:Sto)(n:Nat)(ts:Z2)(gr:Z4)(r c:Nat)(b:Bool)(ds:List (D×D)):Prop where
 at_:S[n]?=some (wOb (.tup (ts.map zab)) (.lst (gr.map oD)) (.tup [.int r,.int c]) b ds)
section
variable{S:Sto}{n:Nat}{ts:Z2}{gr:Z4}{r c:Nat}{b:Bool}{ds:List (D×D)}
theorem WAt.tiles(h:WAt S n ts gr r c b ds):zhr "Ways" "tiles" (.ref n) S=some (.tup (ts.map zab)):=by
 unfold zhr;dsimp only;rw[h.at_];rfl
theorem WAt.ground(h:WAt S n ts gr r c b ds):zhr "Ways" "ground" (.ref n) S=some (.lst (gr.map oD)):=by
 unfold zhr;dsimp only;rw[h.at_];rfl
theorem WAt.size(h:WAt S n ts gr r c b ds):zhr "Ways" "size" (.ref n) S=some (.tup [.int r,.int c]):=by
 unfold zhr;dsimp only;rw[h.at_];rfl
def WAt.round(h:WAt S n ts gr r c b ds):zhr "Ways" "is_round" (.ref n) S=some (.bl b):=by
 unfold zhr;dsimp only;rw[h.at_];rfl
theorem WAt.known(h:WAt S n ts gr r c b ds):zhK "Ways" "known" (.ref n) S=some (n,wOb (.tup (ts.map zab)) (.lst (gr.map oD)) (.tup [.int r,.int c]) b ds,ds):=by
 unfold zhK;dsimp only;rw[h.at_];rfl
def WAt.meth(h:WAt S n ts gr r c b ds)(m:Str)(hm:(m=="tiles")=false/\(m=="ground")=false/\(m=="size")=false/\(m=="is_round")=false/\(m=="known")=false):zdq "Ways" m (.ref n) S=true:=by
 unfold zdq;dsimp only;rw[h.at_];obtain⟨h1,h2,d,h4,a⟩:=hm;simp[wOb,yaz,h1,h2,d,h4,a]
def WAt.len(h:WAt S n ts gr r c b ds):n<S.length:=(yaj.mp h.at_).1
def WAt.put(h:WAt S n ts gr r c b ds)(I:List (D×D)):WAt (S.set n (wOb (.tup (ts.map zab)) (.lst (gr.map oD)) (.tup [.int r,.int c]) b I)) n ts gr r c b I:=⟨by rw[yaw h.len]⟩
def zaT(s:Z4):D:=.tup (s.map oD)
def znx:zjN (.tup [.int k,zaT s])=some (k,s):=by
 have:zaT s=.tup (s.map oDn):=by unfold zaT;rw[show oDn=oD from funext zt0]
 rw[this];exact ze1 (k,s)
theorem zj0{α:Type}{a:α}:∀m:Nat,(List.replicate m [a]).flatten=List.replicate m a
 |0=>rfl|m+1=>by rw[ybf,ybE,zj0 m,ybf];rfl
theorem zet(h:WAt S n ts gr r c b ds)(I:c<=100):zaY [.ref n] S=.ok (zaT (List.replicate (c+2) none)) S:=by
 have e:zhk (.tup [.non]) (.int ((c:Int)+2))=some (zaT (List.replicate (c+2) none)):=by
  show(if _ then _ else _)=_;rw[if_pos (by simp;omega),show((c:Int)+2).toNat=c+2 by omega,zj0];simp[zaT,oD]
 simp[zaY,zaj,zb6,h.size,e]
theorem zfu{k:Nat}(h:WAt S n ts gr r c b ds)(I:1<=c):zaZ [.ref n,.int k] S=.ok (.bl (decide ((k+1) % c=0))) S:=by
 have e:(((k:Int)+1) % (c:Int))=(((k+1) % c:Nat):Int):=by rw[Int.natCast_emod];rfl
 have a:(((k:Int)+1) % (c:Int)=0)=((k+1) % c=0):=propext (by rw[e];omega);simp[zaZ,zaj,zcM,h.size,show 0<c from I,a]
def crO(ts:Z2)(c k:Nat)(s:Z4)(x:Int):Option Int:=if k % c=0 then some (zaL ts x 3)else(s.getLastD none)
def zm6(ts:Z2)(L c:Nat)(b:Bool)(k:Nat)(s:Z4)(x:Int):List (Option Int):=
 (if(k+1) % c=0 then none else some (zaL ts x 1))::((s.drop 2).dropLast++[if L<=k+c then none else some (zaL ts x 2),if b&&!decide ((k+1) % c=0)then crO ts c k s x else none])
def tl(ts:Z2)(x:Int):D:=.tup [.int (zaL ts x 0),.int (zaL ts x 1),.int (zaL ts x 2),.int (zaL ts x 3)]
noncomputable def okO:Option Int->Int->Bool|none,_=>true|some a,y=>decide (a=y)
def zng(ts:Z2)(c:Nat)(b:Bool)(k:Nat)(s:Z4)(x:Int):Bool:=
 okO (s.getD 0 none) (zaL ts x 3)&&okO (s.getD 1 none) (zaL ts x 0)&&(!b||!decide ((k+1) % c=0)||decide (some (zaL ts x 1)=crO ts c k s x))
def zh0:zf2 [oD o,.int y] S=.ok (.bl (okO o y)) S:=by
 cases o<;>simp[zf2,zaj,zi2,oD,okO]
theorem zmq(h:s≠[]):atI (s.map oD) (-1)=some (oD (s.getLastD none)):=by
 have a:0<s.length:=yde.mpr h;unfold atI ixN;rw[yad,if_neg (by omega),if_pos (by omega)];show(s.map oD)[(-1+(s.length:Int)).toNat]?=_;rw[show(-1+(s.length:Int)).toNat=s.length-1 by omega,yao,List.getLastD_eq_getLast?,List.getLast?_eq_getElem?,yab (by omega)];rfl
theorem zdQ{k:Nat}{s:Z4}(h:WAt S n ts gr r c b ds)(I:1<=c)(hs:s.length=c+2):zax [.ref n,.int k,zaT s,tl ts x] S=.ok (oD (crO ts c k s x)) S:=by
 have e:((k:Int) % (c:Int))=((k % c:Nat):Int):=by rw[Int.natCast_emod]
 have a:((k:Int) % (c:Int)=0)=(k % c=0):=propext (by rw[e];omega);have d:=zmq (s:=s) (by rintro rfl;simp at hs)
 by_cases z:k % c=0
 ·simp[zax,zaj,za6,h.size,show 0<c from I,a,z,crO,tl,oD]
 ·simp[zax,zaj,za6,h.size,show 0<c from I,a,z,crO,zaT,d]
theorem zrH{α:Type}{l:List α}(h:3<=l.length):zff l (some 2) (some (-1))=(l.drop 2).dropLast:=by
 unfold zff
 have b:HT.sIx l.length 0 (some 2)=2:=by
  unfold HT.sIx;simp;omega
 have a:HT.sIx l.length l.length (some (-1))=l.length-1:=by
  unfold HT.sIx;simp;omega
 rw[b,a,ycX,ycm];congr 1
noncomputable def sb6:Fe:=eIf (zac 4) (zaf .non) (zag ixD (zah 3) (zaf (.int 1)))
noncomputable def sb7:Fe:=eIf (zac 5) (zaf .non) (zag ixD (zah 3) (zaf (.int 2)))
noncomputable def sb8:Fe:=eIf (zfs (zdT "Ways" "is_round" (zac 0)) (eUn zev (zac 4))) (zaJ "Ways" "colour_round" zax (zac 0) [(zac 1),(zac 2),(zac 3)]) (zaf .non)
noncomputable def sbF:Fs:=(zad (sFz [1] (zaK 4 false (zaJ "Ways" "ends_row" zaZ (zac 0) [(zac 1)])))
  (zad (sFz [] (zaK 5 false (zag geD (zag zb1 (zah 1) (zag ixD (zdT "Ways" "size" (zac 0)) (zaf (.int 1)))) (zay zdB [(zdT "Ways" "ground" (zac 0))]))))
  (zad (sFz [4] (zaK 6 false sb6)) (zad (sFz [5] (zaK 7 false sb7)) (zad (sFz [4,1,2,3] (zaK 8 false sb8))
  (zad (sFz [6,7,8] (zaP (zag zb1 (zag zb1 (zcU [(zac 6)]) (eSl (zah 2) (some (zaf (.int 2))) (some (eUn ziW (zaf (.int 1)))))) (zcU [(zac 7),(zac 8)])))) sNx))))))
def zs3:zbX=sbF:=rfl
def zyo(h1:ρ[i]?=some (~~~.bl bb))(h2:ρ[j]?=some (~~~.tup l))(I:atI l q=some d):eIf (zac i) (zaf .non) (zag ixD (zah j) (zaf (.int q))) ρ S=.ok (if bb then .non else d) S:=by
 cases bb<;>simp[h1,h2,I]
theorem zz3(h:WAt S n ts gr r c b ds)(I:1<=c)(hs:s.length=c+2)(h0:ρ[0]?=some (~~~.ref n))(h1:ρ[1]?=some (~~~.int k))(h2:ρ[2]?=some (~~~zaT s))(J:ρ[3]?=some (~~~tl ts x))(h4:ρ[4]?=some (~~~.bl bb)):
  sb8 ρ S=.ok (if b&&!bb then oD (crO ts c k s x)else .non) S:=by
 have d:=zdQ (k:=k) (s:=s) (x:=x) h I hs;have a:=h.meth "colour_round" (by decide +kernel);generalize tl ts x=tt,zaT s=e at*;cases b
 ·simp[sb8,h0,h.round]
 ·cases bb<;>simp[sb8,h0,h1,h2,J,h4,h.round,a,d]
theorem zfW{k:Nat}{s:Z4}(h:WAt S n ts gr r c b ds)(I:1<=c)(J:c<=100)(hs:s.length=c+2):zbf [.ref n,.int k,zaT s,tl ts x] S=.ok (zaT (zm6 ts gr.length c b k s x)) S:=by
 have z:=zfu (k:=k) h I;have p:=h.meth "ends_row" (by decide +kernel);have y:((gr.length:Int)<=(k:Int)+(c:Int))=(gr.length<=k+c):=propext (by omega)
 have g:zff (s.map oD) (some 2) (some (-1))=((s.drop 2).dropLast).map oD:=by
  rw[zrH (by rw[yad];omega),List.map_dropLast,List.map_drop]
 have w:((s.drop 2).dropLast).length<=100:=by rw[yc1,ycm,hs];omega
 have B:=fun(ρ:Env) (h4:ρ[4]?=some (~~~(.bl (decide ((k+1) % c=0))))) (e:ρ[3]?=some (~~~tl ts x))=>(show sb6 ρ S=_ from zyo (S:=S) (i:=4) (j:=3) (q:=1) (d:=.int (zaL ts x 1)) h4 e rfl)
 have A:=fun(ρ:Env) (h4:ρ[5]?=some (~~~(.bl (decide (gr.length<=k+c))))) (e:ρ[3]?=some (~~~tl ts x))=>(show sb7 ρ S=_ from zyo (S:=S) (i:=5) (j:=3) (q:=2) (d:=.int (zaL ts x 2)) h4 e rfl)
 have l:=fun(ρ:Env)=>zz3 (k:=k) (s:=s) (x:=x) (bb:=decide ((k+1) % c=0)) (ρ:=ρ) h I hs
 have f:zaT (zm6 ts gr.length c b k s x)=.tup ([if decide ((k+1) % c=0)then .non else .int (zaL ts x 1)]++((s.drop 2).dropLast).map oD++[if decide (gr.length<=k+c)then .non else .int (zaL ts x 2),if b&&!decide ((k+1) % c=0)then oD (crO ts c k s x)else .non]):=by
  unfold zm6 zaT
  by_cases o:(k+1) % c=0<;>by_cases m:gr.length<=k+c<;>cases b<;>simp[o,m,oD]
 rw[f];clear f;have a:zaT s=.tup (s.map oD):=rfl;rw[a]at l ⊢;generalize oD (crO ts c k s x)=cr at*;generalize ((s.drop 2).dropLast)=M at g w ⊢;generalize s.map oD=C,tl ts x=tt,(if decide ((k+1) % c=0)then D.non else .int (zaL ts x 1))=d6,(if decide (gr.length<=k+c)then D.non else .int (zaL ts x 2))=d7,(if b&&!decide ((k+1) % c=0)then cr else .non)=d8 at*
 have v:1+M.length<=100000:=by omega
 have u:M.length+1+2<=100000:=by omega
 have t:M.length+1+1+1<=100000:=by omega
 simp only[zbf,zaj,zs3];simp[sbF,h.size,h.ground,p,z,y,B,A,l,g,v,u,t]
end
noncomputable def zmf(ts:Z2):Option Int->List Int|none=>(List.range ts.length).map fun(i:Nat)=>(i:Int)|some x=>[x]
theorem zme(ho:∀x,o=some x->0<=x/\x<ts.length):∀x∈zmf ts o,0<=x/\x<ts.length:=by
 intro x a
 cases o with
 |none=>
  obtain⟨i,hi,rfl⟩:=yar.mp a;have:=yaX.mp hi;omega
 |some y=>rw[yaB.mp a];exact ho y rfl
section
variable{S:Sto}{n:Nat}{ts:Z2}{gr:Z4}{r c:Nat}{b:Bool}{ds:List (D×D)}
theorem zfX{k:Nat}(h:WAt S n ts gr r c b ds)(ht:ts.length<=100)(I:gr[k]?=some o)(ho:∀x,o=some x->0<=x/\x<ts.length):zaN [.ref n,.int k] S=.ok (.lst ((zmf ts o).map D.int)) S:=by
 have d:atI (gr.map oD) (k:Int)=some (oD o):=by rw[zbZ,yao,I];rfl
 have a:=zb9 (ts:=ts.map zab) (o:=o) (S:=S) (fun x e=>by simpa using ho x e)
 cases o with
 |none=>
  have f:lrD (.int (ts.length:Int))=some (.lst (((List.range ts.length).map fun(i:Nat)=>(i:Int)).map D.int)):=by
   show(if decide (0<=(ts.length:Int)/\(ts.length:Int)<=1000)=true then _ else none)=_;rw[if_pos (yax ⟨by omega,by omega⟩),yaI,ybb];rfl
  simp[zaN,zaj,zbh,h.ground,h.tiles,d,oD,f,zmf]
 |some x=>
  simp only[oD]at a;simp[zaN,zaj,zbh,h.ground,h.tiles,d,oD,a,zmf]
theorem znD{k:Nat}{s:Z4}(h:WAt S n ts gr r c b ds)(I:1<=c)(hs:s.length=c+2):zdx [.ref n,.int k,zaT s,tl ts x] S=.ok (.bl (zng ts c b k s x)) S:=by
 have q:=zfu (k:=k) h I;have e:=zdQ (k:=k) (s:=s) (x:=x) h I hs;have p:=h.meth "ends_row" (by decide +kernel);have m:=h.meth "colour_round" (by decide +kernel);have l:=h.meth "fits_round" (by decide +kernel);have a:tl ts x=.tup [.int (zaL ts x 0),.int (zaL ts x 1),.int (zaL ts x 2),.int (zaL ts x 3)]:=rfl
 have d:zaX [.ref n,.int k,zaT s,tl ts x] S=.ok (.bl (!b||!decide ((k+1) % c=0)||decide (some (zaL ts x 1)=crO ts c k s x))) S:=by
  have eq:∀o:Option Int,eqD (.int (zaL ts x 1)) (oD o)=some (.bl (decide (some (zaL ts x 1)=o))):=by
   intro o
   cases o with
   |none=>rfl|some y=>simp[oD]
  rw[a]at e ⊢;generalize zaT s=g at e ⊢;generalize crO ts c k s x=cr at e ⊢
  cases b with
  |false=>simp[zaX,zaj,zbt,h.round]|true=>by_cases z:(k+1) % c=0<;>simp[zaX,zaj,zbt,h.round,p,m,q,e,z,eq]
 have f:(s.map oD)[0]?=some (oD (s.getD 0 none)):=by
  rw[yao,yav,yab (by omega)];rfl
 have g1:(s.map oD)[1]?=some (oD (s.getD 1 none)):=by
  rw[yao,yav,yab (by omega)];rfl
 have s0:=zh0 (S:=S) (o:=s.getD 0 none) (y:=zaL ts x 3);have s1:=zh0 (S:=S) (o:=s.getD 1 none) (y:=zaL ts x 0);unfold zng;generalize (!b||!decide ((k+1) % c=0)||decide (some (zaL ts x 1)=crO ts c k s x))=t at d ⊢;unfold zaT at d ⊢;generalize s.map oD=g at d f g1 ⊢;generalize s.getD 0 none=j at f s0 ⊢;generalize s.getD 1 none=i at g1 s1 ⊢;rw[a]at d ⊢
 cases h0:okO j (zaL ts x 3)<;>cases h1:okO i (zaL ts x 0)<;>rw[h0]at s0<;>rw[h1]at s1 <;>
  simp[zdx,zaj,zeK,f,g1,s0,s1,l,d]
def chD(p:Int×List (Option Int)):D:=.tup [.int p.1,zaT p.2]
def chs(ts:Z2)(gr:Z4)(c:Nat)(b:Bool)(k:Nat)(s:Z4):List (Int×List (Option Int)):=
 ((zmf ts (gr.getD k none)).filter (zng ts c b k s)).map fun x=>(x,zm6 ts gr.length c b k s x)
def chG(ts:Z2)(L c:Nat)(b:Bool)(k:Nat)(s:Z4):D->List D
 |.int x=>if zng ts c b k s x then[chD (x,zm6 ts L c b k s x)]else[]
 |_=>[]
theorem zhx:∀l:List Int,(l.map D.int).flatMap (chG ts L c b k s)=((l.filter (zng ts c b k s)).map fun x=>(x,zm6 ts L c b k s x)).map chD
 |[]=>rfl|x::l=>by
  rw[yau,ybi,zhx l,List.filter_cons];show(if zng ts c b k s x then[chD (x,zm6 ts L c b k s x)]else[])++_=_
  cases zng ts c b k s x<;>simp
theorem zf0(h:WAt S n ts gr r c b ds)(ht:TOk ts)(U:k<gr.length)(hg:∀o∈gr,∀x,o=some x->0<=x/\x<ts.length)(J:1<=c)(I:c<=100)(hs:s.length=c+2):
  zbA [.ref n,.int k,zaT s] S=.ok (.lst ((chs ts gr c b k s).map chD)) S:=by
 have a:gr[k]?=some (gr.getD k none):=by rw[yav,yab U];rfl
 have m:=hg _ (ybj a);have p:=zfX h ht.le a m;have v:=h.meth "numbers_for" (by decide +kernel);have l:=h.meth "fits" (by decide +kernel);have u:=h.meth "seam_behind" (by decide +kernel);have f:=zme m
 have hlen:(zmf ts (gr.getD k none)).length<=100:=by
  cases gr.getD k none with
  |none=>simp only[zmf,yad,ybu];exact ht.le|some x=>simp[zmf]
 unfold chs;generalize zmf ts (gr.getD k none)=nums at p f hlen ⊢
 have fl:((nums.map D.int).flatMap (chG ts gr.length c b k s)).length<=100:=by
  rw[zhx,yad,yad];exact yal (ybg _ _) hlen
 obtain⟨B,e⟩:=zek (tg:=.one 4) (body:=zbc) (S:=S) (fun L (x:Option (Bool×D)×Option (Bool×D))=>[~~~.ref n,~~~.int k,~~~zaT s,some (true,.lst L),x.1,x.2]) (chG ts gr.length c b k s) 50000 (ds:=nums.map D.int) (by
  intro d hd L x C;obtain⟨y,w,rfl⟩:=yar.mp hd;obtain⟨t,q⟩:=f y w;have z:=zfP ht t q;have g:atI (ts.map zab) y=some (tl ts y):=z;have i:=znD (k:=k) (s:=s) (x:=y) h J hs;have A:=zfW (k:=k) (s:=s) (x:=y) h J I hs
  have j:L.length<=100000:=by omega
  refine⟨_,(~~~.int y,~~~tl ts y),rfl,?_⟩;show zbc [~~~.ref n,~~~.int k,~~~zaT s,some (true,.lst L),~~~.int y,x.2] S=.nx [~~~.ref n,~~~.int k,~~~zaT s,some (true,.lst (L++(if zng ts c b k s y then[chD (y,zm6 ts gr.length c b k s y)]else[]))),~~~.int y,~~~tl ts y] S
  cases hf:zng ts c b k s y with
  |true=>
   rw[hf]at i;simp[zbc,h.tiles,g,l,i,u,A,chD,j]
  |false=>
   rw[hf]at i
   simp[zbc,h.tiles,g,l,i]) [] (none,none) (by simp only[ybI];omega)
 rw[zhx]at e;simp only[ybQ]at e;generalize ((nums.filter (zng ts c b k s)).map fun x=>(x,zm6 ts gr.length c b k s x)).map chD=res at e ⊢;simp[zbA,zaj,zdg,v,p,e]
end
def zjR(c x:Str)(i:Nat)(ρ:Env)(r:D):Out D->Fo
 |.bad=>.bad|.exc c S2=>.ex c ρ S2|.ok d S2=>(match zk0 ρ i,zhK c x d S2 with
   |some k,some (n,ob,ds)=>if(zbI k ds).isNone&&decide (ds.length<=1000000)&&zdZ ob then .nx ρ (S2.set n (ob.put x true (.dic (ds++[(nkD k,r)]))))else .bad
   |_,_=>.bad)
noncomputable def zrf(c x:Str)(f:Fe)(i:Nat)(ρ:Env):Out D->Fo
 |.bad=>.bad|.exc c S2=>.ex c ρ S2|.ok r S1=>zjR c x i ρ r (f ρ S1)
@[simp] def zvr:zkn c x f i g ρ S=zrf c x f i ρ (g ρ S):=by
 unfold zkn zrf
 cases g ρ S with
 |ok r S1=>dsimp only;unfold zjR;cases f ρ S1<;>rfl|exc c S=>rfl|bad=>rfl
@[simp] def zxQ:zrf c x f i ρ (.ok r S)=zjR c x i ρ r (f ρ S):=(rfl)
def zq9(I:zk0 ρ i=some k)(hd:zhK c x d S=some (n,ob,ds))(h1:zbI k ds=none)(h2:ds.length<=1000000)(J:zdZ ob=true):zjR c x i ρ r (.ok d S)=.nx ρ (S.set n (ob.put x true (.dic (ds++[(nkD k,r)])))):=by
 show(match zk0 ρ i,zhK c x d S with|some k,some (n,ob,ds)=>_|_,_=>_)=_;rw[I,hd];show(if _ then _ else _)=_;rw[if_pos];rw[h1,J,yax h2];rfl
def zdk(ts:Z2)(gr:Z4)(c:Nat)(b:Bool):Nat->Nat->List (Option Int)->Nat
 |0,_,_=>1|m+1,k,s=>((chs ts gr c b k s).map fun p=>zdk ts gr c b m (k+1) p.2).sum
noncomputable def zbb(q:Nat):Nat->Nat
 |0=>0|m+1=>1+q*zbb q m
theorem zfe:∀ds:List (D×D),zbI k (ds++[(q,d)])=(zbI k ds).or (if zjN q=some k then some d else none)
 |[]=>by show(if _ then _ else _)=_;simp[zbI]
 |(a,d')::ds=>by
  show(if zjN a=some k then some d' else zbI k (ds++[(q,d)]))=_;rw[zfe ds];show _=(if zjN a=some k then some d' else zbI k ds).or _
  split<;>simp
noncomputable def zpa(ts:Z2)(gr:Z4)(c:Nat)(b:Bool)(ds:List (D×D)):Prop:=∀(k:Nat) s d,zbI ((k:Int),s) ds=some d->d=.int (zdk ts gr c b (gr.length-k) k s)
def zfG{S:Sto}(h:S[n]?=some ob):S.set n ob=S:=by
 obtain⟨a,e⟩:=yaj.mp h;apply ybn;intro i
 by_cases z:n=i
 ·subst z;rw[yaw a,h]
 ·rw[yaJ z]
def zi8(h1:1<=ts.length):(chs ts gr c b k s).length<=ts.length:=by
 unfold chs;rw[yad];refine yal (ybg _ _) ?_
 cases gr.getD k none with
 |none=>simp[zmf]|some x=>simpa[zmf]using h1
theorem zrP(I:1<=c)(hs:s.length=c+2):(zm6 ts L c b k s x).length=c+2:=by
 unfold zm6;rw[yan,yak,yc1,ycm,hs];simp only[yan,ybI];omega
def zhw(I:1<=c)(hs:s.length=c+2):∀p∈chs ts gr c b k s,p.2.length=c+2:=by
 intro p a;obtain⟨x,_,rfl⟩:=yar.mp a;exact zrP I hs
theorem zk1{α:Type}{f:α->Nat}:∀{l:List α},(∀x∈l,f x<=m)->(l.map f).sum<=l.length*m
 |[],_=>by simp
 |x::l,h=>by
  have h1:=h x yay;have h2:=zk1 (l:=l) fun y a=>h y (yas _ a)
  rw[yau,ydw,yan,ydx];omega
theorem zk2(h1:1<=ts.length):∀m k s,zdk ts gr c b m k s<=ts.length ^ m
 |0,_,_=>by simp[zdk]
 |m+1,k,s=>by
  unfold zdk;refine yal (zk1 fun p _=>zk2 h1 m (k+1) p.2) ?_;rw[Nat.pow_succ,Nat.mul_comm];exact Nat.mul_le_mul_left _ (zi8 h1)
structure CfOk(n:Nat)(ts:Z2)(gr:Z4)(r c:Nat)(b:Bool)(m:Nat)(rc:List D->Sto->Out D):Prop where
 run:∀(S:Sto) (ds:List (D×D)) (k:Nat) (s:Z4),WAt S n ts gr r c b ds->zpa ts gr c b ds->k+m=gr.length->s.length=c+2->ds.length+zbb ts.length m<=1000000 →
  ∃ds',rc [.ref n,.int k,zaT s] S=.ok (.int (zdk ts gr c b m k s)) (S.set n (wOb (.tup (ts.map zab)) (.lst (gr.map oD)) (.tup [.int r,.int c]) b ds'))/\zpa ts gr c b ds'/\ds'.length<=ds.length+zbb ts.length m/\∀k' s',k'<k->zbI (((k':Nat):Int),s') ds'=zbI (((k':Nat):Int),s') ds
section
variable{n:Nat}{ts:Z2}{gr:Z4}{r c:Nat}{b:Bool}
theorem zoY(C:CfOk n ts gr r c b m rc)(J:k+1+m=gr.length):∀(l:List (Int×List (Option Int))) (S:Sto) (ds:List (D×D)),(∀p∈l,p.2.length=c+2)->WAt S n ts gr r c b ds->zpa ts gr c b ds->ds.length+l.length*zbb ts.length m<=1000000 →
  ∃I,zcS (.one 0) zhs (zaJ "Ways" "count_from" rc (zac 1) [(zag zb1 (zah 2) (zaf (.int 1))),(zag ixD (zah 0) (zaf (.int 1)))]) [none,~~~.ref n,~~~.int k] (l.map chD) S
   = .ok (l.map fun p=>.int (zdk ts gr c b m (k+1) p.2)) (S.set n (wOb (.tup (ts.map zab)) (.lst (gr.map oD)) (.tup [.int r,.int c]) b I))/\zpa ts gr c b I/\I.length<=ds.length+l.length*zbb ts.length m/\∀k' s',k'<k+1->zbI (((k':Nat):Int),s') I=zbI (((k':Nat):Int),s') ds:=by
 intro l
 induction l with
 |nil=>intro S ds _ W M _;exact⟨ds,by rw[zfG W.at_];rfl,M,by simp,fun _ _ _=>rfl⟩
 |cons p l s=>
  intro S ds g W M t;rw[yan,ydx]at t;obtain⟨a,w,M1,y,j⟩:=C.run S ds (k+1) p.2 W M J (g p yay) (by omega);obtain⟨f,h,M2,x,i⟩:=s _ a (fun q u=>g q (yas _ u)) (W.put a) M1 (by omega);refine⟨f,?_,M2,by rw[yan,ydx];omega,fun k' s' d=>(i k' s' d).trans (j k' s' d)⟩;rw[ycw]at h;have mo:=W.meth "count_from" (by decide +kernel);have e:rc [.ref n,.int ((k:Int)+1),zaT p.2] S=_:=w;unfold zcS;rw[yau];dsimp only;generalize v:wOb (.tup (ts.map zab)) (.lst (gr.map oD)) (.tup [.int r,.int c]) b a=o at*;simp[chD,mo,e,h]
def zrL:CfOk n ts gr r c b 0 (znJ 4 false zal (f+1))where
 run:=fun S ds k s W M e hs d=>by
  refine⟨ds,?_,M,yb0 _ _,fun _ _ _=>rfl⟩;rw[zfG W.at_]
  have a:k=gr.length:=by omega
  subst a;show za2 4 false (zal _) _ _=_;simp[zaj,zal,W.ground,zdk]
theorem zrM(C:CfOk n ts gr r c b m (znJ 4 false zal f))(ht:TOk ts)(h1:1<=ts.length)(hg:∀o∈gr,∀x,o=some x->0<=x/\x<ts.length)(hc:1<=c)(U:c<=100)(hp:ts.length ^ m<=1000000):CfOk n ts gr r c b (m+1) (znJ 4 false zal (f+1))where
 run:=fun S ds k s W M hk hs Z=>by
  have L:k<gr.length:=by omega
  have y:decide ((k:Int)=(gr.length:Int))=false:=yaE (by omega);have F:=znx (k:=(k:Int)) (s:=s);show ∃a5,za2 4 false (zal _) _ _=_/\_;generalize znJ 4 false zal f=rc at C
  cases hd:zbI ((k:Int),s) ds with
  |some d=>
   have E:=M k s d hd;rw[show gr.length-k=m+1 by omega]at E;subst E;refine⟨ds,?_,M,yb0 _ _,fun _ _ _=>rfl⟩;rw[zfG W.at_];generalize zaT s=T at F;generalize zdk ts gr c b (m+1) k s=cc at hd;simp[zaj,zal,W.ground,W.known,y,F,hd,zk0]
  |none=>
   have q:=zi8 (gr:=gr) (c:=c) (b:=b) (k:=k) (s:=s) h1;have R:(chs ts gr c b k s).length*zbb ts.length m<=ts.length*zbb ts.length m:=ybk _ q;have Y:ds.length+(1+ts.length*zbb ts.length m)<=1000000:=Z;have u:=zf0 (k:=k) (s:=s) W ht L hg hc U hs;obtain⟨a,H,M1,z1,Q⟩:=zoY C (k:=k) (by omega) (chs ts gr c b k s) S ds (zhw hc hs) W M (by omega);have B:zbI ((k:Int),s) a=none:=(Q k s (ybY k)).trans hd
   have g:zss [.lst ((chs ts gr c b k s).map fun p=>D.int (zdk ts gr c b m (k+1) p.2:Nat))]=some (.int (zdk ts gr c b (m+1) k s:Nat)):=by
    have ei:∀l:List (Int×List (Option Int)),ze5 (l.map fun p=>D.int (zdk ts gr c b m (k+1) p.2:Nat))=some (l.map fun p=>((zdk ts gr c b m (k+1) p.2:Nat):Int)):=by
     intro l
     induction l with
     |nil=>rfl|cons p l I=>rw[yau,yau];simp[ze5,I]
    have es:∀l:List (Int×List (Option Int)),(l.map fun p=>((zdk ts gr c b m (k+1) p.2:Nat):Int)).sum=(((l.map fun p=>zdk ts gr c b m (k+1) p.2).sum:Nat):Int):=by
     intro l
     induction l with
     |nil=>rfl|cons p l I=>rw[yau,yau,ydw,ydw,I,Int.natCast_add]
    show(ze5 _).bind _=_;rw[ei];show(if _ then some (D.int _)else none)=_;rw[if_pos,es]
    ·rfl
    ·rw[yac];refine⟨yax (by rw[yad];exact yal q (yal ht.le (by decide))),?_⟩;rw[ybs];intro x hx;obtain⟨p,_,rfl⟩:=yar.mp hx;have:=zk2 (gr:=gr) (c:=c) (b:=b) h1 m (k+1) p.2;exact yax (by omega)
   have W1:=W.put a;have mo:=W.meth "choices" (by decide +kernel);have hlen:(chs ts gr c b k s).length<=100000:=yal q (yal ht.le (by decide))
   have K:zdZ (wOb (.tup (ts.map zab)) (.lst (gr.map oD)) (.tup [.int r,.int c]) b a)=true:=by
    unfold zdZ;show decide ((["tiles","ground","size","is_round","known"]:List Str).Nodup)=true;decide +kernel
   have w:(wOb (.tup (ts.map zab)) (.lst (gr.map oD)) (.tup [.int r,.int c]) b a).put "known" true (.dic (a++[(nkD ((k:Int),s),.int (zdk ts gr c b (m+1) k s:Nat))]))=wOb (.tup (ts.map zab)) (.lst (gr.map oD)) (.tup [.int r,.int c]) b (a++[(nkD ((k:Int),s),.int (zdk ts gr c b (m+1) k s:Nat))]):=by rfl
   refine⟨a++[(nkD ((k:Int),s),.int (zdk ts gr c b (m+1) k s:Nat))],?_,?_,?_,?_⟩
   ·have W2:=W.put (a++[(nkD ((k:Int),s),.int (zdk ts gr c b (m+1) k s:Nat))])
    have i:zbI ((k:Int),s) (a++[(nkD ((k:Int),s),.int (zdk ts gr c b (m+1) k s:Nat))])=some (.int (zdk ts gr c b (m+1) k s:Nat)):=by
     rw[zfe,B,ze1,if_pos rfl];rfl
    generalize v:(chs ts gr c b k s).map (fun p=>D.int (zdk ts gr c b m (k+1) p.2:Nat))=res at H g
    have J:res.length<=100000:=by rw[<-v,yad];exact hlen
    have h:zk0 [~~~D.ref n,~~~.int k,~~~zaT s,~~~.tup [.int k,zaT s]] 3=some ((k:Int),s):=F;have e:=zq9 (r:=.int (zdk ts gr c b (m+1) k s:Nat)) h W1.known B (by omega) K;rw[w,ycw]at e;have j:=W2.known;have A:=W.known;have N:=W.ground;generalize wOb (.tup (ts.map zab)) (.lst (gr.map oD)) (.tup [.int r,.int c]) b (a++[(nkD ((k:Int),s),.int (zdk ts gr c b (m+1) k s:Nat))])=V at e j ⊢;generalize wOb (.tup (ts.map zab)) (.lst (gr.map oD)) (.tup [.int r,.int c]) b a=X at e H;generalize a++[(nkD ((k:Int),s),D.int (zdk ts gr c b (m+1) k s:Nat))]=a4 at j i;generalize zdk ts gr c b (m+1) k s=vv at g e i ⊢;generalize zaT s=T at F u h e ⊢;generalize (chs ts gr c b k s).map chD=cs at u H;simp[zaj,zal,N,A,y,F,hd,mo,u,H,J,g,e,h,j,i]
   ·intro k' s' d h';rw[zfe]at h'
    cases h2:zbI ((k':Int),s') a with
    |some d'=>rw[h2]at h';cases h';exact M1 k' s' _ h2|none=>
     rw[h2,ze1]at h';have t:(if some ((k:Int),s)=some ((k':Int),s')then some (D.int (zdk ts gr c b (m+1) k s:Nat))else none)=some d:=h';split at t
     ·rename_i ee;cases t;have G:=Option.some.inj ee
      have P:k=k':=by have z:(k:Int)=(k':Int):=congrArg Prod.fst G;omega
      have O:s=s':=congrArg Prod.snd G;subst P;subst O;rw[show gr.length-k=m+1 by omega]
     ·cases t
   ·rw[yak,yaH];show _<=ds.length+(1+ts.length*zbb ts.length m);omega
   ·intro k' s' a3;rw[zfe,Q k' s' (by omega),ze1,if_neg]
    ·cases zbI ((k':Int),s') ds<;>rfl
    ·intro z;have:=congrArg Prod.fst (Option.some.inj z);simp at this;omega
end
def zih(c x:Str)(ρ:Env)(r:D):Out D->Fo
 |.bad=>.bad|.exc c S2=>.ex c ρ S2|.ok (.ref n) S2=>(match S2[n]? with
   |some ob=>if decide (ob.cls=c)&&decide (ob.fs.length<1000)then .nx ρ (S2.set n (ob.put x false r))else .bad
   |none=>.bad)
 |.ok _ _=>.bad
noncomputable def zrh(c x:Str)(f:Fe)(ρ:Env):Out D->Fo
 |.bad=>.bad|.exc c S2=>.ex c ρ S2|.ok r S1=>zih c x ρ r (f ρ S1)
@[simp] def zvt:zeQ c x f g ρ S=zrh c x f ρ (g ρ S):=by
 unfold zeQ zrh
 cases g ρ S with
 |ok r S1=>
  dsimp only;unfold zih
  cases f ρ S1 with
  |ok d S2=>cases d<;>rfl|exc c S=>rfl|bad=>rfl
 |exc c S=>rfl|bad=>rfl
@[simp] def zxX:zrh c x f ρ (.ok r S)=zih c x ρ r (f ρ S):=(rfl)
def zra(h:fs.length<1000)(I:S.length=n):zih c x ρ r (.ok (.ref n) (S++[⟨c,fs⟩]))=.nx ρ (S++[⟨c,zaU x false r fs⟩]):=by
 subst I;show(match(S++[(⟨c,fs⟩:Ob)])[S.length]? with|some ob=>_|none=>_)=_;rw[yaG (yai _),ybx];show(if _ then Fo.nx ρ ((S++[(⟨c,fs⟩:Ob)]).set S.length _)else _)=_;rw[if_pos,ycY _ _ (yai _),ybx]
 ·rfl
 ·rw[yac];exact⟨yax rfl,yax h⟩
def zpU(hi:ρ[i]?=some (~~~.ref n))(h:fs.length<1000)(I:S.length=n):zko c x i ρ (S++[⟨c,fs⟩])=.nx ρ (S++[⟨c,zaU x true (.dic []) fs⟩]):=by
 subst I;unfold zko;rw[hi];show(match(S++[(⟨c,fs⟩:Ob)])[S.length]? with|some ob=>_|none=>_)=_;rw[yaG (yai _),ybx];show(if _ then Fo.nx ρ ((S++[(⟨c,fs⟩:Ob)]).set S.length _)else _)=_;rw[if_pos,ycY _ _ (yai _),ybx]
 ·rfl
 ·rw[yac];exact⟨yax rfl,yax h⟩
theorem zdX:∀{gs:List (Str×Bool×D)},(zaU x o d gs).length<=gs.length+1
 |[]=>by simp[zaU]
 |(y,z)::gs=>by
  unfold zaU;split
  ·simp
  ·have:=zdX (x:=x) (o:=o) (d:=d) (gs:=gs);simp only[yan];omega
noncomputable def zap(r c:Nat)(g:Z1):List (Option Int):=(List.range r).flatMap fun i=>(List.range c).map fun j=>g i j
noncomputable def zzq(g:Z1):D->D|.tup [.int i,.int j]=>oD (g i.toNat j.toNat)|_=>.non
def zgV:(zcn r c).map (zzq g)=(zap r c g).map oD:=by
 unfold zcn zap;rw[List.map_flatMap,List.map_flatMap];congr 1;funext i;rw[ybb,ybb];rfl
def zb4:(zap r c g).length=r*c:=by
 have:=congrArg List.length (zgV (r:=r) (c:=c) (g:=g));rw[yad,yad,zdY]at this;exact this.symm
theorem zjw(h1:1<=r)(I:r<=100)(J:c<=100):
  za0 [.ref S.length,T,flr r c g,.bl b] (S++[⟨"Ways",[]⟩])=.ok .non (S++[wOb T (.lst ((zap r c g).map oD)) (.tup [.int r,.int c]) b []]):=by
 have z:∀S',zaQ [flr r c g] S'=.ok (.lst (zcn r c)) S':=fun S'=>zbd h1 I J
 have y:∀S',zcj [flr r c g] S'=.ok (.tup [.int r,.int c]) S':=fun S'=>zhd h1
 have f:∀S',zcS (.one 0) zhs (eFn zak [(zac 1),(zac 0)]) [none,~~~flr r c g] (zcn r c) S'=.ok ((zap r c g).map oD) S':=fun S'=>by
  rw[<-zgV];refine zcR fun d hd=>?_
  obtain⟨i,j,hi,w,rfl⟩:=zbx hd;refine⟨_,rfl,?_⟩;have:=zbL (g:=g) (S:=S') hi w;simp[this];rfl
 have e:((zap r c g).map oD).length<=100000:=by
  rw[yad,zb4];exact yal (ybv I J) (by decide)
 generalize (zap r c g).map oD=gl at f e;generalize flr r c g=fl at*;have u:=zdX (x:="tiles") (o:=false) (d:=T) (gs:=[]);have t:=zdX (x:="ground") (o:=false) (d:=.lst gl) (gs:=zaU "tiles" false T []);have s:=zdX (x:="size") (o:=false) (d:=.tup [.int r,.int c]) (gs:=zaU "ground" false (.lst gl) (zaU "tiles" false T []));have q:=zdX (x:="is_round") (o:=false) (d:=.bl b) (gs:=zaU "size" false (.tup [.int r,.int c]) (zaU "ground" false (.lst gl) (zaU "tiles" false T [])));have a:=fun(x:Str) (ρ:Env) (d:D) (fs:List (Str×Bool×D)) (h:fs.length<1000)=>zra (c:="Ways") (x:=x) (ρ:=ρ) (S:=S) (r:=d) (fs:=fs) h rfl
 have v:([]:List (Str×Bool×D)).length=0:=rfl;have p2:=zpU (c:="Ways") (x:="known") (i:=0) (ρ:=[~~~.ref S.length,~~~T,~~~fl,~~~.bl b]) (S:=S) (n:=S.length) (fs:=zaU "is_round" false (.bl b) (zaU "size" false (.tup [.int r,.int c]) (zaU "ground" false (.lst gl) (zaU "tiles" false T [])))) rfl (by omega) rfl;have p:=a "tiles" [~~~.ref S.length,~~~T,~~~fl,~~~.bl b] T [] (by omega);have m:=a "ground" [~~~.ref S.length,~~~T,~~~fl,~~~.bl b] (.lst gl) (zaU "tiles" false T []) (by omega);have l:=a "size" [~~~.ref S.length,~~~T,~~~fl,~~~.bl b] (.tup [.int r,.int c]) (zaU "ground" false (.lst gl) (zaU "tiles" false T [])) (by omega);have k:=a "is_round" [~~~.ref S.length,~~~T,~~~fl,~~~.bl b] (.bl b) (zaU "size" false (.tup [.int r,.int c]) (zaU "ground" false (.lst gl) (zaU "tiles" false T []))) (by omega);clear u t s q v
 have fin:(⟨"Ways",zaU "known" true (.dic []) (zaU "is_round" false (.bl b) (zaU "size" false (.tup [.int r,.int c]) (zaU "ground" false (.lst gl) (zaU "tiles" false T []))))⟩:Ob)=wOb T (.lst gl) (.tup [.int r,.int c]) b []:=by rfl
 rw[fin]at p2;generalize zaU "is_round" false (.bl b) (zaU "size" false (.tup [.int r,.int c]) (zaU "ground" false (.lst gl) (zaU "tiles" false T [])))=f4,zaU "size" false (.tup [.int r,.int c]) (zaU "ground" false (.lst gl) (zaU "tiles" false T []))=A,zaU "ground" false (.lst gl) (zaU "tiles" false T [])=f2,zaU "tiles" false T []=f1,wOb T (.lst gl) (.tup [.int r,.int c]) b []=ob at*;simp[za0,zaj,zcN,z,y,f,e,p,m,l,k,p2]
theorem zm1{n:Nat}{ts:Z2}{gr:Z4}{r c:Nat}{b:Bool}(ht:TOk ts)(h1:1<=ts.length)(J:∀o∈gr,∀x,o=some x->0<=x/\x<ts.length)(U:1<=c)(I:c<=100):∀m f,m+1<=f->ts.length ^ m<=1000000->CfOk n ts gr r c b m (znJ 4 false zal f)
 |0,f+1,_,_=>zrL|m+1,f+1,hf,d=>by
  have a:ts.length ^ m<=1000000:=yal (yc2 h1 (ycN m)) d;exact zrM (zm1 ht h1 J U I m f (by omega) a) ht h1 J U I a
theorem zeR(W:WAt S n ts gr r c b [])(ht:TOk ts)(h1:1<=ts.length)(hg:∀o∈gr,∀x,o=some x->0<=x/\x<ts.length)(hc:1<=c)(J:c<=100)(hm:gr.length<=30)(hp:ts.length ^ gr.length<=1000000)(U:zbb ts.length gr.length<=1000000):
  ∃I,zba [.ref n] S=.ok (.int (zdk ts gr c b gr.length 0 (List.replicate (c+2) none))) (S.set n (wOb (.tup (ts.map zab)) (.lst (gr.map oD)) (.tup [.int r,.int c]) b I))/\zpa ts gr c b I/\I.length<=zbb ts.length gr.length:=by
 obtain⟨I,e,M,z,_⟩:=(zm1 (n:=n) (r:=r) (b:=b) ht h1 hg hc J gr.length 40 (by omega) hp).run S [] 0 (List.replicate (c+2) none) W (fun k s d h=>by cases h) (by omega) (yaM ..) (by simpa using U);refine⟨I,?_,M,by simpa using z⟩;have i:zaz [.ref n,.int 0,zaT (List.replicate (c+2) none)] S=_:=e;have g:=zet W J;have f:=W.meth "count_from" (by decide +kernel);have a:=W.meth "first_seam" (by decide +kernel);generalize wOb (.tup (ts.map zab)) (.lst (gr.map oD)) (.tup [.int r,.int c]) b I=ob at*;simp[zba,zaj,zco,f,a,g,i]
def zpS(ts:Z2)(r c:Nat)(g:Z1)(b:Bool):Nat:=zdk ts (zap r c g) c b (r*c) 0 (List.replicate (c+2) none)
noncomputable def Lg(S S':Sto):Prop:=∃X,S'=S++X
def Lg.refl:Lg S S:=⟨[],(yaS S).symm⟩
def Lg.trans(h:Lg a b)(k:Lg b c):Lg a c:=by
 obtain⟨x,rfl⟩:=h;obtain⟨y,rfl⟩:=k;exact⟨x++y,ybP ..⟩
def Lg.at{S S':Sto}{n:Nat}{ob:Ob}(h:Lg S S')(k:S[n]?=some ob):S'[n]?=some ob:=by
 obtain⟨x,rfl⟩:=h;rw[yaZ (yaj.mp k).1];exact k
def Lg.one:Lg S ((S++[a]).set S.length b):=⟨[b],by rw[ycY _ _ (yai _),ybx];rfl⟩
theorem zfY(ht:TOk ts)(h1:1<=ts.length)(hg:InT ts g)(J:1<=r)(U:r<=100)(hc:1<=c)(I:c<=100)(hm:r*c<=30)(hp:ts.length ^ (r*c)<=1000000)(hq:zbb ts.length (r*c)<=1000000):
  ∃S',Lg S S'/\zaM [.tup (ts.map zab),flr r c g] S=.ok (.int (zpS ts r c g false)) S':=by
 have l:=zjw (T:=.tup (ts.map zab)) (b:=false) (S:=S) (g:=g) (c:=c) J U I;have W:WAt (S++[wOb (.tup (ts.map zab)) (.lst ((zap r c g).map oD)) (.tup [.int r,.int c]) false []]) S.length ts (zap r c g) r c false []:=⟨by rw[yaG (yai _),ybx];rfl⟩
 have e:∀o∈zap r c g,∀x,o=some x->0<=x/\x<ts.length:=by
  intro o d x a;obtain⟨i,_,d⟩:=ybB.mp d;obtain⟨j,_,rfl⟩:=yar.mp d;exact hg i j x a
 obtain⟨k,h,_⟩:=zeR W ht h1 e hc I (by rw[zb4];exact hm) (by rw[zb4];exact hp) (by rw[zb4];exact hq);rw[zb4]at h;have m:=W.meth "count_all" (by decide +kernel);obtain⟨S',f⟩:∃S',(S++[wOb (.tup (ts.map zab)) (.lst ((zap r c g).map oD)) (.tup [.int r,.int c]) false []]).set S.length (wOb (.tup (ts.map zab)) (.lst ((zap r c g).map oD)) (.tup [.int r,.int c]) false k)=S':=⟨_,rfl⟩;have a:=f ▸ Lg.one (S:=S);rw[f]at h;clear f;refine⟨S',a,?_⟩;unfold zpS;generalize wOb (.tup (ts.map zab)) (.lst ((zap r c g).map oD)) (.tup [.int r,.int c]) false []=ob at*;simp[zaM,zaj,zdJ,l,m,h]
noncomputable def tw1:Fe:=zfs (zag gtD (zag zky (zah 6) (zah 2)) (zaf (.int 0))) (zag neD (zag ixD (zag ixD (zah 0) (zag ixD (zah 9) (eUn ziW (zaf (.int 1))))) (zaf (.int 1))) (zag ixD (zah 11) (zaf (.int 3))))
noncomputable def tw2:Fe:=zfs (zag geD (zah 6) (zah 2)) (zag neD (zag ixD (zag ixD (zah 0) (zag ixD (zah 9) (zag zlj (zah 6) (zah 2)))) (zaf (.int 2))) (zag ixD (zah 11) (zaf (.int 0))))
noncomputable def tw0:Fs:=(zad (sFz [] (zaK 12 false (zaf (.bl false)))) sNx)
noncomputable def twB:Fs:=(zad (sFz [10] (zaK 12 false (zag inD (zah 7) (zcU [(zaf .non),(zac 10)])))) (zad (sFz [] (sIf tw1 tw0 sNx)) (zad (sFz [] (sIf tw2 tw0 sNx)) (zad (sFz [12] (sIf (zac 12) (zad (sFz [10] (zhJ 8 (zag zb1 (zah 9) (zcU [(zac 10)])))) sNx) sNx)) sNx))))
def zsf:zci=twB:=rfl
section
variable{w:D}{ts:Z2}{c:Nat}{t:List Int}{n:Int}{S:Sto}{s1 s3 s4 s5 s8 x:Option (Bool×D)}
theorem zvA(ht:TOk ts)(I:1<=c)(J:InR ts t):tw1 [~~~.tup (ts.map zab),s1,~~~.int c,s3,s4,s5,~~~.int t.length,~~~w,s8,~~~zab t,~~~.int n,~~~.tup [.int (zaL ts n 0),.int (zaL ts n 1),.int (zaL ts n 2),.int (zaL ts n 3)],x] S
   = .ok (.bl (decide (0<t.length % c/\zaL ts (t.getLastD 0) 1≠zaL ts n 3))) S:=by
 have d:0<c:=I
 have hm:((0:Int)<(t.length:Int) % (c:Int))↔0<t.length % c:=by omega
 generalize hlen:(t.length:Int)=tl at*
 by_cases a:0<t.length % c
 ·have b:t≠[]:=by rintro rfl;simp at a
  have f:ixD (zab t) (.int (-1))=some (.int (t.getLastD 0)):=zkb b;have tA:=zjl ht (J _ (zoz b));generalize t.getLastD 0=u,ts.map zab=e at*;simp[tw1,d,hm,a,f,tA]
 ·generalize ts.map zab=e at*;simp[tw1,d,hm,a]
theorem zvz(ht:TOk ts)(J:1<=c)(I:InR ts t):tw2 [~~~.tup (ts.map zab),s1,~~~.int c,s3,s4,s5,~~~.int t.length,~~~w,s8,~~~zab t,~~~.int n,~~~.tup [.int (zaL ts n 0),.int (zaL ts n 1),.int (zaL ts n 2),.int (zaL ts n 3)],x] S
   = .ok (.bl (decide (c<=t.length/\zaL ts (t.getD (t.length-c) 0) 2≠zaL ts n 0))) S:=by
 have hle:((c:Int)<=(t.length:Int))↔c<=t.length:=by omega
 by_cases b:c<=t.length
 ·have a:t.length-c<t.length:=by omega
  have e:t.getD (t.length-c) 0=t[t.length-c]:=by rw[yav,yab a];rfl
  have f:ixD (zab t) (.int ((t.length:Int)-c))=some (.int (t.getD (t.length-c) 0)):=by
   show atI (t.map D.int) _=_;rw[zdN (by omega),yao,show((t.length:Int)-c).toNat=t.length-c by omega,yab a,e];rfl
  have tB:=zjl ht (x:=t.getD (t.length-c) 0) (by rw[e];exact I _ (ya1 a));generalize t.getD (t.length-c) 0=v at*;generalize hlen:(t.length:Int)=tl at*;generalize ts.map zab=d at*;simp[tw2,hle,b,f,tB]
 ·generalize hlen:(t.length:Int)=tl at*;generalize ts.map zab=d at*;simp[tw2,hle,b]
end
def zkJ{w:D}{fb:Bool}{ts:Z2}{c:Nat}{t:List Int}{n:Int}{L:List D}{S:Sto}{s1 s3 s4 s5 x:Option (Bool×D)}(ht:TOk ts)(J:1<=c)(a3:c<=100)(U:InR ts t)(hn:0<=n/\n<ts.length)(hL:L.length<=90000)(hk:t.length<=100)(I:inD w (.tup [.non,.int n])=some (.bl fb)):
  ∃x',zci [~~~.tup (ts.map zab),s1,~~~.int c,s3,s4,s5,~~~.int t.length,~~~w,some (true,.lst L),~~~zab t,~~~.int n,~~~.tup [.int (zaL ts n 0),.int (zaL ts n 1),.int (zaL ts n 2),.int (zaL ts n 3)],x] S
   = .nx [~~~.tup (ts.map zab),s1,~~~.int c,s3,s4,s5,~~~.int t.length,~~~w,some (true,.lst (L++if fb&&zpA ts c t n then[zab (t++[n])]else[])),~~~zab t,~~~.int n,~~~.tup [.int (zaL ts n 0),.int (zaL ts n 1),.int (zaL ts n 2),.int (zaL ts n 3)],x'] S:=by
 refine⟨~~~.bl (fb&&zpA ts c t n),?_⟩;rw[zsf]
 have d:L.length<=100000:=by omega
 have a:zb1 (zab t) (.tup [.int n])=some (zab (t++[n])):=by
  unfold zab;rw[zsc,if_pos (by rw[zfO];apply yax;simp;omega)];simp
 have h:=fun s8 x=>zvA (w:=w) (n:=n) (S:=S) (s1:=s1) (s3:=s3) (s4:=s4) (s5:=s5) (s8:=s8) (x:=x) ht J U
 have g:=fun s8 x=>zvz (w:=w) (n:=n) (S:=S) (s1:=s1) (s3:=s3) (s4:=s4) (s5:=s5) (s8:=s8) (x:=x) ht J U
 have key:zpA ts c t n=(!decide (0<t.length % c/\zaL ts (t.getLastD 0) 1≠zaL ts n 3)&&!decide (c<=t.length/\zaL ts (t.getD (t.length-c) 0) 2≠zaL ts n 0)):=by
  unfold zpA;rw[ybH,ycJ,yac,yaQ,yaQ,ybD,ybD];constructor
  ·rintro⟨x,y⟩;exact⟨fun z=>z.2 (x z.1),fun z=>z.2 (y z.1)⟩
  ·rintro⟨x,y⟩;exact⟨fun z=>Classical.byContradiction fun q=>x ⟨z,q⟩,fun z=>Classical.byContradiction fun q=>y ⟨z,q⟩⟩
 rw[key];clear key;generalize decide (0<t.length % c/\zaL ts (t.getLastD 0) 1≠zaL ts n 3)=f,decide (c<=t.length/\zaL ts (t.getD (t.length-c) 0) 2≠zaL ts n 0)=e,D.tup [.int (zaL ts n 0),.int (zaL ts n 1),.int (zaL ts n 2),.int (zaL ts n 3)]=tt,zab (t++[n])=i,zab t=t1,(t.length:Int)=tl,ts.map zab=b at*
 cases f<;>cases e<;>cases fb<;>simp[twB,I,h,g,tw0,a,d]
def zrs:inD (oD o) (.tup [.non,.int n])=some (.bl (okO o n)):=by
 cases o with
 |none=>simp[inD,zgA,zif,zeX,D.py,PyData.eqv,oD,okO]|some x=>
  by_cases h:x=n
  ·simp[inD,zgA,zif,zeX,D.py,PyData.eqv,oD,okO,h]
  ·have h':¬ n=x:=fun z=>h z.symm
   simp[inD,zgA,zif,zeX,D.py,PyData.eqv,oD,okO,h,h']
noncomputable def zgP(ts:Z2):List Int:=(List.range ts.length).map fun(i:Nat)=>(i:Int)
def ze2(ts:Z2)(c:Nat)(o:Option Int)(t:List Int):List (List Int):=((zgP ts).filter fun x=>okO o x&&zpA ts c t x).map fun x=>t++[x]
def zex(ts:Z2)(gr:Z4)(c:Nat):Nat->List (List Int)
 |0=>[[]]|k+1=>(zex ts gr c k).flatMap (ze2 ts c (gr.getD k none))
def gIw(ts:Z2)(c:Nat)(o:Option Int)(t:List Int):D->List D|.tup [.int n,_]=>if okO o n&&zpA ts c t n then[zab (t++[n])]else[]|_=>[]
theorem zkL(ht:TOk ts):zdh (ts.map zab)=(zgP ts).map fun n=>.tup [.int n,.tup [.int (zaL ts n 0),.int (zaL ts n 1),.int (zaL ts n 2),.int (zaL ts n 3)]]:=by
 apply ybn;intro k
 by_cases a:k<ts.length
 ·have h1:k<(zdh (ts.map zab)).length:=by rw[zfb,yad];exact a
  have h2:(zdh (ts.map zab))[k]?=some (zdh (ts.map zab))[k]:=yab h1;obtain⟨y,c,b⟩:=zfc h2;rw[h2,b];have:=zjl ht (x:=(k:Int)) ⟨by omega,by omega⟩;rw[zbZ,c]at this;rw[Option.some.inj this];unfold zgP;rw[ybb,yao,List.getElem?_range a];rfl
 ·rw[yaP (by rw[zfb,yad];omega),yaP (by unfold zgP;rw[ybb,yad,ybu];omega)]
def zjX(ht:TOk ts):(zdh (ts.map zab)).flatMap (gIw ts c o t)=(ze2 ts c o t).map zab:=by
 rw[zkL ht];unfold ze2;generalize zgP ts=l
 induction l with
 |nil=>rfl|cons x l a=>
  rw[yau,ybi,a,List.filter_cons];show(if okO o x&&zpA ts c t x then[zab (t++[x])]else[])++_=_
  cases okO o x&&zpA ts c t x<;>simp
def zga:(ze2 ts c o t).length<=ts.length:=by
 unfold ze2;rw[yad];refine yal (ybg _ _) ?_;simp[zgP]
theorem ze6{α β:Type}{g:α->List β}:∀{l:List α},(∀x∈l,(g x).length<=m)->(l.flatMap g).length<=l.length*m
 |[],_=>by simp
 |x::l,h=>by
  have h1:=h x yay;have h2:=ze6 (l:=l) fun y a=>h y (yas _ a)
  rw[ybi,yak,yan,ydx];omega
structure FillG(ts:Z2)(k:Nat)(F:Z2):Prop where
 mem:∀t∈F,t.length=k/\InR ts t
theorem zgo:∀k,FillG ts k (zex ts gr c k)
 |0=>⟨fun t ht=>by rw[yaB.mp ht];exact⟨rfl,fun x b=>(ya2 b).elim⟩⟩
 |k+1=>⟨fun t ht=>by
  obtain⟨u,d,ht⟩:=ybB.mp ht;obtain⟨x,b,rfl⟩:=yar.mp ht;obtain⟨h1,h2⟩:=(zgo (ts:=ts) (gr:=gr) (c:=c) k).mem u d;refine⟨by rw[yak,h1];rfl,fun y a=>?_⟩
  rcases ya8.mp a with a|a
  ·exact h2 y a
  ·rw[yaB.mp a];obtain⟨i,hi,rfl⟩:=yar.mp (ybo.mp b).1;have:=yaX.mp hi
   omega⟩
theorem zgY:∀k,(zex ts gr c k).length<=ts.length ^ k
 |0=>by simp[zex]
 |k+1=>by
  show((zex ts gr c k).flatMap _).length<=_;refine yal (ze6 (m:=ts.length) fun t _=>zga) ?_;rw[Nat.pow_succ];exact ybk _ (zgY k)
section
variable{ts:Z2}{c:Nat}{S:Sto}{s1 s3 s4:Option (Bool×D)}{o:Option Int}
theorem zoT(ht:TOk ts)(hc:1<=c)(J:c<=100)(hg:InR ts t)(hk:t.length=k)(a3:k<=100)(hL:L.length<=80000):
  ∃I y' U,zch [~~~.tup (ts.map zab),s1,~~~.int c,s3,s4,s5,~~~.int k,~~~oD o,some (true,.lst L),~~~zab t,x,y,z] S
   = .nx [~~~.tup (ts.map zab),s1,~~~.int c,s3,s4,s5,~~~.int k,~~~oD o,some (true,.lst (L++(ze2 ts c o t).map zab)),~~~zab t,I,y',U] S:=by
 subst hk
 obtain⟨I,e⟩:=zek (tg:=.tup [10,11]) (body:=zci) (S:=S) (fun L (x:Option (Bool×D)×Option (Bool×D)×Option (Bool×D))=>[~~~.tup (ts.map zab),s1,~~~.int c,s3,s4,s5,~~~.int t.length,~~~oD o,some (true,.lst L),~~~zab t,x.1,x.2.1,x.2.2]) (gIw ts c o t) 90000 (ds:=zdh (ts.map zab)) (by
  intro d hd L x hL;obtain⟨n,a,rfl⟩:=zoU ht hd;obtain⟨I,e⟩:=zkJ (w:=oD o) (fb:=okO o n) (ts:=ts) (c:=c) (t:=t) (n:=n) (L:=L) (S:=S) (s1:=s1) (s3:=s3) (s4:=s4) (s5:=s5) (x:=x.2.2) ht hc J hg ⟨by omega,by omega⟩ (by omega) (by omega) zrs
  exact⟨_,(~~~.int n,~~~.tup [.int (zaL ts n 0),.int (zaL ts n 1),.int (zaL ts n 2),.int (zaL ts n 3)],I),rfl,e⟩) L (x,y,z) (by
   rw[zjX ht,yad];have:=zga (ts:=ts) (c:=c) (o:=o) (t:=t);have:=ht.le
   omega)
 rw[zjX ht]at e;refine⟨I.1,I.2.1,I.2.2,?_⟩;simp at e;simp[zch,e]
theorem zmR(ht:TOk ts)(hc:1<=c)(a4:c<=100)(hF:FillG ts k F)(a3:k<=100)(hz:F.length*ts.length<=80000):
  ∃y8 y9 U J I,zcg [~~~.tup (ts.map zab),s1,~~~.int c,s3,s4,some (fl,.lst (F.map zab)),~~~.int k,~~~oD o,x8,x9,x10,x11,x12] S
   = .nx [~~~.tup (ts.map zab),s1,~~~.int c,s3,s4,~~~(.lst ((F.flatMap (ze2 ts c o)).map zab)),~~~.int k,~~~oD o,y8,y9,U,J,I] S:=by
 have f:∀G:List (List Int),(G.map zab).flatMap (fun d=>match d with|.tup l=>(ze2 ts c o (l.map unI)).map zab|_=>[])=(G.flatMap (ze2 ts c o)).map zab:=by
  intro G
  induction G with
  |nil=>rfl|cons t G n=>
   rw[yau,ybi,ybi,ybS,n];show(ze2 ts c o ((t.map D.int).map unI)).map zab++_=_;rw[zjj]
 obtain⟨h,e⟩:=zek (tg:=.one 9) (body:=zch) (S:=S) (fun i (x:Option (Bool×D)×Option (Bool×D)×Option (Bool×D)×Option (Bool×D))=>[~~~.tup (ts.map zab),s1,~~~.int c,s3,s4,~~~.lst (F.map zab),~~~.int k,~~~oD o,some (true,.lst i),x.1,x.2.1,x.2.2.1,x.2.2.2]) (fun d=>match d with|.tup l=>(ze2 ts c o (l.map unI)).map zab|_=>[]) 80000 (ds:=F.map zab) (by
  intro d hd i x r;obtain⟨t,j,rfl⟩:=yar.mp hd;obtain⟨p,q⟩:=hF.mem t j;obtain⟨a,b,z,e⟩:=zoT (o:=o) (ts:=ts) (c:=c) (S:=S) (s1:=s1) (s3:=s3) (s4:=s4) (t:=t) (k:=k) (L:=i) (s5:= ~~~.lst (F.map zab)) (x:=x.2.1) (y:=x.2.2.1) (z:=x.2.2.2) ht hc a4 q p a3 (by omega);refine⟨_,(~~~zab t,a,b,z),rfl,?_⟩;show _=Fo.nx [_,_,_,_,_,_,_,_,some (true,.lst (i++(ze2 ts c o ((t.map D.int).map unI)).map zab)),_,_,_,_] S;rw[zjj]
  exact e) [] (x9,x10,x11,x12) (by
   rw[f,yad];have:=ze6 (g:=ze2 ts c o) (m:=ts.length) (l:=F) fun t _=>zga
   simp only[ybI];omega)
 rw[f]at e;refine⟨~~~(.lst ((F.flatMap (ze2 ts c o)).map zab)),h.1,h.2.1,h.2.2.1,h.2.2.2,?_⟩;simp at e;generalize F.map zab=s at*
 cases fl<;>simp[zcg,e]
end
def zpc:(zdc r c g).flatMap zvD=(zap r c g).map oD:=by
 unfold zdc zap;rw[List.flatMap_map,List.map_flatMap];congr 1;funext i;show zeB c (g i)=_;rw[ybb];rfl
theorem zks(ht:TOk ts)(hr:1<=r)(hc:1<=c)(J:r*c<=100)(I:c<=100)(U:r<=100)(hp:ts.length ^ (r*c)<=80000)(h1:1<=ts.length):zcl [.tup (ts.map zab),flr r c g] S=.ok (.lst ((zex ts (zap r c g) c (r*c)).map zab)) S:=by
 have w:(zdc r c g)[0]?=some (.tup (zeB c (g 0))):=zc3 (by omega);have gl:=zb4 (r:=r) (c:=c) (g:=g)
 obtain⟨x1,l⟩:=zek (tg:=.one 4) (body:=zdj) (S:=S) (fun L (x:Option (Bool×D))=>[~~~.tup (ts.map zab),~~~flr r c g,~~~.int c,some (true,.lst L),x,none,none,none,none,none,none,none,none]) zvD 1000 (ds:=zdc r c g) (by
  intro d hd L x v;obtain⟨i,_,rfl⟩:=yar.mp hd;refine⟨_,~~~zf1 c (g i),rfl,?_⟩
  have:L.length+c<=100000:=by have j:L.length+(zeB c (g i)).length<=1000:=v;rw[zec]at j;omega
  simp[zdj,zf1,zvD,this]) [] none (by rw[zpc,yad,gl];simp only[ybI];omega)
 simp only[ybQ]at l;rw[zpc]at l
 obtain⟨n,m,fl,a,f,b,x8,x9,x10,x11,x12,rfl⟩:=zej (tg:=.tup [6,7]) (body:=zcg) (ds:=zdh ((zap r c g).map oD)) (S:=S) (fun k ρ=>∃fl a f b x8 x9 x10 x11 x12,ρ=[~~~.tup (ts.map zab),~~~flr r c g,~~~.int c,~~~(.lst ((zap r c g).map oD)),a,some (fl,.lst ((zex ts (zap r c g) c k).map zab)),f,b,x8,x9,x10,x11,x12]) (by
  rintro k d ρ hd ⟨fl,a,f,b,x8,x9,x10,x11,x12,rfl⟩;obtain⟨y,h,rfl⟩:=zfc hd
  have u:k<r*c:=by
   have:=(yaj.mp h).1;rwa[yad,gl]at this
  have z:y=oD ((zap r c g).getD k none):=by
   rw[yao,yab (by omega)]at h;rw[yav,yab (by omega)];exact(Option.some.inj h).symm
  subst z
  have t:(zex ts (zap r c g) c k).length*ts.length<=80000:=by
   refine yal (ybk _ (zgY k)) ?_;rw[<-Nat.pow_succ];exact yal (yc2 h1 u) hp
  obtain⟨B,A,s,q,p,e⟩:=zmR (o:=(zap r c g).getD k none) (ts:=ts) (c:=c) (S:=S) (s1:= ~~~flr r c g) (s3:= ~~~(.lst ((zap r c g).map oD))) (s4:=a) (k:=k) (fl:=fl) (x8:=x8) (x9:=x9) (x10:=x10) (x11:=x11) (x12:=x12) ht hc I (zgo (gr:=zap r c g) (c:=c) k) (by omega) t
  exact⟨_,_,rfl,e,_,_,_,_,_,_,_,_,_,rfl⟩)
  (ρ:=[~~~.tup (ts.map zab),~~~flr r c g,~~~.int c,~~~(.lst ((zap r c g).map oD)),x1,some (true,.lst [.tup []]),none,none,none,none,none,none,none]) ⟨true,x1,none,none,none,none,none,none,none,rfl⟩
 rw[zfb,yad,gl]at m;unfold flr at*;generalize (zex ts (zap r c g) c (r*c)).map zab=res,(zap r c g).map oD=W at*
 cases fl<;>simp[zcl,zaj,zd8,w,zf1,l,m]
theorem zrG{α:Type}{l:List α}{n:Nat}:zff l (some (n:Int)) none=l.drop n:=by
 unfold zff;rw[HT.zfk];simp[HT.sIx]
 by_cases h:n<=l.length
 ·rw[ycc h];exact List.take_of_length_le (by simp)
 ·rw[List.drop_eq_nil_of_le (show l.length<=n by omega),List.drop_eq_nil_of_le (by omega)];simp
def zuK{α:Type}{l:List α}(h:n<=l.length):zff l none (some (n:Int))=l.take n:=by
 unfold zff;rw[HT.zfk];simp[HT.sIx,ycc h]
noncomputable def zf3(g:Z1)(i j:Nat)(o:Option Int):Nat->Nat->Option Int:=fun a b=>if a=i/\b=j then o else g a b
def zqu:(zeB c g).set j (oD o)=zeB c fun b=>if b=j then o else g b:=by
 apply ybn;intro k
 by_cases a:k<c
 ·rw[zeT a]
  by_cases e:j=k
  ·subst e;rw[yaw (by rw[zec];exact a),if_pos rfl]
  ·rw[yaJ e,zeT a,if_neg (fun z=>e z.symm)]
 ·rw[yaP (by rw[yaD,zec];omega),yaP (by rw[zec];omega)]
def zry:(zdc r c g).set i (zf1 c fun b=>if b=j then o else g i b)=zdc r c (zf3 g i j o):=by
 apply ybn;intro k
 by_cases a:k<r
 ·rw[zc3 a]
  by_cases e:i=k
  ·subst e;rw[yaw (by rw[zdE];exact a)];congr 3;funext b;unfold zf3
   by_cases z:b=j<;>simp[z]
  ·rw[yaJ e,zc3 a];congr 3;funext b;unfold zf3;rw[if_neg (fun z=>e z.1.symm)]
 ·rw[yaP (by rw[yaD,zdE];omega),yaP (by rw[zdE];omega)]
theorem zmW{α:Type}{l:List α}{x:α}(h:j<l.length):zff l none (some (j:Int))++x::zff l (some ((j:Int)+1)) none=l.set j x:=by
 rw[zuK (by omega),show((j:Int)+1)=((j+1:Nat):Int)by omega,zrG,List.set_eq_take_append_cons_drop,if_pos h]
theorem zfU(hi:i<r)(I:j<c)(J:r<=100)(U:c<=100):zct [flr r c g,plD i j,oD o] S=.ok (flr r c (zf3 g i j o)) S:=by
 have e:atI (zdc r c g) (i:Int)=some (zf1 c (g i)):=by rw[zbZ,zc3 hi]
 have d:zff (zeB c (g i)) none (some (j:Int))++oD o::zff (zeB c (g i)) (some ((j:Int)+1)) none=zeB c fun b=>if b=j then o else g i b:=by rw[zmW (by rw[zec];exact I),zqu]
 have a:zff (zdc r c g) none (some (i:Int))++(zf1 c fun b=>if b=j then o else g i b)::zff (zdc r c g) (some ((i:Int)+1)) none=zdc r c (zf3 g i j o):=by rw[zmW (by rw[zdE];exact hi),zry]
 have t:=congrArg List.length d;have s:=congrArg List.length a;rw[yak,yan,zec]at t;rw[yak,yan,zdE]at s;unfold flr;rw[<-a];unfold zf1 at e ⊢;rw[<-d];generalize m:zff (zeB c (g i)) none (some (j:Int))=a1 at*;generalize l:zff (zeB c (g i)) (some ((j:Int)+1)) none=a2 at*;generalize k:zff (zdc r c g) none (some (i:Int))=f at*;generalize h:zff (zdc r c g) (some ((i:Int)+1)) none=u at*
 have q:a1.length+1<=100000:=by omega
 have p2:a1.length+1+a2.length<=100000:=by omega
 have p:f.length+1<=100000:=by omega
 have n:f.length+1+u.length<=100000:=by omega
 simp[zct,zaj,zdF,plD,e,m,l,k,h,q,p2,p,n]
def zd1(Iv:Nat->Env->Sto->Prop)(step:∀k d ρ S,ds[k]?=some d->Iv k ρ S->∃U J S2,tg.put ρ d=some U/\body U S=.nx J S2/\Iv (k+1) J S2)(h0:Iv 0 ρ S):∃I S',zel tg body ds ρ S=.nx I S'/\Iv ds.length I S':=by
 have go:∀(n:Nat) (es:List D) (k:Nat) (ρ:Env) (S:Sto),es.length=n->ds.drop k=es->k+n=ds.length->Iv k ρ S->∃I S',zel tg body es ρ S=.nx I S'/\Iv ds.length I S':=by
  intro n
  induction n with
  |zero=>
   intro es k ρ S a he e hi;obtain rfl:es=[]:=yaV a;exact⟨ρ,S,rfl,by rw[show ds.length=k by omega];exact hi⟩
  |succ n c=>
   intro es k ρ S a he e hi
   cases es with
   |nil=>cases a|cons d es=>
    have hd:ds[k]?=some d:=by
     have:=congrArg (fun l=>l[0]?) he;rw[ybz]at this;simpa using this
    obtain⟨U,J,S2,i,h,b⟩:=step k d ρ S hd hi;obtain⟨I,S',g,f⟩:=c es (k+1) J S2 (by simpa using a) (by rw[<-List.drop_drop,he];rfl) (by omega) b;refine⟨I,S',?_,f⟩;unfold zel;rw[i];dsimp only;rw[h];exact g
 exact go ds.length ds 0 ρ S rfl (by simp) (by omega) h0
theorem zeA(h1:1<=r)(hi:i<r)(I:j<c):zaw [flr r c g,plD i j] S=.ok .non S:=by
 have a:zaI [flr r c g,plD i j] S=.ok (.bl true) S:=by rw[zcs h1];congr 3;simp;omega
 simp[zaw,zaj,zbF,a]
def ziM(h:∀x,o=some x->0<=x/\x<ts.length):zcD [.tup ts,oD o] S=.ok (.bl true) S:=by
 have e:=zb9 (ts:=ts) (o:=o) (S:=S) h
 cases o with
 |none=>simp[zcD,zaj,zd3,oD]|some x=>
  simp only[oD]at e;simp[zcD,zaj,zd3,oD,e]
def zdv{ts:Z2}{r c i j:Nat}{g:Z1}{o:Option Int}{S:Sto}(h:∀x,o=some x->0<=x/\x<ts.length)(h1:1<=r)(hi:i<r)(I:j<c)(J:r<=100)(U:c<=100):zat [.tup (ts.map zab),flr r c g,plD i j,oD o] S=.ok (flr r c (zf3 g i j o)) S:=by
 have f:=zeA (g:=g) (S:=S) h1 hi I;have e:=ziM (ts:=ts.map zab) (o:=o) (S:=S) (fun x a=>by simpa using h x a);have d:=zfU (g:=g) (o:=o) (S:=S) hi I J U;generalize flr r c g=fl,flr r c (zf3 g i j o)=b,plD i j=pp,oD o=od at*;simp[zat,zaj,zcH,f,e,d]
noncomputable def zgy(q m:Nat):Prop:=zbb q m+m*(zbb q m+q*zbb q m)<=1000000/\q ^ m<=80000
noncomputable instance{q m:Nat}:Decidable (zgy q m):=by unfold zgy;exact inferInstance
theorem zv0:∀{q:Nat},q<=5->∀{m:Nat},m<=6->zgy q m:=by
 have h:∀q,q<6->∀m,m<7->zgy q m:=by decide
 intro q a m hm;exact h q (by omega) m (by omega)
structure FP(ts:Z2)(r c:Nat):Prop where
 ht:TOk ts
 h1:1<=ts.length
 h4:zgy ts.length (r*c)
 r1:1<=r
 c1:1<=c
 rc:r*c<=6
def FP.r6(h:FP ts r c):r<=6:=by
 have:=h.rc;have:=h.c1;exact yal (Nat.le_mul_of_pos_right r h.c1) h.rc
def FP.c6(h:FP ts r c):c<=6:=yal (Nat.le_mul_of_pos_left c h.r1) h.rc
theorem ziS(q:Nat)(m:Nat)(h:zgy q m):zbb q m<=1000000/\q ^ m<=80000:=⟨by have:=h.1;omega,h.2⟩
def zbW(ts:Z2)(r c:Nat)(g:Z1):List (List Int):=zex ts (zap r c g) c (r*c)
def nW(ts:Z2)(r c:Nat)(g:Z1):Nat:=zpS ts r c g false
noncomputable def zrt(ts:Z2)(r c:Nat)(g:Z1):Bool:=decide ((0:Int)<nW ts r c g)
section
variable{ts:Z2}{r c:Nat}{g:Z1}
def zeS(P:FP ts r c)(I:InT ts g)(S:Sto):∃S',Lg S S'/\zaM [.tup (ts.map zab),flr r c g] S=.ok (.int (nW ts r c g)) S':=by
 obtain⟨b,d⟩:=ziS ts.length (r*c) P.h4;obtain⟨S',a,e⟩:=zfY (S:=S) P.ht P.h1 I P.r1 (by have:=P.r6;omega) P.c1 (by have:=P.c6;omega) (by have:=P.rc;omega) (by omega) b;exact⟨S',a,e⟩
def zgK(P:FP ts r c)(S:Sto):zcl [.tup (ts.map zab),flr r c g] S=.ok (.lst ((zbW ts r c g).map zab)) S:=by
 obtain⟨b,a⟩:=ziS ts.length (r*c) P.h4;exact zks P.ht P.r1 P.c1 (by have:=P.rc;omega) (by have:=P.c6;omega) (by have:=P.r6;omega) a P.h1
def znC(P:FP ts r c)(I:InT ts g)(S:Sto):∃S',Lg S S'/\zdm [.tup (ts.map zab),flr r c g] S=.ok (.bl (zrt ts r c g)) S':=by
 obtain⟨S',a,e⟩:=zeS P I S;refine⟨S',a,?_⟩;unfold zrt;generalize flr r c g=fl,nW ts r c g=n at*;simp[zdm,zaj,zfq,e]
end
def zjB{ts:Z2}{g:Z1}{i j:Nat}{o:Option Int}(I:InT ts g)(ho:∀x,o=some x->0<=x/\x<ts.length):InT ts (zf3 g i j o):=by
 intro a b x c;unfold zf3 at c;split at c
 ·exact ho x c
 ·exact I a b x c
def zkI{F:Z2}{n:Nat}:D.fits (n+1) (F.map zab)=true:=by
 rw[D.fits_iff];intro d hd;obtain⟨t,_,rfl⟩:=yar.mp hd;exact zfJ
def zfA{F:Z2}:eqD (.lst (F.map zab)) (.lst [])=some (.bl F.isEmpty):=by
 cases F with
 |nil=>rfl|cons t F=>simp[eqD,zeX,D.py,D.pys,PyData.eqv,PyData.eqvAll,zfJ,zkI]
def zgE(ts:Z2)(gr:Z4)(c:Nat)(b:Bool):Nat->Nat->List (Option Int)->List Int
 |0,_,_=>[]|m+1,k,s=>((chs ts gr c b k s).find? fun p=>decide (0<zdk ts gr c b m (k+1) p.2)).elim [] fun p=>p.1::zgE ts gr c b m (k+1) p.2
def zmJ{w:Int×List (Option Int)->Nat}{l:List (Int×List (Option Int))}(h:0<(l.map w).sum):∃p,l.find? (fun p=>decide (0<w p))=some p:=by
 induction l with
 |nil=>simp at h|cons x l b=>
  rw[List.find?_cons]
  by_cases a:0<w x
  ·exact⟨x,by rw[yax a]⟩
  ·rw[yaE a];rw[yau,ydw]at h;exact b (by omega)
section
variable{n:Nat}{ts:Z2}{gr:Z4}{r c:Nat}{b:Bool}
theorem zwO(C:CfOk n ts gr r c b m zaz)(U:k+1+m=gr.length)(hN:N.length<=1000):∀(cs:List (Int×List (Option Int))) (S:Sto) (ds:List (D×D)) (s4 s6 s7:Option (Bool×D)),(∀p∈cs,p.2.length=c+2)->cs.find? (fun p=>decide (0<zdk ts gr c b m (k+1) p.2))=some p->WAt S n ts gr r c b ds->zpa ts gr c b ds->ds.length+cs.length*zbb ts.length m<=1000000 →
  ∃I x6 J,zel (.one 6) za9 (cs.map chD) [~~~.ref n,s1,some (true,.lst N),~~~.int 0,s4,~~~.int k,s6,s7] S
   = .nx [~~~.ref n,s1,some (true,.lst (N++[.int p.1])),~~~.int 0,~~~zaT p.2,~~~.int k,x6,J] (S.set n (wOb (.tup (ts.map zab)) (.lst (gr.map oD)) (.tup [.int r,.int c]) b I))/\zpa ts gr c b I/\I.length<=ds.length+cs.length*zbb ts.length m:=by
 intro cs
 induction cs with
 |nil=>intro S ds s4 s6 s7 _ e;cases e|cons a cs q=>
  intro S ds s4 s6 s7 j e W M t;rw[yan,ydx]at t ⊢;obtain⟨d,f,M1,w,_⟩:=C.run S ds (k+1) a.2 W M U (j a yay) (by omega);have f:zaz [.ref n,.int ((k:Int)+1),zaT a.2] S=_:=f;have mo:=W.meth "count_from" (by decide +kernel);have s:ixD (chD a) (.int 0)=some (.int a.1):=rfl;have i1:ixD (chD a) (.int 1)=some (zaT a.2):=rfl;rw[List.find?_cons]at e
  by_cases h:0<zdk ts gr c b m (k+1) a.2
  ·rw[yax h]at e;cases e
   have g:N.length<=100000:=by omega
   refine⟨d,~~~chD p,~~~(.int (zdk ts gr c b m (k+1) p.2:Nat)),?_,M1,by omega⟩;rw[yau];unfold zel;generalize wOb (.tup (ts.map zab)) (.lst (gr.map oD)) (.tup [.int r,.int c]) b d=ob,zdk ts gr c b m (k+1) p.2=ww,chD p=cp,zaT p.2=o at*;simp[za9,mo,s,i1,f,h,g]
  ·rw[yaE h]at e;rw[Nat.eq_zero_of_not_pos h]at f;obtain⟨i,x6,J,l,M2,v⟩:=q _ d s4 (~~~chD a) (~~~.int 0) (fun p u=>j p (yas _ u)) e (W.put d) M1 (by omega);refine⟨i,x6,J,?_,M2,by omega⟩;rw[ycw]at l;rw[yau];unfold zel;generalize wOb (.tup (ts.map zab)) (.lst (gr.map oD)) (.tup [.int r,.int c]) b d=ob,chD a=cp,zaT a.2=o at*;simp[za9,mo,i1,f,zrV];exact l
end
theorem zlI(h:1<=q):∀{m L:Nat},m<=L->zbb q m<=zbb q L:=by
 intro m L b
 have step:∀n,zbb q n<=zbb q (n+1):=by
  intro n;show _<=1+q*zbb q n;have:1*zbb q n<=q*zbb q n:=ybk _ h;omega
 induction L with
 |zero=>rw[show m=0 by omega];exact yai _
 |succ L a=>
  by_cases e:m=L+1
  ·rw[e];exact yai _
  ·exact yal (a (by omega)) (step L)
def zjz{L k:Nat}{d:D}(h:(zaB 0 (L:Int))[k]?=some d):k<L/\d=.int (k:Int):=by
 unfold zaB at h;simp only[Int.sub_zero,yaI]at h;rw[yao]at h
 by_cases a:k<L
 ·rw[List.getElem?_range a]at h;refine⟨a,?_⟩;have:=(Option.some.inj h).symm;simpa using this
 ·rw[yaP (by simp;omega)]at h;cases h
section
variable{n:Nat}{ts:Z2}{gr:Z4}{r c:Nat}{b:Bool}
theorem zgC(W:WAt S n ts gr r c b ds)(M:zpa ts gr c b ds)(ht:TOk ts)(h1:1<=ts.length)(hg:∀o∈gr,∀x,o=some x->0<=x/\x<ts.length)(U:1<=c)(J:c<=100)(hm:gr.length<=30)(hp:ts.length ^ gr.length<=1000000)(hz:ds.length+gr.length*(ts.length*zbb ts.length gr.length)<=1000000)(hq:0<zdk ts gr c b gr.length 0 (List.replicate (c+2) none)):
  ∃I t,zgE ts gr c b gr.length 0 (List.replicate (c+2) none)=t/\t.length=gr.length/\zbr [.ref n,.int 0] S=.ok (.lst (t.map D.int)) (S.set n (wOb (.tup (ts.map zab)) (.lst (gr.map oD)) (.tup [.int r,.int c]) b I)):=by
 have e1:=zet W J;have Y:=W.meth "first_seam" (by decide +kernel)
 have K:(zaB 0 (gr.length:Int)).length=gr.length:=by unfold zaB;simp
 obtain⟨P,S',e2,t,s,I,u,q,j,rfl,rfl,O,Q,hs,f,g,a⟩:=zd1 (tg:=.one 5) (body:=zbK) (ds:=zaB 0 (gr.length:Int)) (fun k ρ S'=>∃(t:List Int) (s:Z4) (I:List (D×D)) (u q j:Option (Bool×D)),ρ=[~~~.ref n,~~~.int 0,some (true,.lst (t.map D.int)),~~~.int 0,~~~zaT s,u,q,j]/\S'=S.set n (wOb (.tup (ts.map zab)) (.lst (gr.map oD)) (.tup [.int r,.int c]) b I)/\zpa ts gr c b I/\I.length<=ds.length+k*(ts.length*zbb ts.length gr.length)/\s.length=c+2/\t.length=k/\0<zdk ts gr c b (gr.length-k) k s/\t++zgE ts gr c b (gr.length-k) k s=zgE ts gr c b gr.length 0 (List.replicate (c+2) none)) (by
  rintro k d ρ S' hd ⟨t,s,I,u,q,j,rfl,rfl,O,Q,hs,f,g,a⟩;obtain⟨H,rfl⟩:=zjz hd;obtain⟨m,z⟩:∃m,gr.length-k=m+1:=⟨gr.length-k-1,by omega⟩;rw[z]at g a
  have h:gr.length-(k+1)=m:=by omega
  have F:=W.put I;have C:CfOk n ts gr r c b m zaz:=zm1 ht h1 hg U J m 40 (by omega) (yal (yc2 h1 (by omega)) hp);have E:=zf0 (k:=k) (s:=s) F ht H hg U J hs;obtain⟨p,e⟩:=zmJ (w:=fun p=>zdk ts gr c b m (k+1) p.2) (l:=chs ts gr c b k s) g;have y:=List.mem_of_find?_eq_some e
  have v:0<zdk ts gr c b m (k+1) p.2:=by simpa using List.find?_some e
  have G:(chs ts gr c b k s).length*zbb ts.length m<=ts.length*zbb ts.length gr.length:=ybv (zi8 h1) (zlI h1 (by omega));have A:(k+1)*(ts.length*zbb ts.length gr.length)<=gr.length*(ts.length*zbb ts.length gr.length):=ybk _ H;rw[yb8]at A;obtain⟨i,T,R,L,M2,z2⟩:=zwO (s1:= ~~~.int 0) (N:=t.map D.int) C (by omega) (by rw[yad];omega) (chs ts gr c b k s) _ I (~~~zaT s) q j (zhw U hs) e F O (by omega);rw[ycw]at L;have mo:=F.meth "choices" (by decide +kernel);refine⟨_,_,_,rfl,?_,t++[p.1],p.2,i,~~~.int k,T,R,rfl,rfl,M2,by rw[yb8];omega,zhw U hs p y,by rw[yak,f];rfl,by rw[h];exact v,?_⟩
  ·have Z:(t++[p.1]).map D.int=t.map D.int++[D.int p.1]:=by rw[ybS];rfl
   rw[Z];generalize wOb (.tup (ts.map zab)) (.lst (gr.map oD)) (.tup [.int r,.int c]) b I=ob,wOb (.tup (ts.map zab)) (.lst (gr.map oD)) (.tup [.int r,.int c]) b i=X,(chs ts gr c b k s).map chD=cs,zaT s=V,zaT p.2=sp at*;simp[zbK,mo,E,L]
  ·rw[<-a,h,zgE,e,ybP];rfl)
  (ρ:=[~~~.ref n,~~~.int 0,some (true,.lst []),~~~.int 0,~~~(zaT (List.replicate (c+2) none)),none,none,none]) (S:=S) ⟨[],List.replicate (c+2) none,ds,none,none,none,rfl,(zfG W.at_).symm,M,by omega,yaM ..,rfl,hq,rfl⟩
 rw[K,ybx,zgE,yaS]at a;refine⟨I,t,a.symm,f.trans K,?_⟩
 have B:-1000000<=(gr.length:Int)/\(gr.length:Int)<=1000000:=by omega
 have eg:=W.ground;generalize wOb (.tup (ts.map zab)) (.lst (gr.map oD)) (.tup [.int r,.int c]) b I=ob,zaT (List.replicate (c+2) none)=V,t.map D.int=td at*;simp[zbr,zaj,zb5,Y,e1,eg,B,e2]
end
noncomputable def zbv(c:Nat)(t:List Int):Nat->Nat->Option Int:=fun i j=>some (t.getD (i*c+j) 0)
theorem zrF{t:List Int}{r c i:Nat}(I:t.length=r*c)(hi:i<r):zff (t.map D.int) (some ((i:Int)*(c:Int))) (some (((i:Int)+1)*(c:Int)))=zeB c (zbv c t i):=by
 have h1:i*c+c<=r*c:=by
  have:=ybk c (show i+1<=r by omega);rwa[yb8]at this
 unfold zff;rw[show(i:Int)*(c:Int)=((i*c:Nat):Int)by rw[ydd],show((i:Int)+1)*(c:Int)=((i*c+c:Nat):Int)by rw[Int.add_mul,Int.one_mul,Int.natCast_add,ydd],HT.zfk,HT.zfk,yad,I];rw[ycc h1,ycc (show i*c<=r*c by omega),show i*c+c-i*c=c by omega];apply ybn;intro j;rw[ydm]
 by_cases a:j<c
 ·rw[if_pos a,ybz,zeT a,yao,yab (by omega)];simp[oD,zbv,yav,yab (show i*c+j<t.length by omega)]
 ·rw[if_neg a,yaP (by simp[zeB];omega)]
theorem ziO{t:List Int}{r c:Nat}{S:Sto}(I:t.length=r*c)(U:c<=100)(J:r<=100):zeV [.lst (t.map D.int),.tup [.int r,.int c]] S=.ok (flr r c (zbv c t)) S:=by
 have fc:zcr (c:Int)=true:=zpC (by omega) (by omega)
 have f:=zcR (tg:=.one 0) (elt:=zay zcq [(eSl (zah 1) (some (zag zhk (zah 0) (zag ixD (zah 2) (zaf (.int 1))))) (some (zag zhk (zag zb1 (zah 0) (zaf (.int 1))) (zag ixD (zah 2) (zaf (.int 1))))))]) (ρ0:=[none,~~~.lst (t.map D.int),~~~.tup [.int r,.int c]]) (S:=S) (g:=fun d=>match d with|.int i=>zf1 c (zbv c t i.toNat)|_=>.non) (ds:=zaB 0 (r:Int)) (by
  intro d hd;obtain⟨k,j⟩:=List.getElem?_of_mem hd;obtain⟨hi,rfl⟩:=zjz j;refine⟨_,rfl,?_⟩;have e:=zrF I hi;show _=Out.ok (D.tup (zeB c (zbv c t ((k:Int).toNat)))) S;rw[yaI];generalize zeB c (zbv c t k)=res,t.map D.int=h at*
  simp[fc,e])
 have l:(zaB 0 (r:Int)).map (fun d=>match d with|.int i=>zf1 c (zbv c t i.toNat)|_=>.non)=zdc r c (zbv c t):=by
  unfold zaB zdc;simp only[Int.sub_zero,yaI,ybb];apply ydb;intro i _;simp
 rw[l]at f
 have b:(zdc r c (zbv c t)).length<=100000:=by rw[zdE];omega
 have a:-1000000<=(r:Int)/\(r:Int)<=1000000:=by omega
 unfold flr;generalize zdc r c (zbv c t)=res,t.map D.int=h at*;simp[zeV,zaj,zgq,a,f,b]
section
variable{n:Nat}{ts:Z2}{gr:Z4}{r c:Nat}{b:Bool}{S:Sto}
theorem zhY(W:WAt S n ts gr r c b [])(ht:TOk ts)(h1:1<=ts.length)(hg:∀o∈gr,∀x,o=some x->0<=x/\x<ts.length)(hc:1<=c)(I:c<=100)(hr:r<=100)(a3:gr.length=r*c)(hm:gr.length<=30)(U:ts.length ^ gr.length<=1000000)(hz:zbb ts.length gr.length+gr.length*(ts.length*zbb ts.length gr.length)<=1000000)(J:0<zdk ts gr c b gr.length 0 (List.replicate (c+2) none)):
  ∃ob,zbk [.ref n,.int 0] S=.ok (flr r c (zbv c (zgE ts gr c b gr.length 0 (List.replicate (c+2) none)))) (S.set n ob):=by
 obtain⟨d,p,M,z⟩:=zeR W ht h1 hg hc I hm U (by omega);have j:=W.meth "count_all" (by decide +kernel);have g:=W.put d;obtain⟨a,t,l,k,f⟩:=zgC g M ht h1 hg hc I hm U (by omega) J;rw[ycw]at f;have es:=(W.put a).size;have i:=g.meth "numbers_by" (by decide +kernel);have m:=ziO (t:=t) (r:=r) (c:=c) (S:=S.set n (wOb (.tup (ts.map zab)) (.lst (gr.map oD)) (.tup [.int r,.int c]) b a)) (by omega) I hr;rw[l];generalize zdk ts gr c b gr.length 0 (List.replicate (c+2) none)=ww,wOb (.tup (ts.map zab)) (.lst (gr.map oD)) (.tup [.int r,.int c]) b d=h,wOb (.tup (ts.map zab)) (.lst (gr.map oD)) (.tup [.int r,.int c]) b a=e,flr r c (zbv c t)=fl,t.map D.int=q at*;exact⟨e,by simp[zbk,zaj,zcL,j,p,J,i,f,es,m]⟩
end
theorem znP(q m:Nat)(h:zgy q m):zbb q m+m*(q*zbb q m)<=1000000:=by
 have h1:=h.1;have:m*(q*zbb q m)<=m*(zbb q m+q*zbb q m):=Nat.mul_le_mul_left _ (Nat.le_add_left _ _);omega
def fw(ts:Z2)(r c:Nat)(g:Z1):List Int:=zgE ts (zap r c g) c false (r*c) 0 (List.replicate (c+2) none)
def zgW{ts:Z2}{r c:Nat}{g:Z1}(I:InT ts g):∀o∈zap r c g,∀x,o=some x->0<=x/\x<ts.length:=by
 intro o a x b;obtain⟨i,_,a⟩:=ybB.mp a;obtain⟨j,_,rfl⟩:=yar.mp a;exact I i j x b
theorem znE(P:FP ts r c)(J:InT ts g)(I:nW ts r c g≠0)(S:Sto):∃S',Lg S S'/\zjA [.tup (ts.map zab),flr r c g,.int 0] S=.ok (flr r c (zbv c (fw ts r c g))) S':=by
 obtain⟨l,k⟩:=ziS ts.length (r*c) P.h4;have j:=znP ts.length (r*c) P.h4;have r6:=P.r6;have c6:=P.c6;have h:=zjw (T:=.tup (ts.map zab)) (b:=false) (S:=S) (g:=g) (c:=c) P.r1 (show r<=100 by omega) (show c<=100 by omega);have W:WAt (S++[wOb (.tup (ts.map zab)) (.lst ((zap r c g).map oD)) (.tup [.int r,.int c]) false []]) S.length ts (zap r c g) r c false []:=⟨by rw[yaG (yai _),ybx];rfl⟩;have gl:=zb4 (r:=r) (c:=c) (g:=g);have rc:=P.rc
 have e:0<zdk ts (zap r c g) c false (zap r c g).length 0 (List.replicate (c+2) none):=by rw[gl];exact Nat.pos_of_ne_zero I
 obtain⟨d,a⟩:=zhY W P.ht P.h1 (zgW J) P.c1 (by omega) (by omega) gl (by omega) (by rw[gl];omega) (by rw[gl];exact j) e;rw[gl]at a;have m:=W.meth "whole_by" (by decide +kernel);have f:=zdw (i:=0) (S:=S);have a:zbk [.ref S.length,.int 0] _=.ok (flr r c (zbv c (fw ts r c g))) _:=a;generalize flr r c (zbv c (fw ts r c g))=res,wOb (.tup (ts.map zab)) (.lst ((zap r c g).map oD)) (.tup [.int r,.int c]) false []=ob,flr r c g=fl at*;refine⟨(S++[ob]).set S.length d,.one,?_⟩;simp[zjA,zaj,zmS,f,h,m,a]
section
variable{ts:Z2}{r c:Nat}{g h:Z1}
def zqS{gr:Z4}{b:Bool}(I:∀o∈gr,∀x,o=some x->0<=x/\x<ts.length):∀m k s,∀x∈zgE ts gr c b m k s,0<=x/\x<ts.length:=by
 intro m
 induction m with
 |zero=>intro _ _ x a;cases a|succ m g=>
  intro k s x a;rw[zgE]at a
  cases hs:(chs ts gr c b k s).find? fun p=>decide (0<zdk ts gr c b m (k+1) p.2)with
  |none=>rw[hs]at a;cases a|some p=>
   rw[hs]at a
   rcases yat.mp a with rfl|z
   ·obtain⟨y,h,e⟩:=yar.mp (List.mem_of_find?_eq_some hs);rw[<-e];refine zme (fun z d=>?_) y (ybo.mp h).1;rw[yav]at d
    cases f:gr[k]? with
    |none=>rw[f]at d;cases d|some o=>rw[f]at d;exact I o (ybj f) z d
   ·exact g _ _ x z
def zmI{n:Nat}(h1:1<=n){t:List Int}(h:∀x∈t,0<=x/\x<n){i:Nat}:0<=t.getD i 0/\t.getD i 0<n:=by
 rw[yav]
 cases a:t[i]? with
 |none=>exact⟨ycP _,Int.ofNat_lt.mpr h1⟩|some x=>exact h x (ybj a)
def fn(ts:Z2)(r c:Nat)(g:Z1)(i j:Nat):Int:=(fw ts r c g).getD (i*c+j) 0
theorem zrx(P:FP ts r c)(I:InT ts g){i j:Nat}:0<=fn ts r c g i j/\fn ts r c g i j<ts.length:=zmI P.h1 (zqS (zgW I) _ _ _)
def zmK(ts:Z2)(r c:Nat)(g:Z1)(i j:Nat):Bool:=(g i j).isNone&&!decide (nW ts r c g=0)&&decide (((nW ts r c (zf3 g i j (some (fn ts r c g i j))):Nat):Int)=nW ts r c g)
def zjZ(ts:Z2)(r c:Nat)(g:Z1):D->List D
 |.tup [.int i,.int j]=>if zmK ts r c g i.toNat j.toNat then[.tup [plD i.toNat j.toNat,.int (fn ts r c g i.toNat j.toNat)]]else[]
 |_=>[]
def zjY:zjZ ts r c g (plD i j)=if zmK ts r c g i j then[.tup [plD i j,.int (fn ts r c g i j)]]else[]:=by
 show(if zmK ts r c g ((i:Int).toNat) ((j:Int).toNat)then _ else _)=_;rw[yaI,yaI]
def zdb(ts:Z2)(r c:Nat)(g:Z1):List D:=(zcn r c).flatMap (zjZ ts r c g)
def zkH(h:nW ts r c g=0):zdb ts r c g=[]:=by
 unfold zdb;rw[List.flatMap_eq_nil_iff];intro d hd;obtain⟨i,j,_,_,rfl⟩:=zbx hd;rw[zjY]
 have:zmK ts r c g i j=false:=by unfold zmK;rw[h];simp
 rw[this];rfl
def zgQ(hd:d∈zdb ts r c g):∃i j,i<r/\j<c/\d=.tup [plD i j,.int (fn ts r c g i j)]:=by
 obtain⟨p,a,hd⟩:=ybB.mp hd;obtain⟨i,j,hi,b,rfl⟩:=zbx a;rw[zjY]at hd;split at hd
 ·exact⟨i,j,hi,b,yaB.mp hd⟩
 ·exact(ya2 hd).elim
def zoO:(zjZ ts r c g d).length<=1:=by
 unfold zjZ;split
 ·split<;>simp
 ·simp
noncomputable def zgH(g:Z1):D->Bool|.tup [.int i,.int j]=>(g i.toNat j.toNat).isNone|_=>false
def zjb:zgH g (plD i j)=(g i j).isNone:=by
 show(g ((i:Int).toNat) ((j:Int).toNat)).isNone=_;rw[yaI,yaI]
def zt3:zdD (oD o)=o.isNone:=by cases o<;>rfl
def znH(h1:1<=r)(I:r<=100)(J:c<=100):zcv [flr r c g] S=.ok (.lst ((zcn r c).filter (zgH g))) S:=by
 have k:=zbd (g:=g) (S:=S) (c:=c) h1 I J
 have a:=zd9 (tg:=.one 0) (c:=zag zmx (eFn zak [(zac 1),(zac 0)]) (zaf .non)) (elt:=zac 0) (ρ0:=[none,~~~flr r c g]) (S:=S) (g:=id) (p:=zgH g) (ds:=zcn r c) (by
  intro d hd;obtain⟨i,j,hi,f,rfl⟩:=zbx hd;have b:=zbL (g:=g) (S:=S) hi f;refine⟨_,rfl,?_,fun _=>rfl⟩;rw[zjb,<-zt3];generalize flr r c g=h,plD i j=pp at*
  simp[b])
 rw[List.map_id]at a
 have e:((zcn r c).filter (zgH g)).length<=100000:=by
  refine yal (ybg _ _) ?_;rw[zdY];exact yal (ybv I J) (by decide)
 generalize (zcn r c).filter (zgH g)=res,flr r c g=h at*;simp[zcv,zaj,zdK,k,a,e]
def zpE:eqD (.int a) (.int b)=some (.bl (decide (a=b))):=by
 simp[eqD,zeX,D.py,PyData.eqv];rfl
theorem zkr(P:FP ts r c)(I:InT ts g)(S:Sto):∃S',Lg S S'/\zeW [.tup (ts.map zab),flr r c g] S=.ok (.lst (zdb ts r c g)) S':=by
 obtain⟨S1,g1,v⟩:=zeS P I S;have C:=zpE (a:=(nW ts r c g:Nat)) (b:=0)
 by_cases e:nW ts r c g=0
 ·rw[zkH e];rw[e]at v;refine⟨S1,g1,?_⟩;have q:eqD (.int 0) (.int 0)=some (.bl true):=rfl;generalize flr r c g=fl at*;simp at v;simp[zeW,zaj,zfK,v,q]
 ·obtain⟨S2,g2,V⟩:=znE P I e S1;have U:=znH (g:=g) (S:=S2) P.r1 (show r<=100 by have:=P.r6;omega) (show c<=100 by have:=P.c6;omega);have r6:=P.r6;have c6:=P.c6
  have A:((zcn r c).filter (zgH g)).flatMap (zjZ ts r c g)=zdb ts r c g:=by
   unfold zdb
   have:∀l:List D,(∀d∈l,∃i j,i<r/\j<c/\d=plD i j)->(l.filter (zgH g)).flatMap (zjZ ts r c g)=l.flatMap (zjZ ts r c g):=by
    intro l
    induction l with
    |nil=>intro _;rfl|cons d l K=>
     intro hm;obtain⟨i,j,_,_,rfl⟩:=hm d yay;have n:=K fun d hd=>hm d (yas _ hd)
     rw[List.filter_cons,zjb,ybi]
     cases B:g i j with
     |none=>simp only[Option.isNone_none,ycM,ybi,n]|some x=>
      have:zjZ ts r c g (plD i j)=[]:=by
       rw[zjY]
       have:zmK ts r c g i j=false:=by unfold zmK;rw[B];rfl
       rw[this];rfl
      simp only[Option.isNone_some,yaK,yby,n,this,ybQ]
   exact this _ fun d hd=>zbx hd
  have p:∀d∈(zcn r c).filter (zgH g),∃i j,i<r/\j<c/\d=plD i j/\g i j=none:=fun d hd=>by
   obtain⟨h1,h2⟩:=ybo.mp hd;obtain⟨i,j,hi,u,rfl⟩:=zbx h1;rw[zjb]at h2;exact⟨i,j,hi,u,rfl,Option.isNone_iff_eq_none.mp h2⟩
  have M:((zcn r c).filter (zgH g)).length<=100:=by
   refine yal (ybg _ _) ?_;rw[zdY];have:=P.rc;omega
  rw[<-A];generalize (zcn r c).filter (zgH g)=ps at*
  obtain⟨H,W,G,z,y,rfl,g3⟩:=zd1 (tg:=.one 5) (body:=zep) (ds:=ps) (fun k ρ S=>∃z y,ρ=[~~~.tup (ts.map zab),~~~flr r c g,~~~.int (nW ts r c g:Nat),~~~(flr r c (zbv c (fw ts r c g))),some (true,.lst ((ps.take k).flatMap (zjZ ts r c g))),z,y]/\Lg S2 S) (by
   rintro k d ρ S hd ⟨z,y,rfl,R⟩;obtain⟨i,j,hi,u,rfl,B⟩:=p d (ybj hd)
   have T:ps.take (k+1)=ps.take k++[plD i j]:=by
    rw[yds,hd];rfl
   rw[T,List.flatMap_append,List.flatMap_singleton,zjY]
   have O:((ps.take k).flatMap (zjZ ts r c g)).length<=100000:=by
    have:=ze6 (g:=zjZ ts r c g) (m:=1) (l:=ps.take k) fun d _=>zoO
    rw[ybZ]at this;omega
   have h:=zbL (g:=zbv c (fw ts r c g)) (S:=S) hi u;have h:zak [flr r c (zbv c (fw ts r c g)),plD i j] S=.ok (oD (some (fn ts r c g i j))) S:=h;have E:=zrx (i:=i) (j:=j) P I;have w:=zdv (ts:=ts) (g:=g) (o:=some (fn ts r c g i j)) (S:=S) (fun x f=>by cases f;exact E) P.r1 hi u (by omega) (by omega);obtain⟨S',Q,s⟩:=zeS (g:=zf3 g i j (some (fn ts r c g i j))) P (zjB I fun x f=>by cases f;exact E) S;have q:=zpE (a:=(nW ts r c (zf3 g i j (some (fn ts r c g i j))):Nat)) (b:=(nW ts r c g:Nat))
   have F:decide (((nW ts r c (zf3 g i j (some (fn ts r c g i j))):Nat):Int)=nW ts r c g)=zmK ts r c g i j:=by unfold zmK;rw[B,yaE e];rfl
   rw[F]at q;clear F;refine⟨_,[~~~.tup (ts.map zab),~~~flr r c g,~~~.int (nW ts r c g:Nat),~~~(flr r c (zbv c (fw ts r c g))),some (true,.lst ((ps.take k).flatMap (zjZ ts r c g)++if zmK ts r c g i j then[.tup [plD i j,.int (fn ts r c g i j)]]else[])),~~~plD i j,~~~.int (fn ts r c g i j)],S',rfl,?_,_,_,rfl,R.trans Q⟩;have N:oD (some (fn ts r c g i j))=.int (fn ts r c g i j):=rfl;rw[N]at h w;generalize (ps.take k).flatMap (zjZ ts r c g)=L,nW ts r c (zf3 g i j (some (fn ts r c g i j)))=Y,nW ts r c g=J,flr r c (zf3 g i j (some (fn ts r c g i j)))=f1,flr r c (zbv c (fw ts r c g))=f2,flr r c g=fl,fn ts r c g i j=X,plD i j=pp at*
   cases t:zmK ts r c g i j with
   |true=>rw[t]at q;simp[zep,h,w,s,q,O]|false=>rw[t]at q;simp[zep,h,w,s,q])
   (ρ:=[~~~.tup (ts.map zab),~~~flr r c g,~~~.int (nW ts r c g:Nat),~~~(flr r c (zbv c (fw ts r c g))),some (true,.lst []),none,none]) (S:=S2) ⟨none,none,rfl,.refl⟩
  rw[List.take_length]at G;refine⟨W,(g1.trans g2).trans g3,?_⟩;rw[yaE (by omega)]at C;generalize ps.flatMap (zjZ ts r c g)=res,nW ts r c g=J,flr r c (zbv c (fw ts r c g))=f2,flr r c g=fl at*;simp[zeW,zaj,zfK,v,C,V,U,G]
noncomputable def stW(h:Z1):D->Nat->Nat->Option Int|.tup [.tup [.int i,.int j],.int x]=>zf3 h i.toNat j.toNat (some x)|_=>h
def zsv:stW h (.tup [plD i j,.int x])=zf3 h i j (some x):=by
 show zf3 h ((i:Int).toNat) ((j:Int).toNat) (some x)=_;rw[yaI,yaI]
def wfG(ts:Z2)(r c:Nat)(g:Z1):Nat->Nat->Option Int:=(zdb ts r c g).foldl stW g
def zvp(P:FP ts r c)(I:InT ts g):InT ts (wfG ts r c g):=by
 unfold wfG
 have:∀(L:List D) (k:Z1),InT ts k->(∀d∈L,d∈zdb ts r c g)->InT ts (L.foldl stW k):=by
  intro L
  induction L with
  |nil=>intro k a _;exact a|cons d L b=>
   intro k a hm;obtain⟨i,j,_,_,rfl⟩:=zgQ (hm d yay);rw[List.foldl_cons,zsv];exact b _ (zjB a fun x e=>by cases e;exact zrx P I) fun d hd=>hm d (yas _ hd)
 exact this _ g I fun _ h=>h
def zdU(P:FP ts r c)(I:InT ts g)(S:Sto):∃S',Lg S S'/\za3 [.tup (ts.map zab),flr r c g] S=.ok (flr r c (wfG ts r c g)) S':=by
 obtain⟨S1,g1,u⟩:=zkr P I S;have r6:=P.r6;have c6:=P.c6;have e:∀d∈zdb ts r c g,∃i j,i<r/\j<c/\d=.tup [plD i j,.int (fn ts r c g i j)]:=fun d hd=>zgQ hd
 unfold wfG;generalize zdb ts r c g=L at*
 obtain⟨p,S2,m,b,a,rfl,rfl⟩:=zd1 (tg:=.tup [3,4]) (body:=zcT) (ds:=L) (fun k ρ S=>∃b a,ρ=[~~~.tup (ts.map zab),~~~flr r c g,~~~(flr r c ((L.take k).foldl stW g)),b,a]/\S=S1) (by
  rintro k d ρ S hd ⟨b,a,rfl,rfl⟩;obtain⟨i,j,hi,t,rfl⟩:=e d (ybj hd);have q:=zrx (i:=i) (j:=j) P I;rw[yds,hd,List.foldl_append];show ∃n f S2,_/\_/\∃b a,f=[_,_,~~~(flr r c (stW ((L.take k).foldl stW g) (.tup [plD i j,.int (fn ts r c g i j)]))),b,a]/\_;rw[zsv];generalize (L.take k).foldl stW g=h at*;have w:=zdv (ts:=ts) (g:=h) (o:=some (fn ts r c g i j)) (S:=S) (fun x l=>by cases l;exact q) P.r1 hi t (by omega) (by omega);refine⟨_,_,S,rfl,?_,~~~plD i j,~~~.int (fn ts r c g i j),rfl,rfl⟩;have s:oD (some (fn ts r c g i j))=.int (fn ts r c g i j):=rfl;rw[s]at w;generalize flr r c (zf3 h i j (some (fn ts r c g i j)))=f1,flr r c h=f2,flr r c g=fl,fn ts r c g i j=v,plD i j=pp at*
  simp[zcT,w])
  (ρ:=[~~~.tup (ts.map zab),~~~flr r c g,~~~flr r c g,none,none]) (S:=S1) ⟨none,none,rfl,rfl⟩
 rw[List.take_length]at m;refine⟨S2,g1,?_⟩;generalize flr r c (L.foldl stW g)=f1,flr r c g=fl at*;simp[za3,zaj,zdG,u,m]
end
def zwu(ts:Z2)(r c:Nat)(g h:Z1):Bool:=zkG r c h&&decide (clL ts r c h=[])&&zoQ r c h g
def ziN{ts:Z2}{r c:Nat}{g h:Z1}(P:FP ts r c)(I:InT ts h)(S:Sto):zbP [.tup (ts.map zab),flr r c g,flr r c h] S=.ok (.bl (zwu ts r c g h)) S:=by
 have r6:=P.r6;have c6:=P.c6;have a:=znA (g:=g) (h:=h) (r':=r) (c':=c) (c:=c) (S:=S) P.r1 (by omega);have d:=zlz (g:=h) (S:=S) (c:=c) P.ht I P.r1 (by omega) (by omega);have e:=zhZ (g:=h) (h:=g) (S:=S) (c:=c) P.r1 (by omega) (by omega);simp only[and_self,decide_true]at a;unfold zwu;generalize flr r c g=fl,flr r c h=f,(zkG r c h&&decide (clL ts r c h=[]))=b at*
 cases b with
 |true=>simp[zbP,zaj,ze9,a,d,e]|false=>simp[zbP,zaj,ze9,a,d]
variable{r c:Nat}{g:Z1}{S:Sto}{x y p:ST.IP}
noncomputable def inF(r c:Nat)(x:ST.IP):Prop:=(0<=x.1/\x.1<(r:Int))/\0<=x.2/\x.2<(c:Int)
noncomputable instance:Decidable (inF r c x):=by unfold inF;exact inferInstance
theorem zoh(h:inF r c x):∃i j:Nat,i<r/\j<c/\pD x=plD i j/\x.1.toNat=i/\x.2.toNat=j:=by
 obtain⟨⟨a,b⟩,d,e⟩:=h;refine⟨x.1.toNat,x.2.toNat,by omega,by omega,?_,rfl,rfl⟩;show D.tup [.int x.1,.int x.2]=D.tup [.int _,.int _];rw[ycp a,ycp d]
noncomputable def zwX(r c:Nat):List ST.IP:=(List.range r).flatMap fun(i:Nat)=>(List.range c).map fun(j:Nat)=>((i:Int),(j:Int))
def zo8:(zwX r c).length=r*c:=by
 unfold zwX;rw[List.length_flatMap];simp[List.map_const']
def zo7(h:inF r c x):x∈zwX r c:=by
 obtain⟨⟨a,b⟩,d,e⟩:=h;refine ybB.mpr ⟨x.1.toNat,yaX.mpr (by omega),yar.mpr ⟨x.2.toNat,yaX.mpr (by omega),?_⟩⟩;show(((x.1.toNat:Nat):Int),((x.2.toNat:Nat):Int))=(x.1,x.2);rw[ycp a,ycp d]
theorem zjM{α:Type}[BEq α][LawfulBEq α]:∀{l m:List α},l.Nodup->(∀x∈l,x∈m)->l.length<=m.length
 |[],_,_,_=>yaY _|a::l,m,nd,h=>by
  rw[ybw]at nd;have d:=h a (.head _)
  have:=zjM (l:=l) (m:=m.erase a) nd.2 fun x c=>by
   have b:x≠a:=fun z=>nd.1 (z ▸ c)
   exact(List.mem_erase_of_ne b).mpr (h x (.tail _ c))
  rw[List.length_erase_of_mem d]at this;have e:0<m.length:=List.length_pos_of_mem d;rw[yan];omega
noncomputable def zuS(x:ST.IP):List ST.IP:=[(x.1-1,x.2),(x.1,x.2-1),(x.1,x.2+1),(x.1+1,x.2)]
def zgD:zcY [pD x] S=.ok (.lst ((zuS x).map pD)) S:=by
 simp[zcY,zaj,zd2,zuS,pD]
noncomputable def okC(r c:Nat)(g:Z1)(x y:ST.IP):Bool:=decide (inF r c y/\g y.1.toNat y.2.toNat=g x.1.toNat x.2.toNat)
def alk(r c:Nat)(g:Z1)(x:ST.IP):List ST.IP:=(zuS x).filter (okC r c g x)
def znb:(alk r c g x).length<=4:=ybg _ _
def zpt(h:inF r c x):zak [flr r c g,pD x] S=.ok (oD (g x.1.toNat x.2.toNat)) S:=by
 obtain⟨i,j,hi,a,e,d,b⟩:=zoh h;rw[e,d,b];exact zbL hi a
def zpy(h1:1<=r):zaI [flr r c g,pD x] S=.ok (.bl (decide (inF r c x))) S:=zcs h1
def zlC(h1:1<=r)(I:inF r c x):zcc [flr r c g,pD x] S=.ok (.lst ((alk r c g x).map pD)) S:=by
 have e:zcS (.one 0) (zfs (eFn zaI [(zac 1),(zac 0)]) (zag eqD (eFn zak [(zac 1),(zac 0)]) (zah 2))) (zac 0) [none,~~~flr r c g,~~~oD (g x.1.toNat x.2.toNat)] ((zuS x).map pD) S=.ok ((alk r c g x).map pD) S:=by
  rw[zd9 (g:=id) (p:=fun d=>match zf7 d with|some y=>okC r c g x y|none=>false)]
  ·rw[List.map_id,List.filter_map];rfl
  ·intro d hd;obtain⟨y,_,rfl⟩:=yar.mp hd;refine⟨_,rfl,?_,fun _=>by simp⟩;have h:=zpy (g:=g) (c:=c) (x:=y) (S:=S) h1;show _=Out.ok (D.bl (okC r c g x y)) S;unfold okC
   by_cases f:inF r c y
   ·have m:=zpt (g:=g) (S:=S) f;have l:=zrC (a:=g y.1.toNat y.2.toNat) (b:=g x.1.toNat x.2.toNat);generalize oD (g y.1.toNat y.2.toNat)=o,oD (g x.1.toNat x.2.toNat)=i,flr r c g=F,pD y=py at*;simp[h,m,l,f]
   ·generalize flr r c g=F at*;generalize pD y=py at*;simp[h,f]
 have n:=zpt (g:=g) (S:=S) I;have k:=zgD (x:=x) (S:=S)
 have j:((alk r c g x).map pD).length<=100000:=by rw[yad];exact yal znb (by decide)
 generalize (alk r c g x).map pD=A,(zuS x).map pD=C,oD (g x.1.toNat x.2.toNat)=i,flr r c g=F,pD x=px at*;simp[zcc,zaj,zdf,n,k,e,j]
noncomputable def stp(s:List ST.IP×List ST.IP)(n:ST.IP):List ST.IP×List ST.IP:=if n∈s.1 then s else(s.1++[n],s.2++[n])
structure Dv(r c:Nat)(s:List ST.IP×List ST.IP):Prop where
 nd:s.1.Nodup
 ir:∀q∈s.1,inF r c q
 sub:∀q∈s.2,q∈s.1
 le:s.2.length<=s.1.length
 ne:s.1≠[]
def Dv.len(h:Dv r c s):s.1.length<=r*c:=by
 rw[<-zo8];exact zjM h.nd fun q a=>zo7 (h.ir q a)
theorem Dv.stp{s:List ST.IP×List ST.IP}(h:Dv r c s)(I:inF r c x):Dv r c (stp s x)/\(stp s x).2.length+s.1.length=(stp s x).1.length+s.2.length/\s.1.length<=(stp s x).1.length:=by
 unfold S2.stp;split
 ·exact⟨h,by omega,by omega⟩
 ·rename_i f;refine⟨⟨?_,fun q d=>?_,fun q d=>?_,?_,by simp⟩,?_,?_⟩
  ·rw[List.nodup_append];exact⟨h.nd,by simp,fun a g b e=>by rw[yaB]at e;subst e;exact fun z=>f (z ▸ g)⟩
  ·rcases ya8.mp d with z|z
   ·exact h.ir q z
   ·rw[yaB.mp z];exact I
  ·rcases ya8.mp d with z|z
   ·exact ybq _ (h.sub q z)
   ·exact yaF _ z
  all_goals simp only[yak,yaH]
  ·have:=h.le;omega
  ·omega
  ·omega
noncomputable abbrev mkA(F:D)(p:ST.IP)(s:List ST.IP×List ST.IP)(h n:Option (Bool×D)):Env:=[~~~F,~~~pD p,some (true,zfL s.1),some (true,.lst (s.2.map pD)),h,n]
def zm5(h1:s.1.length<=1000)(h2:s.2.length<=1000):zc7 (mkA F p s h (~~~pD x)) S=.nx (mkA F p (stp s x) h (~~~pD x)) S:=by
 have a:=zt5 (S:=S) (i:=2) (f:=zac 5) (ρ:=mkA F p s h (~~~pD x)) (p:=x) (S1:=S) rfl (by simp)
 by_cases b:x∈s.1
 ·rw[yax b]at a;rw[show stp s x=s from if_pos b];unfold mkA at a ⊢;generalize zfL s.1=X,s.2.map pD=W at*;simp[zc7,a]
 ·rw[yaE b]at a;rw[show stp s x=(s.1++[x],s.2++[x])from if_neg b];have c:=zte (S:=S) (i:=2) (j:=5) (ρ:=mkA F p s h (~~~pD x)) (p:=x) (ps:=s.1) rfl rfl b (by omega)
  have d:(s.2.map pD).length<=100000:=by rw[yad];omega
  unfold mkA at a c ⊢;rw[show(s.2++[x]).map pD=s.2.map pD++[pD x]by rw[ybS];rfl];generalize zfL (s.1++[x])=e,zfL s.1=X,s.2.map pD=W at*;simp[zc7,a,c,d]
def zkD(J:r*c<=60):∀(l:List ST.IP) (s:List ST.IP×List ST.IP) (n:Option (Bool×D)),(∀x∈l,inF r c x)->Dv r c s->∃s' I,(∀S,zel (.one 5) zc7 (l.map pD) (mkA F p s h n) S=.nx (mkA F p s' h I) S)/\Dv r c s'/\s'.2.length+s.1.length=s'.1.length+s.2.length/\s.1.length<=s'.1.length:=by
 intro l
 induction l with
 |nil=>intro s n _ hd;exact⟨s,n,fun S=>by simp[zel],hd,by omega,by omega⟩
 |cons x l d=>
  intro s n b hd;obtain⟨d1,k,j⟩:=hd.stp (b x (.head _));obtain⟨s',I,e,d2,i,g⟩:=d (stp s x) (~~~pD x) (fun y f=>b y (.tail _ f)) d1;refine⟨s',I,fun S=>?_,d2,by omega,by omega⟩;have hlen:=hd.len;have hle:=hd.le;rw[yau];unfold zel;show(match zc7 (mkA F p s h (~~~pD x)) S with|.nx a S'=>zel (.one 5) zc7 (l.map pD) a S'|.ct a S'=>zel (.one 5) zc7 (l.map pD) a S'|.bk a S'=>.nx a S'|o=>o)=_;rw[zm5 (by omega) (by omega)];exact e S
def zr0{cd:Fe}{body:Fs}{α:Type}{I:α->Env->Prop}{fin:α->Prop}(m:α->Nat)(step:∀a ρ,I a ρ->((∀S,cd ρ S=.ok (.bl false) S)/\fin a)\/((∀S,cd ρ S=.ok (.bl true) S)/\∃U J,(∀S,body ρ S=.nx J S)/\I U J/\m U<m a)):∀(n:Nat) (a:α) (ρ:Env),I a ρ->m a<n->∃U J,(∀S,zdO cd body n ρ S=.nx J S)/\I U J/\fin U:=by
 intro n
 induction n with
 |zero=>intro a ρ _ h;exact absurd h (Nat.not_lt_zero _)|succ n f=>
  intro a ρ d hm
  rcases step a ρ d with⟨e,hf⟩|⟨e,U,J,k,c,g⟩
  ·refine⟨a,ρ,fun S=>?_,d,hf⟩;unfold zdO;rw[e];rfl
  ·obtain⟨a2,b,j,i⟩:=f U J c (by omega);refine⟨a2,b,fun S=>?_,i⟩;unfold zdO;rw[e];show(match body ρ S with|.nx J S'=>zdO cd body n J S'|.ct J S'=>zdO cd body n J S'|.bk J S'=>.nx J S'|o=>o)=_;rw[k];exact j S
theorem zjx(h1:1<=r)(hc:c<=100)(J:r*c<=60)(U:inF r c p):∃L,(∀x∈L,inF r c x)/\L≠[]/\L.length<=100000/\∀S,zh6 [flr r c g,pD p] S=.ok (.lst (L.map pD)) S:=by
 have h0:Dv r c ([p],[p]):=⟨by simp,fun q k=>by rw[yaB.mp k];exact U,fun q k=>k,yai _,by simp⟩
 obtain⟨s,G,e,⟨h,n,hd,rfl⟩,m⟩:=zr0 (cd:=zag gtD (zay zdB [(zah 3)]) (zaf (.int 0))) (body:=zfM) (I:=fun s ρ=>∃h n,Dv r c s/\ρ=mkA (flr r c g) p s h n) (fin:=fun s=>s.2=[]) (fun s=>2*(r*c-s.1.length)+s.2.length)
  (by
   rintro⟨f,w⟩ ρ ⟨h,n,hd,rfl⟩;have hlen:=hd.len
   rcases ycd w with rfl|⟨a,here,rfl⟩
   ·refine .inl ⟨fun S=>?_,rfl⟩;unfold mkA;generalize zfL _=X at*;simp
   ·rw[yce]at*;refine .inr ⟨fun S=>?_,?_⟩
    ·unfold mkA;generalize zfL _=X at*;simp
    ·have B:Dv r c (f,a):=⟨hd.nd,hd.ir,fun q k=>hd.sub q (ybq _ k),by have:=hd.le;simp only[yak,yaH]at this;dsimp only;omega,hd.ne⟩;have y:=hd.ir here (hd.sub here (yaF _ (.head _)));obtain⟨s',H,u,t,M,K⟩:=zkD (F:=flr r c g) (p:=p) (h:= ~~~pD here) J (alk r c g here) (f,a) n (fun x b=>(yah (ybo.mp b).2).1) B;have v:=t.len;refine⟨s',_,fun S=>?_,⟨~~~pD here,H,t,rfl⟩,by show 2*(r*c-s'.1.length)+s'.2.length<2*(r*c-f.length)+(a++[here]).length;rw[yak,yaH];dsimp only at M K hlen;omega⟩;have R:=zlC (g:=g) (S:=S) h1 y;have u:=u S;have ep:=zv2 (S:=S) (i:=4) (j:=3) (ρ:=mkA (flr r c g) p (f,a++[here]) h n) (l:=a.map pD) (d:=pD here) (by show some (some (true,D.lst ((a++[here]).map pD)))=_;rw[ybS];rfl)
     have C:((alk r c g here).map pD).length<=100000:=by rw[yad];exact yal znb (by decide)
     unfold mkA at ep u ⊢;dsimp only at ep u ⊢;generalize (alk r c g here).map pD=A,zfL f=X,zfL s'.1=W,a.map pD=W0,(a++[here]).map pD=W1,s'.2.map pD=Z,flr r c g=F,pD here=V,pD p=pp at*
     simp[zfM,ep,R,u,C])
  100000 ([p],[p]) (mkA (flr r c g) p ([p],[p]) none none) ⟨none,none,h0,rfl⟩ (by
   show 2*(r*c-1)+1<100000
   omega)
 obtain⟨f,w⟩:=s;have N:w=[]:=m;subst N;have hlen:f.length<=r*c:=hd.len
 have ok:zps f=true:=by
  unfold zps;rw[yac,yac,ybs];refine⟨⟨yax (by omega),fun x b=>?_⟩,yax hd.nd⟩;have:=(hd.ir x b).2;apply yax;omega
 have pm:=zdC f;refine⟨zfy f,fun x b=>hd.ir x (pm.mem_iff.mp b),fun z=>hd.ne ?_,by rw[pm.length_eq];omega,fun S=>?_⟩
 ·rw[z]at pm;exact pm.nil_eq.symm
 ·have P:zaw [flr r c g,pD p] S=.ok .non S:=by
   obtain⟨i,j,hi,O,e,_,_⟩:=zoh U;rw[e];exact zeA h1 hi O
  have Q:=zrD (S:=S) (i:=1) (ρ:=[~~~flr r c g,~~~pD p,none,none,none,none]) (p:=p) rfl;have T:zdO (zag gtD (zay zdB [(zah 3)]) (zaf (.int 0))) zfM 100000 [~~~flr r c g,~~~pD p,some (true,zfL [p]),some (true,.lst [pD p]),none,none] S=.nx [~~~flr r c g,~~~pD p,some (true,zfL f),some (true,.lst []),h,n] S:=e S;have E:=zsJ (S:=S) (i:=2) (o:=false) (ps:=f) (ρ:=[~~~flr r c g,~~~pD p,~~~zfL f,some (true,.lst []),h,n]) rfl ok;generalize (zfy f).map pD=A,zfL f=X,zfL [p]=Y,pD p=pp,flr r c g=F at*;simp[zh6,zaj,zj3,P,Q,zjv,T,E]
def zgN(h1:1<=r)(h:¬ inF r c x):zaw [flr r c g,pD x] S=.exc "NoPlace" S:=by
 have a:=zpy (g:=g) (c:=c) (x:=x) (S:=S) h1;rw[yaE h]at a;generalize flr r c g=b,pD x=pp at*;simp[zaw,zaj,zbF,a]
def znW{T N:D}(h1:1<=r)(h:¬ inF r c x):zbE [T,flr r c g,pD x,N] S=.exc "NoPlace" S:=by
 have a:=zgN (g:=g) (S:=S) h1 h;generalize flr r c g=b,pD x=pp at*;simp[zbE,zaj,ze7,zh6,zj3,a,zjS,zwq]
def zk7{ts:Z2}{o:Option Int}(ho:∀x,o=some x->0<=x/\x<ts.length)(h1:1<=r)(J:r<=100)(U:c<=100)(I:inF r c x):zat [.tup (ts.map zab),flr r c g,pD x,oD o] S=.ok (flr r c (zf3 g x.1.toNat x.2.toNat o)) S:=by
 obtain⟨i,j,hi,a,e,d,b⟩:=zoh I;rw[e,d,b];exact zdv ho h1 hi a J U
def zk8{ts:Z2}{o:Option Int}{s1 s2:Option (Bool×D)}(ho:∀x,o=some x->0<=x/\x<ts.length)(h1:1<=r)(J:r<=100)(U:c<=100):∀(A:List ST.IP),(∀q∈A,inF r c q)->∀(g:Z1) (x:Option (Bool×D)),InT ts g->∃I g',InT ts g'/\∀S,zel (.one 5) zbN (A.map pD) [~~~.tup (ts.map zab),s1,s2,~~~oD o,~~~flr r c g,x] S=.nx [~~~.tup (ts.map zab),s1,s2,~~~oD o,~~~flr r c g',I] S:=by
 intro A
 induction A with
 |nil=>intro _ g x d;exact⟨x,g,d,fun S=>by simp[zel]⟩
 |cons q A h=>
  intro f g x d;obtain⟨I,g',b,e⟩:=h (fun y i=>f y (.tail _ i)) (zf3 g q.1.toNat q.2.toNat o) (~~~pD q) (zjB d ho);refine⟨I,g',b,fun S=>?_⟩;have j:=zk7 (g:=g) (S:=S) ho h1 J U (f q (.head _))
  have k:zbN [~~~.tup (ts.map zab),s1,s2,~~~oD o,~~~flr r c g,~~~pD q] S=.nx [~~~.tup (ts.map zab),s1,s2,~~~oD o,~~~flr r c (zf3 g q.1.toNat q.2.toNat o),~~~pD q] S:=by
   generalize flr r c (zf3 g q.1.toNat q.2.toNat o)=F2,flr r c g=F,ts.map zab=l,oD o=od,pD q=m at*;simp[zbN,j]
  rw[yau];unfold zel;show(match zbN [~~~.tup (ts.map zab),s1,s2,~~~oD o,~~~flr r c g,~~~pD q] S with|.nx a S'=>zel (.one 5) zbN (A.map pD) a S'|.ct a S'=>zel (.one 5) zbN (A.map pD) a S'|.bk a S'=>.nx a S'|o=>o)=_;rw[k];exact e S
def zkq{ts:Z2}{o:Option Int}(hg:InT ts g)(ho:∀x,o=some x->0<=x/\x<ts.length)(h1:1<=r)(U:r<=100)(J:c<=100)(I:r*c<=60)(hp:inF r c p):∃g',InT ts g'/\∀S,zbE [.tup (ts.map zab),flr r c g,pD p,oD o] S=.ok (flr r c g') S:=by
 obtain⟨L,f,_,d,b⟩:=zjx (g:=g) h1 J I hp;obtain⟨h,g',a,e⟩:=zk8 (s1:= ~~~flr r c g) (s2:= ~~~pD p) ho h1 U J L f g none hg;refine⟨g',a,fun S=>?_⟩;have b:=b S;have e:=e S;rw[<-yad pD]at d;generalize L.map pD=A,flr r c g'=F2,flr r c g=F,ts.map zab=i,oD o=od,pD p=pp at*;simp[zbE,zaj,ze7,b,e,d]
theorem zjm{ts:Z2}{n:Int}(I:(ts.length:Int)<=n)(h1:1<=r)(J:inF r c x):zat [.tup (ts.map zab),flr r c g,pD x,.int n] S=.exc "NoTile" S:=by
 have h:zaw [flr r c g,pD x] S=.ok .non S:=by
  obtain⟨i,j,hi,d,e,_,_⟩:=zoh J;rw[e];exact zeA h1 hi d
 have f:zcD [.tup (ts.map zab),.int n] S=.ok (.bl false) S:=by
  have k:((ts.map zab).length:Int)<=n:=by rw[yad];exact I
  have I:¬ (n<((ts.map zab).length:Int)):=by omega
  have a:0<=n:=by omega
  generalize ts.map zab=b at*;simp[zcD,zaj,zd3,zaG,zcm,zdw,I,a]
 generalize flr r c g=F,ts.map zab=b,pD x=pp at*;simp[zat,zaj,zcH,h,f]
def znX{ts:Z2}{n:Int}(U:(ts.length:Int)<=n)(h1:1<=r)(hc:c<=100)(I:r*c<=60)(J:inF r c p):zbE [.tup (ts.map zab),flr r c g,pD p,.int n] S=.exc "NoTile" S:=by
 obtain⟨L,e,b,d,a⟩:=zjx (g:=g) h1 hc I J
 cases L with
 |nil=>exact absurd rfl b|cons q l=>
  have a:=a S;have f:=zjm (g:=g) (S:=S) (ts:=ts) U h1 (e q (.head _));rw[<-yad pD]at d;rw[yau]at a d;generalize flr r c g=F,ts.map zab=h,pD p=pp,pD q=i,l.map pD=L at*;simp[zbE,zaj,ze7,a,d,zel,zbN,f]
end S2
namespace S2
open PySem
open L2 hiding D
noncomputable def pnt(T x:D)(bf af:List D):Ob:=⟨"Painter",[("tiles",false,T),("now",false,x),("before",true,.tup [.lst bf]),("after",true,.tup [.lst af])]⟩
section
variable{ρ:Env}{S S1:Sto}{T x w d:D}{bf af:List D}{n:Nat}
def zjF:zdZ (pnt T x bf af)=true:=by
 show decide (["tiles","now","before","after"]:List Str).Nodup=true;decide
def zg7(h:S[n]?=some o):(S.set n u)[n]?=some u:=yaw (yaj.mp h).1
def zcw(h:S[n]?=some (pnt T x bf af)):zhr "Painter" "tiles" (.ref n) S=some T:=by unfold zhr;dsimp only;rw[h];rfl
def zdo(h:S[n]?=some (pnt T x bf af)):zhr "Painter" "now" (.ref n) S=some x:=by unfold zhr;dsimp only;rw[h];rfl
def zqI(h:S[n]?=some (pnt T x bf af)):zoi "Painter" "before" ((~~~.ref n)::ρ) S 0=some (n,pnt T x bf af,.lst bf):=by
 show zqT "Painter" "before" (.ref n) S=_;dsimp only[zqT];rw[h];rfl
def zqJ(h:S[n]?=some (pnt T x bf af)):zoi "Painter" "after" ((~~~.ref n)::ρ) S 0=some (n,pnt T x bf af,.lst af):=by
 show zqT "Painter" "after" (.ref n) S=_;dsimp only[zqT];rw[h];rfl
def zbe(h:S[n]?=some (pnt T x bf af))(hm:(m==("tiles":Str))=false/\(m==("now":Str))=false/\(m==("before":Str))=false/\(m==("after":Str))=false):zdq "Painter" m (.ref n) S=true:=by
 unfold zdq;dsimp only;rw[h];obtain⟨h1,h2,a,h4⟩:=hm;simp[pnt,yaz,h1,h2,a,h4]
def zxC(h:S[n]?=some (pnt T x bf af)):znO "Painter" "now" (znN 0) ((~~~.ref n)::ρ) S=some x:=zdo h
def zpn(h:S[n]?=some (pnt T x bf af))(I:bf.length<=100000):zgB "Painter" "before" 0 (znO "Painter" "now" (znN 0)) ((~~~.ref n)::ρ) S=.nx ((~~~.ref n)::ρ) (S.set n (pnt T x (bf++[x]) af)):=by
 unfold zgB;rw[zqI h,zxC h];dsimp only;rw[zjF,zfO,yax I];rfl
def zto(h:S[n]?=some (pnt T x bf af))(I:af.length<=100000):zgB "Painter" "after" 0 (znO "Painter" "now" (znN 0)) ((~~~.ref n)::ρ) S=.nx ((~~~.ref n)::ρ) (S.set n (pnt T x bf (af++[x]))):=by
 unfold zgB;rw[zqJ h,zxC h];dsimp only;rw[zjF,zfO,yax I];rfl
def ztl(h:S[n]?=some (pnt T x (bf++[d]) af)):zhu "Painter" "before" 0 ((~~~.ref n)::ρ) S=.ok d (S.set n (pnt T x bf af)):=by
 unfold zhu;rw[zqI h];dsimp only;rw[zjF,yak,yaH,Nat.add_sub_cancel,List.getElem?_concat_length,yci];rfl
def ztm(h:S[n]?=some (pnt T x bf (af++[d]))):zhu "Painter" "after" 0 ((~~~.ref n)::ρ) S=.ok d (S.set n (pnt T x bf af)):=by
 unfold zhu;rw[zqJ h];dsimp only;rw[zjF,yak,yaH,Nat.add_sub_cancel,List.getElem?_concat_length,yci];rfl
def ztn(h:S[n]?=some (pnt T x bf af)):zhX "Painter" "after" 0 ((~~~.ref n)::ρ) S=.nx ((~~~.ref n)::ρ) (S.set n (pnt T x bf [])):=by
 unfold zhX;dsimp only[ycF];rw[h];rfl
def zlO(h:S[n]?=some (pnt T x bf af)):zih "Painter" "now" ρ w (.ok (.ref n) S)=.nx ρ (S.set n (pnt T w bf af)):=by
 show(match S[n]? with|some ob=>_|none=>_)=_;rw[h];rfl
def zlP(h:S[n]?=some (pnt T x bf af)):zgv "Painter" "before" 0 ((~~~.ref n)::ρ) S=.ok (.int bf.length) S:=by
 unfold zgv;rw[zqI h]
def zlQ(h:S[n]?=some (pnt T x bf af)):zgv "Painter" "after" 0 ((~~~.ref n)::ρ) S=.ok (.int af.length) S:=by
 unfold zgv;rw[zqJ h]
def zjH(h:S[n]?=some (pnt T x bf af)):zbm [.ref n] S=.ok x S:=by
 simp[zbm,zaj,zcQ,zdo h]
def zn4(h:S[n]?=some (pnt T x bf af)):zbS [.ref n] S=.ok (.tup [.int bf.length,.int af.length]) S:=by
 simp[zbS,zaj,zcO,zlQ h,zlP h]
def zkv(h:S[n]?=some (pnt T x bf af))(e:zcE [T,x] S=.ok d S1):zbs [.ref n] S=.ok d S1:=by
 simp[zbs,zaj,zb7,zdo h,zcw h,e]
def ztu(h:S[n]?=some (pnt T x bf af))(e:zdm [T,x] S=.ok d S1):zaE [.ref n] S=.ok d S1:=by
 simp[zaE,zaj,za8,zdo h,zcw h,e]
def chP(T x w:D)(bf af:List D):Ob:=if zeX w x then pnt T x bf af else pnt T w (bf++[x]) []
def zeY(h:S[n]?=some (pnt T x bf af))(I:bf.length<=100000)(f1:w.fit 9=true)(f2:x.fit 9=true):∃S',zaq [.ref n,w] S=.ok .non S'/\S'[n]?=some (chP T x w bf af):=by
 have q:neD w x=some (.bl (!zeX w x)):=by unfold neD;rw[f1,f2];rfl
 unfold chP
 cases a:zeX w x with
 |true=>
  rw[a]at q;exact⟨S,by simp[zaq,zaj,za7,zdo h,q],h⟩
 |false=>
  rw[a]at q;have c:=zpn (ρ:=[~~~w]) h I;have h1:=zg7 (u:=pnt T x (bf++[x]) af) h;generalize S.set n (pnt T x (bf++[x]) af)=S1 at*;have b:=ztn (ρ:=[~~~w]) h1;have h2:=zg7 (u:=pnt T x (bf++[x]) []) h1;generalize S1.set n (pnt T x (bf++[x]) [])=S2 at*;refine⟨_,?_,zg7 (u:=pnt T w (bf++[x]) []) h2⟩;simp only[zaq,zaj,za7];simp[zdo h,q,c,b,zlO h2]
theorem zts(h:S[n]?=some (pnt T x bf af))(I:bf.length<=100000)(f2:x.fit 9=true)(e:zat [T,x,p,m] S=.ok w S1)(h1:S1[n]?=some (pnt T x bf af))(f1:w.fit 9=true):∃S',za4 [.ref n,p,m] S=.ok .non S'/\S'[n]?=some (chP T x w bf af):=by
 obtain⟨S',a,h'⟩:=zeY h1 I f1 f2;refine⟨S',?_,h'⟩;have k:=zbe (m:="change_to") h (by decide +kernel);simp[za4,zaj,zcy,zdo h,zcw h,k,e,a]
def zlY(h:S[n]?=some (pnt T x bf af))(e:zat [T,x,p,m] S=.exc c S1):za4 [.ref n,p,m] S=.exc c S1:=by
 have k:=zbe (m:="change_to") h (by decide +kernel);simp[za4,zaj,zcy,zdo h,zcw h,k,e,zgS]
def zqP(h:S[n]?=some (pnt T x bf af))(I:bf.length<=100000)(f2:x.fit 9=true)(e:zbE [T,x,p,m] S=.ok w S1)(h1:S1[n]?=some (pnt T x bf af))(f1:w.fit 9=true):∃S',zaS [.ref n,p,m] S=.ok .non S'/\S'[n]?=some (chP T x w bf af):=by
 obtain⟨S',a,h'⟩:=zeY h1 I f1 f2;refine⟨S',?_,h'⟩;have k:=zbe (m:="change_to") h (by decide +kernel);simp[zaS,zaj,zcf,zdo h,zcw h,k,e,a]
def zjG(h:S[n]?=some (pnt T x bf af))(e:zbE [T,x,p,m] S=.exc c S1):zaS [.ref n,p,m] S=.exc c S1:=by
 have k:=zbe (m:="change_to") h (by decide +kernel);simp[zaS,zaj,zcf,zdo h,zcw h,k,e,zgS]
def zn6(h:S[n]?=some (pnt T x bf af))(I:bf.length<=100000)(f2:x.fit 9=true)(e:za3 [T,x] S=.ok w S1)(h1:S1[n]?=some (pnt T x bf af))(f1:w.fit 9=true):∃S',zbl [.ref n] S=.ok .non S'/\S'[n]?=some (chP T x w bf af):=by
 obtain⟨S',a,h'⟩:=zeY h1 I f1 f2;refine⟨S',?_,h'⟩;have k:=zbe (m:="change_to") h (by decide +kernel);simp[zbl,zaj,zcP,zdo h,zcw h,k,e,a]
def zlZ(h:S[n]?=some (pnt T x bf af))(I:bf.length<=100000)(f2:x.fit 9=true)(e:zbP [T,x,w] S=.ok (.bl true) S)(f1:w.fit 9=true):∃S',zaD [.ref n,w] S=.ok .non S'/\S'[n]?=some (chP T x w bf af):=by
 obtain⟨S',a,h'⟩:=zeY h I f1 f2;refine⟨S',?_,h'⟩;have k:=zbe (m:="change_to") h (by decide +kernel);simp[zaD,zaj,zbG,zdo h,zcw h,k,e,a]
def zku(h:S[n]?=some (pnt T x bf af))(e:zbP [T,x,w] S=.ok (.bl false) S):zaD [.ref n,w] S=.exc "NoFill" S:=by
 simp[zaD,zaj,zbG,zdo h,zcw h,e]
theorem zlX(h:S[n]?=some (pnt T x (bf++[d]) af))(I:af.length<=100000):∃S',zaH [.ref n] S=.ok .non S'/\S'[n]?=some (pnt T d bf (af++[x])):=by
 have b:=zto (ρ:=[]) h I;have h1:=zg7 (u:=pnt T x (bf++[d]) (af++[x])) h;generalize S.set n (pnt T x (bf++[d]) (af++[x]))=S1 at*;have a:=ztl (ρ:=[]) h1;have h2:=zg7 (u:=pnt T x bf (af++[x])) h1;generalize S1.set n (pnt T x bf (af++[x]))=S2 at*;refine⟨_,?_,zg7 (u:=pnt T d bf (af++[x])) h2⟩
 have k:¬ ((bf.length:Int)+1=0):=by omega
 simp[zaH,zaj,zcd,zlP h,k,b,a,zlO h2]
def zn3(h:S[n]?=some (pnt T x [] af)):zaH [.ref n] S=.exc "Nothing" S:=by
 simp[zaH,zaj,zcd,zlP h]
theorem zqO(h:S[n]?=some (pnt T x bf (af++[d])))(I:bf.length<=100000):∃S',zaR [.ref n] S=.ok .non S'/\S'[n]?=some (pnt T d (bf++[x]) af):=by
 have b:=zpn (ρ:=[]) h I;have h1:=zg7 (u:=pnt T x (bf++[x]) (af++[d])) h;generalize S.set n (pnt T x (bf++[x]) (af++[d]))=S1 at*;have a:=ztm (ρ:=[]) h1;have h2:=zg7 (u:=pnt T x (bf++[x]) af) h1;generalize S1.set n (pnt T x (bf++[x]) af)=S2 at*;refine⟨_,?_,zg7 (u:=pnt T d (bf++[x]) af) h2⟩
 have k:¬ ((af.length:Int)+1=0):=by omega
 simp[zaR,zaj,zce,zlQ h,k,b,a,zlO h2]
def zn5(h:S[n]?=some (pnt T x bf [])):zaR [.ref n] S=.exc "Nothing" S:=by
 simp[zaR,zaj,zce,zlQ h]
def ztt:zbT [.ref 0,T,x] [⟨"Painter",[]⟩]=.ok .non [pnt T x [] []]:=by rfl
end
end S2
namespace S2.L80
open PySem
open L2 hiding D
noncomputable def zxt:List (Str×Str):=[("NoPlace","FloorError"),("NoTile","FloorError"),("NoFill","FloorError"),("Nothing","FloorError")]
def isL:Str->Str->Option Bool:=zvi ["NoPlace","NoTile","NoFill","Nothing"] ["FloorError","NoPlace","NoTile","NoFill","Unlike","Nothing","NoText"]
noncomputable def zgs:Fs:=
  (zad (sFz [] (zaK 1 true (zez [(eUn (znf isL "NoFill") (zah 0)),(eUn (znf isL "NoPlace") (zah 0)),(eUn (znf isL "NoText") (zah 0)),(eUn (znf isL "NoTile") (zah 0))])))
  (zad (sFz [] (zrU 1 (zez [(eUn (znf isL "Nothing") (zah 0)),(eUn (znf isL "Unlike") (zah 0))])))
  (zad (sFz [] (sIf (eOr (zag neD (eMt zg1 1 (zaf (.bl true))) (zaf (.int 1))) (eUn zev (eUn (znf isL "ValueError") (zah 0)))) (zad (sFz [] (zaP (zaf (.str "wrong")))) sNx) sNx))
  (zad (sFz [] (zaP (zag ixD (zez [(zaf (.str "no fill")),(zaf (.str "no place")),(zaf (.str "no text")),(zaf (.str "no tile")),(zaf (.str "nothing")),(zaf (.str "unlike"))]) (eMt zgU 1 (zaf (.bl true))))))
  sNx))))
noncomputable def zeC:List S2.D->Sto->Out S2.D:=za2 2 false zgs
noncomputable def zaO:Fs:=
  (zad (sFz [] (zaK 5 false (zaf .non)))
  (zad (sFz [] (zaK 6 false (zaf .non)))
  (zad (sFz [] (zs4 (zva zxt) "FloorError" 7 5 (zad (sFz [] (sIf (zag ltD (zah 1) (zaf (.int 3))) (zad (sFz [2,3] (zaK 6 false (zaJ "Painter" "put" za4 (zac 0) [(zac 2),(zac 3)]))) sNx) (zad (sFz [] (sIf (zag eqD (zah 1) (zaf (.int 3))) (zad (sFz [2,3] (zaK 6 false (zaJ "Painter" "pour" zaS (zac 0) [(zac 2),(zac 3)]))) sNx) (zad (sFz [] (sIf (zag eqD (zah 1) (zaf (.int 4))) (zad (sFz [] (zaK 6 false (zaJ "Painter" "force" zbl (zac 0) []))) sNx) (zad (sFz [] (sIf (zag eqD (zah 1) (zaf (.int 5))) (zad (sFz [4] (zaK 6 false (zaJ "Painter" "finish" zaD (zac 0) [(zac 4)]))) sNx) (zad (sFz [] (zaK 6 false (eIf (zag ltD (zah 1) (zaf (.int 8))) (zaJ "Painter" "undo" zaH (zac 0) []) (zaJ "Painter" "redo" zaR (zac 0) [])))) sNx))) sNx))) sNx))) sNx))) sNx)))
  (zad (sFz [] (sIf (zag zmx (zah 5) (zaf .non)) (zad (sFz [6] (zaP (zac 6))) sNx) sNx))
  (zad (sFz [5] (zaP (eFn zeC [(zac 5)])))
  sNx)))))
noncomputable def zas:List S2.D->Sto->Out S2.D:=za2 8 false zaO
noncomputable def zjc:Fs:=zad (sFz [1] (sIf (zag neD (zaJ "Painter" "can_be_filled" zaE (zac 5) []) (zag gtD (eFn zaM [(zac 1),(zag ixD (zah 6) (eUn ziW (zaf (.int 1))))]) (zaf (.int 0)))) (zad (sFz [] (zaP (zaf (.bl false)))) sNx) sNx)) sNx
noncomputable def zjd:Fs:=zad (sFz [1] (sIf (eOr (zag neD (zaJ "Painter" "steps" zbS (zac 5) []) (zcU [(zag zlj (zay zdB [(zah 6)]) (zaf (.int 1))),(zay zdB [(zah 7)])])) (zag neD (zaJ "Painter" "clashes" zbs (zac 5) []) (eFn zcE [(zac 1),(zag ixD (zah 6) (eUn ziW (zaf (.int 1))))]))) (zad (sFz [] (zaP (zaf (.bl false)))) sNx) sNx)) zjc
noncomputable def zje:Fs:=zad (sFz [5,10,11,12,13] (sIf (eOr (zag neD (eFn zas [(zac 5),(zac 10),(zac 11),(zac 12),(zac 13)]) (zah 14)) (zag neD (zaJ "Painter" "floor" zbm (zac 5) []) (zag ixD (zah 6) (eUn ziW (zaf (.int 1)))))) (zad (sFz [] (zaP (zaf (.bl false)))) sNx) sNx)) zjd
noncomputable def zbJ:Fs:=sFz [] (sIf (zag ltD (zah 10) (zaf (.int 6))) (zad (sFz [1,10,11,12,13] (zaK 15 false (eFn zav [(zac 1),(zag ixD (zah 6) (eUn ziW (zaf (.int 1)))),(zac 10),(zac 11),(zac 12),(zac 13)]))) (zad (sFz [15] (zaK 14 false (eIf (eUn (zeF "str") (zah 15)) (zac 15) (zaf .non)))) (zad (sFz [] (sIf (zfs (zag zmx (zah 14) (zaf .non)) (zag neD (zah 15) (zag ixD (zah 6) (eUn ziW (zaf (.int 1)))))) (zad (sFz [15] (zhJ 6 (zac 15))) (zad (sFz [] (zaK 7 true (zez []))) sNx)) sNx)) sNx))) (zad (sFz [] (sIf (zfs (zag ltD (zah 10) (zaf (.int 8))) (zag gtD (zay zdB [(zah 6)]) (zaf (.int 1)))) (zad (sFz [] (ziK 7 6)) sNx) (zad (sFz [] (sIf (zfs (zag geD (zah 10) (zaf (.int 8))) (zag neD (zah 7) (zez []))) (zad (sFz [] (ziK 6 7)) sNx) (zad (sFz [] (zaK 14 false (zaf (.str "nothing")))) sNx))) sNx))) sNx))
noncomputable def zm7:Fs:=zad zbJ zje
noncomputable def zhC:Fs:=
  (zad (sFz [] (zaK 9 false (zag zb1 (zaf (.int 200)) (zag zhk (zaf (.int 10)) (zah 8))))) (zad (sFz [0,9] (zaK 10 false (eFn zau [(zac 0),(zac 9),(zaf (.int 10))]))) (zad (sFz [0,0,3] (zaK 11 false (zcU [(eFn zau [(zac 0),(zag zb1 (zah 9) (zaf (.int 1))),(zag zb1 (zah 2) (zaf (.int 1)))]),(eFn zau [(zac 0),(zag zb1 (zah 9) (zaf (.int 2))),(zac 3)])]))) (zad (sFz [0] (zaK 12 false (zag ixD (zez [(zaf .non),(zaf (.int 0)),(zag zlj (zay zdB [(zah 1)]) (zaf (.int 1))),(zay zdB [(zah 1)]),(zaf (.int 0))]) (eFn zau [(zac 0),(zag zb1 (zah 9) (zaf (.int 3))),(zaf (.int 5))])))) (zad (sFz [1,0] (zaK 13 false (eFn zck [(zac 1),(zag ixD (zah 6) (eUn ziW (zaf (.int 1)))),(zag ixD (zah 6) (zaf (.int 0))),(eFn zau [(zac 0),(zag zb1 (zah 9) (zaf (.int 4))),(zag ztk (zaf (.int 10)) (zaf (.int 6)))])]))) (zad (sFz [] (zaK 14 false (zaf .non))) zm7))))))
noncomputable def zhB:Fs:=
  (zad (sFz [] (zlu (zaJ "Painter" "undo" zaH (zac 5) []))) sNx)
noncomputable def zk9:Fs:=zad (sFz [] (zaP (zag eqD (zaJ "Painter" "floor" zbm (zac 5) []) (zag ixD (zah 6) (zaf (.int 0)))))) sNx
noncomputable def zla:Fs:=zad (sFz [] (zfT (.one 16) (zeL (zag zlj (zay zdB [(zah 6)]) (zaf (.int 1)))) zhB)) zk9
noncomputable def zlb:Fs:=zad (sFz [0] (zfT (.one 8) (zeL (eFn zau [(zac 0),(zaf (.int 91)),(zaf (.int 11))])) zhC)) zla
noncomputable def zlc:Fs:=zad (sFz [4] (zs5 6 7 true (zez [(zac 4)]) true (zez []))) zlb
noncomputable def ziI:Fs:=zad (sFz [1,4] (zaK 5 false (eMk "Painter" [] zbT [(zac 1),(zac 4)]))) zlc
noncomputable def zld:Fs:=zad (sFz [0,1,2,3] (zaK 4 false (eFn zc1 [(zac 0),(zaf (.int 100)),(zac 1),(zac 2),(zac 3),(zaf (.int 5))]))) ziI
noncomputable def zle:Fs:=zad (sFz [0] (zkp (.tup [2,3]) (eFn zc0 [(zac 0),(zaf (.int 90))]))) zld
noncomputable def zlf:Fs:=zad (sFz [0] (zaK 1 false (eFn zcZ [(zac 0),(zaf (.int 0)),(zaf (.int 3))]))) zle
noncomputable def zrA:Fs:=
  zlf
noncomputable def zs9:List S2.D->Sto->Out S2.D:=za2 17 false zrA
def zqv:(zf1 c f).pl=true:=by
 show D.pls (zeB c f)=true;rw[D.pls_iff];intro d hd;obtain⟨j,_,rfl⟩:=yar.mp hd
 cases f j<;>rfl
def zmN:(flr r c g).pl=true:=by
 show D.pls (zdc r c g)=true;rw[D.pls_iff];intro d hd;obtain⟨i,_,rfl⟩:=yar.mp hd;exact zqv
def znI:(zf1 c f).fit (n+1)=true:=by
 show D.fits n (zeB c f)=true;rw[D.fits_iff];intro d hd;obtain⟨j,_,rfl⟩:=yar.mp hd
 cases f j<;>simp[oD]
def zem:(flr r c g).fit (n+2)=true:=by
 show D.fits (n+1) (zdc r c g)=true;rw[D.fits_iff];intro d hd;obtain⟨i,_,rfl⟩:=yar.mp hd;exact znI
theorem ztp:D.pls (clL ts r c g)=true/\D.fits 8 (clL ts r c g)=true:=by
 have:∀d∈clL ts r c g,∃i j:Nat,d=clD (plD i j) "east" \/ d=clD (plD i j) "south":=by
  intro d hd;obtain⟨e,he,hd⟩:=ybB.mp hd;obtain⟨i,j,_,_,rfl⟩:=zbx he;simp only[clG,ya8]at hd;refine⟨i,j,?_⟩
  rcases hd with hd|hd
  ·split at hd
   ·exact .inl (yaB.mp hd)
   ·cases hd
  ·split at hd
   ·exact .inr (yaB.mp hd)
   ·cases hd
 have s1:PyData.strOk "east"=true:=by decide +kernel
 have s2:PyData.strOk "south"=true:=by decide +kernel
 refine⟨D.pls_iff.mpr fun d hd=>?_,D.fits_iff.mpr fun d hd=>?_⟩
 ·obtain⟨i,j,rfl|rfl⟩:=this d hd<;>rfl
 ·obtain⟨i,j,rfl|rfl⟩:=this d hd<;>simp[clD,D.fit,s1,s2]
theorem ans:PyData.strOk "no fill"=true/\PyData.strOk "no place"=true/\PyData.strOk "no tile"=true/\PyData.strOk "nothing"=true:=by decide +kernel
inductive Wd2:Str->Str->Prop
 |pl:Wd2 "NoPlace" "no place"
 |tl:Wd2 "NoTile" "no tile"
 |fl:Wd2 "NoFill" "no fill"
 |no:Wd2 "Nothing" "nothing"
def Wd2.ne(h:Wd2 c w):neD (.str w) (.str w)=some (.bl false):=by
 refine zhj rfl ?_;show PyData.strOk w=true;cases h
 ·exact ans.2.1
 ·exact ans.2.2.1
 ·exact ans.1
 ·exact ans.2.2.2
def Wd2.und(h:Wd2 c w):zva zxt c "FloorError"=true:=by
 cases h<;>decide
def Wd2.word(h:Wd2 c w):zeC [.exc c] S=.ok (.str w) S:=by
 cases h<;>rfl
inductive Told:Out D->Out D->Prop
 |ok {S:Sto}:Told (.ok .non S) (.ok .non S)
 |no {S:Sto}{c v:Str}:Wd2 c v->Told (.exc c S) (.ok (.str v) S)
section
variable{S S1:Sto}{T x p m w:D}{bf af:List D}{c v:Str}{q:Int}
theorem zmV(h:S[0]?=some (pnt T x bf af))(I:q<3)(e:za4 [.ref 0,p,m] S=o)(t:Told o u):zas [.ref 0,.int q,p,m,w] S=u:=by
 have k:=zbe (m:="put") h (by decide +kernel)
 cases t with
 |ok=>simp[zas,zaj,zaO,I,k,e]|no hw=>simp[zas,zaj,zaO,I,k,e,hw.und,hw.word]
theorem zi7(h:S[0]?=some (pnt T x bf af))(e:zaS [.ref 0,p,m] S=o)(t:Told o u):zas [.ref 0,.int 3,p,m,w] S=u:=by
 have k:=zbe (m:="pour") h (by decide +kernel)
 cases t with
 |ok=>simp[zas,zaj,zaO,k,e]|no hw=>simp[zas,zaj,zaO,k,e,hw.und,hw.word]
theorem zoV(h:S[0]?=some (pnt T x bf af))(e:zbl [.ref 0] S=o)(t:Told o u):zas [.ref 0,.int 4,p,m,w] S=u:=by
 have k:=zbe (m:="force") h (by decide +kernel)
 cases t with
 |ok=>simp[zas,zaj,zaO,k,e]|no hw=>simp[zas,zaj,zaO,k,e,hw.und,hw.word]
theorem zir(h:S[0]?=some (pnt T x bf af))(e:zaD [.ref 0,w] S=o)(t:Told o u):zas [.ref 0,.int 5,p,m,w] S=u:=by
 have k:=zbe (m:="finish") h (by decide +kernel)
 cases t with
 |ok=>simp[zas,zaj,zaO,k,e]|no hw=>simp[zas,zaj,zaO,k,e,hw.und,hw.word]
theorem zmT(h:S[0]?=some (pnt T x bf af))(J:6<=q)(I:q<8)(e:zaH [.ref 0] S=o)(t:Told o u):zas [.ref 0,.int q,p,m,w] S=u:=by
 have k:=zbe (m:="undo") h (by decide +kernel)
 have a1:¬ q<3:=by omega
 have a2:¬ q=3:=by omega
 have b:¬ q=4:=by omega
 have a:¬ q=5:=by omega
 cases t with
 |ok=>simp[zas,zaj,zaO,a1,a2,b,a,I,k,e]|no hw=>simp[zas,zaj,zaO,a1,a2,b,a,I,k,e,hw.und,hw.word]
theorem zmU(h:S[0]?=some (pnt T x bf af))(I:8<=q)(e:zaR [.ref 0] S=o)(t:Told o u):zas [.ref 0,.int q,p,m,w] S=u:=by
 have k:=zbe (m:="redo") h (by decide +kernel)
 have a1:¬ q<3:=by omega
 have a2:¬ q=3:=by omega
 have c:¬ q=4:=by omega
 have b:¬ q=5:=by omega
 have a:¬ q<8:=by omega
 cases t with
 |ok=>simp[zas,zaj,zaO,a1,a2,c,b,a,k,e]|no hw=>simp[zas,zaj,zaO,a1,a2,c,b,a,k,e,hw.und,hw.word]
end
section
variable{ts:Z2}{r c:Nat}{g h:Z1}{S S1:Sto}{i j q:Int}{o:Option Int}{x:D}
theorem zee:zkZ (.tup [.int i,.int j]) (.lst (zcn r c))=some (.bl (!decide ((0<=i/\i<r)/\0<=j/\j<c))):=by
 have h:D.pls (zcn r c)=true:=D.pls_iff.mpr fun d hd=>by obtain⟨_,_,_,_,rfl⟩:=zbx hd;rfl
 have f1:D.fits 8 (zcn r c)=true:=D.fits_iff.mpr fun d hd=>by obtain⟨_,_,_,_,rfl⟩:=zbx hd;rfl
 have m:=zmk (d:=.tup [.int i,.int j]) (l:=zcn r c) rfl h
 have k:D.tup [.int i,.int j]∈zcn r c↔((0<=i/\i<r)/\0<=j/\j<c):=by
  constructor
  ·intro z;obtain⟨a,b,p,o,e⟩:=zbx z;unfold plD at e
   injection e with e
   injection e with g f
   injection g with g
   injection f with f
   injection f with f
   omega
  ·rintro⟨⟨h1,h2⟩,n,h4⟩;obtain⟨a,rfl⟩:=ybp h1;obtain⟨b,rfl⟩:=ybp n;exact zlR (by omega) (by omega)
 unfold zkZ;simp only[zgA];rw[f1]
 have:zif (.tup [.int i,.int j]) (zcn r c)=decide ((0<=i/\i<r)/\0<=j/\j<c):=by rw[ybH,m,k,ycJ]
 rw[this];rfl
def zou(h1:1<=r)(I:r<=100)(hc:c<=100)(J:q<4)(U:¬ ((0<=i/\i<r)/\0<=j/\j<c)):zav [.tup (ts.map zab),flr r c g,.int q,.tup [.int i,.int j],oD o,x] S=.ok (.str "no place") S:=by
 have b:=zbd (g:=g) (S:=S) (c:=c) h1 I hc;have a:=zee (r:=r) (c:=c) (i:=i) (j:=j);rw[yaE U]at a;generalize zcn r c=L,flr r c g=F,ts.map zab=d at*;simp[zav,zaj,zbM,J,b,a]
def zq4(h1:1<=r)(I:r<=100)(hc:c<=100)(J:q<4)(U:(0<=i/\i<r)/\0<=j/\j<c)(ho:o=some (ts.length:Int)):zav [.tup (ts.map zab),flr r c g,.int q,.tup [.int i,.int j],oD o,x] S=.ok (.str "no tile") S:=by
 have d:=zbd (g:=g) (S:=S) (c:=c) h1 I hc;have a:=zee (r:=r) (c:=c) (i:=i) (j:=j);rw[yax U]at a;subst ho
 have b:eqD (oD (some (ts.length:Int))) (.int ((ts.map zab).length:Nat))=some (.bl true):=by
  show eqD (.int _) (.int _)=_;rw[zvx,yad,yax rfl]
 generalize oD (some (ts.length:Int))=od,zcn r c=L,flr r c g=F,ts.map zab=e at*;simp[zav,zaj,zbM,J,d,a,b]
theorem zq3(h1:1<=r)(I:r<=100)(hc:c<=100)(J:q<3)(U:(0<=i/\i<r)/\0<=j/\j<c)(ho:o≠some (ts.length:Int))(e:zat [.tup (ts.map zab),flr r c g,.tup [.int i,.int j],oD o] S=.ok d S):zav [.tup (ts.map zab),flr r c g,.int q,.tup [.int i,.int j],oD o,x] S=.ok d S:=by
 have f:=zbd (g:=g) (S:=S) (c:=c) h1 I hc;have a:=zee (r:=r) (c:=c) (i:=i) (j:=j);rw[yax U]at a
 have b:eqD (oD o) (.int ((ts.map zab).length:Nat))=some (.bl false):=by
  rw[yad];show eqD (oD o) (oD (some _))=_;rw[zrC,yaE ho]
 have h4:q<4:=by omega
 generalize oD o=od,zcn r c=L,flr r c g=F,ts.map zab=h at*;simp[zav,zaj,zbM,J,h4,f,a,b,e]
def zq5(h1:1<=r)(I:r<=100)(U:c<=100)(J:(0<=i/\i<r)/\0<=j/\j<c)(ho:o≠some (ts.length:Int))(e:zbE [.tup (ts.map zab),flr r c g,.tup [.int i,.int j],oD o] S=.ok d S):zav [.tup (ts.map zab),flr r c g,.int 3,.tup [.int i,.int j],oD o,x] S=.ok d S:=by
 have f:=zbd (g:=g) (S:=S) (c:=c) h1 I U;have a:=zee (r:=r) (c:=c) (i:=i) (j:=j);rw[yax J]at a
 have b:eqD (oD o) (.int ((ts.map zab).length:Nat))=some (.bl false):=by
  rw[yad];show eqD (oD o) (oD (some _))=_;rw[zrC,yaE ho]
 generalize oD o=od,zcn r c=L,flr r c g=F,ts.map zab=h at*;simp[zav,zaj,zbM,f,a,b,e]
def zov(e:za3 [T,F] S=.ok d S1):zav [T,F,.int 4,p,m,x] S=.ok d S1:=by
 simp[zav,zaj,zbM,e]
def zmn(e:zbP [T,F,x] S=.ok (.bl b) S):zav [T,F,.int 5,p,m,x] S=.ok (if b then x else .str "no fill") S:=by
 cases b<;>simp[zav,zaj,zbM,e]
theorem zlv(P:FP ts r c)(h0:InT ts I)(J:0<=q):∃h,InT ts h/\∀S,zck [.tup (ts.map zab),flr r c g,flr r c I,.int q] S=.ok (flr r c h) S:=by
 have r6:=P.r6;have c6:=P.c6;have rc:=P.rc
 by_cases f:zbW ts r c g=[]
 ·refine⟨I,h0,fun S=>?_⟩;have d:=zgK (g:=g) P S;have a:=zfA (F:=zbW ts r c g);rw[f]at d a;generalize flr r c g=F,flr r c I=F0,ts.map zab=o at*;simp only[zck,zaj,zc4];simp at a;simp[d,a]
 ·have v:0<(zbW ts r c g).length:=yde.mpr f;have k:0<=q % ((zbW ts r c g).length:Int):=ydc _ (by omega);have s:q % ((zbW ts r c g).length:Int)<(zbW ts r c g).length:=ycI _ (by omega);obtain⟨t,ht⟩:∃t,(zbW ts r c g)[(q % ((zbW ts r c g).length:Int)).toNat]?=some t:=⟨_,yab (by omega)⟩;have b:=ybj ht;obtain⟨e,l⟩:=(zgo _).mem t b;refine⟨fun i j=>some (t.getD (i*c+j) 0),fun i j x p=>by cases p;exact zmI P.h1 l,fun S=>?_⟩;have d:=zgK (g:=g) P S;have a:=zfA (F:=zbW ts r c g);have A:=zh3 (t:=t) (r:=r) (c:=c) (S:=S) e P.c1 (by omega) (by omega) (by omega)
  have he:(zbW ts r c g).isEmpty=false:=by cases hf:zbW ts r c g with|nil=>exact absurd hf f|cons _ _=>rfl
  rw[he]at a;have z:(zdc r c g)[0]?=some (.tup (zeB c (g 0))):=zc3 (by have:=P.r1;omega)
  have e5:(zeB c (g 0)).length=c:=by simp[zeB]
  have y:atI ((zbW ts r c g).map zab) (q % ((zbW ts r c g).length:Int))=some (zab t):=by rw[zdN k,yao,ht];rfl
  have w:((zbW ts r c g).map zab).length=(zbW ts r c g).length:=yad ..
  have u:(0:Int)<((zbW ts r c g).length:Int):=by omega
  unfold flr at*;generalize (zbW ts r c g).map zab=C,(zbW ts r c g).length=n,zdc r c g=F,zdc r c (fun i j=>some (t.getD (i*c+j) 0))=B,zdc r c I=F0,zeB c (g 0)=R,zab t=m,ts.map zab=o at*;simp only[zck,zaj,zc4];simp[d,a,A,z,e5,y,w,v]
end
set_option genInjectivity true in
inductive Rs
 |no (c v:Str)
 |to (f:D)
noncomputable def Rs.val:Rs->D|.no _ v=>.str v|.to f=>f
noncomputable def Rs.ans:Rs->D|.no _ v=>.str v|.to _=>.non
noncomputable def Rs.ob(T x:D)(bf af:List D):Rs->Ob|.no _ _=>pnt T x bf af|.to f=>chP T x f bf af
noncomputable def Fl(ts:Z2)(r c:Nat)(d:D):Prop:=∃g,InT ts g/\d=flr r c g
noncomputable def Rs.ok(ts:Z2)(r c:Nat):Rs->Prop|.no e v=>Wd2 e v|.to f=>Fl ts r c f
structure DeedOk(ts:Z2)(r c:Nat)(F:D)(q:Int)(p m x:D)(R:Rs):Prop where
 ok:R.ok ts r c
 nw:∀S,∃S',Lg S S'/\zav [.tup (ts.map zab),F,.int q,p,m,x] S=.ok R.val S'
 dd:∀S bf af,S[0]?=some (pnt (.tup (ts.map zab)) F bf af)->bf.length<=100000->∃S',zas [.ref 0,.int q,p,m,x] S=.ok R.ans S'/\S'[0]?=some (R.ob (.tup (ts.map zab)) F bf af)
section
variable{ts:Z2}{r c:Nat}{g h:Z1}{S:Sto}{i j q:Int}{o:Option Int}{T N:D}
def znn(h1:1<=r)(h:¬ inF r c (i,j)):zat [T,flr r c g,pD (i,j),N] S=.exc "NoPlace" S:=by
 have a:=zgN (g:=g) (S:=S) h1 h;generalize flr r c g=b,pD (i,j)=pp at*;simp[zat,zaj,zcH,a]
theorem zAe(P:FP ts r c)(I:InT ts g)(J:InT ts h)(U:0<=q)(hq:q<6)(ho:∀x,o=some x->0<=x/\x<=ts.length):∃R,DeedOk ts r c (flr r c g) q (.tup [.int i,.int j]) (oD o) (flr r c h) R:=by
 have r6:=P.r6;have c6:=P.c6;have rc:=P.rc;have fx:∀{k:Z1},(flr r c k).fit 9=true:=fun {k}=>zem
 by_cases h4:q<4
 ·by_cases b:inF r c (i,j)
  ·by_cases ht:o=some (ts.length:Int)
   ·refine⟨.no "NoTile" "no tile",.tl,fun S=>⟨S,.refl,zq4 P.r1 (by omega) (by omega) h4 b ht⟩,fun S bf af a _=>⟨S,?_,a⟩⟩;subst ht
    by_cases s:q<3
    ·exact zmV a s (zlY a (zjm (x:=(i,j)) (ycP _) P.r1 b)) (.no .tl)
    ·obtain rfl:q=3:=by omega
     exact zi7 a (zjG a (znX (p:=(i,j)) (ycP _) P.r1 (by omega) (by omega) b)) (.no .tl)
   ·have d:∀x,o=some x->0<=x/\x<ts.length:=fun x u=>by
     have:=ho x u;refine⟨this.1,?_⟩
     rcases Int.lt_or_eq_of_le this.2 with z|z
     ·exact z
     ·rw[u,z]at ht;exact absurd rfl ht
    by_cases s:q<3
    ·have e:=fun S=>zk7 (x:=(i,j)) (g:=g) (S:=S) d P.r1 (show r<=100 by omega) (show c<=100 by omega) b
     refine⟨.to _,⟨_,zjB I d,rfl⟩,fun S=>⟨S,.refl,zq3 P.r1 (by omega) (by omega) s b ht (e S)⟩,fun S bf af a f=>?_⟩;obtain⟨S',n,m⟩:=zts a f fx (e S) a fx;exact⟨S',zmV a s n .ok,m⟩
    ·obtain rfl:q=3:=by omega
     obtain⟨g',t,e⟩:=zkq (p:=(i,j)) I d P.r1 (show r<=100 by omega) (show c<=100 by omega) (by omega) b;refine⟨.to (flr r c g'),⟨_,t,rfl⟩,fun S=>⟨S,.refl,zq5 P.r1 (by omega) (by omega) b ht (e S)⟩,fun S bf af a f=>?_⟩;obtain⟨S',n,m⟩:=zqP a f fx (e S) a fx;exact⟨S',zi7 a n .ok,m⟩
  ·refine⟨.no "NoPlace" "no place",.pl,fun S=>⟨S,.refl,zou P.r1 (by omega) (by omega) h4 b⟩,fun S bf af a _=>⟨S,?_,a⟩⟩
   by_cases s:q<3
   ·exact zmV a s (zlY a (znn P.r1 b)) (.no .pl)
   ·obtain rfl:q=3:=by omega
    exact zi7 a (zjG a (znW (x:=(i,j)) P.r1 b)) (.no .pl)
 ·by_cases w:q=4
  ·subst w;refine⟨.to (flr r c (wfG ts r c g)),⟨_,zvp P I,rfl⟩,fun S=>?_,fun S bf af a f=>?_⟩
   ·obtain⟨S',l,e⟩:=zdU P I S;exact⟨S',l,zov e⟩
   ·obtain⟨S1,l,e⟩:=zdU P I S;obtain⟨S',n,m⟩:=zn6 a f fx e (l.at a) fx;exact⟨S',zoV a n .ok,m⟩
  ·obtain rfl:q=5:=by omega
   have e:=fun S=>ziN (g:=g) P J S
   cases v:zwu ts r c g h with
   |true=>
    rw[v]at e;refine⟨.to (flr r c h),⟨h,J,rfl⟩,fun S=>⟨S,.refl,zmn (e S)⟩,fun S bf af a f=>?_⟩;obtain⟨S',n,m⟩:=zlZ a f fx (e S) fx;exact⟨S',zir a n .ok,m⟩
   |false=>
    rw[v]at e;exact⟨.no "NoFill" "no fill",.fl,fun S=>⟨S,.refl,zmn (e S)⟩,fun S bf af a _=>⟨S,zir a (zku a (e S)) (.no .fl),a⟩⟩
end
noncomputable abbrev Sl:=Option (Bool×D)
noncomputable def env(a:List Sl)(pa go:List D)(b:List Sl):Env:=a++[~~~.ref 0,some (true,.lst pa),some (true,.lst go)]++b
section
variable{ts:Z2}{r c:Nat}{g:Z1}{S:Sto}{x y:D}{bf af:List D}{q:Int}{s0 s2 s3 s4 s8 s9 s15 s16:Sl}{p m w due:D}
theorem zeO:atI (bf++[x]) (-1)=some x:=by
 unfold atI ixN
 have h:(-1+((bf.length:Int)+1)).toNat=bf.length:=by omega
 have h2:1<=(bf.length:Int)+1:=by omega
 simp[h,h2]
def zeP(h:a ρ S=.nx I S1)(k:b I S1=o):zad a b ρ S=o:=by
 rw[zpd,h];exact k
noncomputable def e5(s0 s2 s3 s4:Sl)(T:D):List Sl:=[s0,~~~T,s2,s3,s4]
noncomputable def e9(s8 s9 s15 s16:Sl)(q:Int)(p m w due:D):List Sl:=[s8,s9,~~~.int q,~~~p,~~~m,~~~w,~~~due,s15,s16]
theorem t9(P:FP ts r c)(I:InT ts g)(h:S[0]?=some (pnt (.tup (ts.map zab)) (flr r c g) bf af)):∃S',zjc (env (e5 s0 s2 s3 s4 (.tup (ts.map zab))) (bf++[flr r c g]) af (e9 s8 s9 s15 s16 q p m w due)) S=.nx (env (e5 s0 s2 s3 s4 (.tup (ts.map zab))) (bf++[flr r c g]) af (e9 s8 s9 s15 s16 q p m w due)) S'/\S'[0]?=some (pnt (.tup (ts.map zab)) (flr r c g) bf af):=by
 obtain⟨S1,d,i⟩:=znC P I S;obtain⟨S2,b,f⟩:=zeS P I S1;refine⟨S2,?_,b.at (d.at h)⟩;have k:=zbe (m:="can_be_filled") h (by decide +kernel)
 have a:neD (.bl (zrt ts r c g)) (.bl (decide ((0:Int)<nW ts r c g)))=some (.bl false):=by
  show neD (.bl (zrt ts r c g)) (.bl (zrt ts r c g))=_
  cases zrt ts r c g<;>rfl
 have e:=ztu h i;have al:=zeO (x:=flr r c g) (bf:=bf);generalize flr r c g=F,ts.map zab=j,nW ts r c g=nn,zrt ts r c g=l at*;simp only[env,e5,e9,zjc];simp at a;simp[k,e,f,al,a]
theorem t8(P:FP ts r c)(I:InT ts g)(h:S[0]?=some (pnt (.tup (ts.map zab)) (flr r c g) bf af)):∃S',zjd (env (e5 s0 s2 s3 s4 (.tup (ts.map zab))) (bf++[flr r c g]) af (e9 s8 s9 s15 s16 q p m w due)) S=.nx (env (e5 s0 s2 s3 s4 (.tup (ts.map zab))) (bf++[flr r c g]) af (e9 s8 s9 s15 s16 q p m w due)) S'/\S'[0]?=some (pnt (.tup (ts.map zab)) (flr r c g) bf af):=by
 obtain⟨S',e,h'⟩:=t9 (q:=q) (p:=p) (m:=m) (w:=w) (due:=due) (s0:=s0) (s2:=s2) (s3:=s3) (s4:=s4) (s8:=s8) (s9:=s9) (s15:=s15) (s16:=s16) P I h;refine⟨S',?_,h'⟩;have k1:=zbe (m:="steps") h (by decide +kernel);have k2:=zbe (m:="clashes") h (by decide +kernel);have r6:=P.r6;have c6:=P.c6;have a:=zfZ (g:=g) (S:=S) (c:=c) P.ht I P.r1 (show r<=100 by omega) (by omega);have i:=zkv h a;have f:=zn4 h;have d:neD (.tup [.int bf.length,.int af.length]) (.tup [.int bf.length,.int af.length])=some (.bl false):=zhj rfl rfl;have b:neD (.lst (clL ts r c g)) (.lst (clL ts r c g))=some (.bl false):=zhj ztp.1 (by rw[zmP];exact ztp.2);have al:=zeO (x:=flr r c g) (bf:=bf);generalize clL ts r c g=L,flr r c g=F,ts.map zab=j at*;unfold zjd;refine zeP ?_ e;simp only[env,e5,e9];simp[k1,k2,i,f,d,b,al,a]
theorem t7(P:FP ts r c)(J:InT ts g)(hd:zas [.ref 0,.int q,p,m,w] S=.ok due S1)(I:neD due due=some (.bl false))(h:S1[0]?=some (pnt (.tup (ts.map zab)) (flr r c g) bf af)):∃S',zje (env (e5 s0 s2 s3 s4 (.tup (ts.map zab))) (bf++[flr r c g]) af (e9 s8 s9 s15 s16 q p m w due)) S=.nx (env (e5 s0 s2 s3 s4 (.tup (ts.map zab))) (bf++[flr r c g]) af (e9 s8 s9 s15 s16 q p m w due)) S'/\S'[0]?=some (pnt (.tup (ts.map zab)) (flr r c g) bf af):=by
 obtain⟨S',e,h'⟩:=t8 (q:=q) (p:=p) (m:=m) (w:=w) (due:=due) (s0:=s0) (s2:=s2) (s3:=s3) (s4:=s4) (s8:=s8) (s9:=s9) (s15:=s15) (s16:=s16) P J h;refine⟨S',?_,h'⟩;have k1:=zbe (m:="floor") h (by decide +kernel);have b:=zjH h;have a:neD (flr r c g) (flr r c g)=some (.bl false):=zhj zmN zem;have al:=zeO (x:=flr r c g) (bf:=bf);generalize flr r c g=F,ts.map zab=d at*;unfold zje;refine zeP ?_ e;simp only[env,e5,e9];simp[hd,I,k1,b,a,al]
end
section
variable{S S1:Sto}{T x d:D}{pa pb go:List D}{q:Int}{s0 s2 s3 s4 s8 s9 s15 s16:Sl}{p m w:D}{l:List D}{v:Str}
def g5a(I:q<6)(al:atI pa (-1)=some x)(e:zav [T,x,.int q,p,m,w] S=.ok (.str v) S1):zbJ (env (e5 s0 s2 s3 s4 T) pa go (e9 s8 s9 s15 s16 q p m w .non)) S=.nx (env (e5 s0 s2 s3 s4 T) pa go (e9 s8 s9 (~~~.str v) s16 q p m w (.str v))) S1:=by
 simp only[env,e5,e9,zbJ];simp[I,al,e,zeF,zdD]
def g5b(I:q<6)(al:atI pa (-1)=some x)(e:zav [T,x,.int q,p,m,w] S=.ok (.tup l) S1)(J:neD (.tup l) x=some (.bl false)):zbJ (env (e5 s0 s2 s3 s4 T) pa go (e9 s8 s9 s15 s16 q p m w .non)) S=.nx (env (e5 s0 s2 s3 s4 T) pa go (e9 s8 s9 (~~~.tup l) s16 q p m w .non)) S1:=by
 simp only[env,e5,e9,zbJ];simp[I,al,e,zeF,zdD,J]
def g5c(I:q<6)(al:atI pa (-1)=some x)(e:zav [T,x,.int q,p,m,w] S=.ok (.tup l) S1)(J:neD (.tup l) x=some (.bl true))(U:pa.length<=100000):zbJ (env (e5 s0 s2 s3 s4 T) pa go (e9 s8 s9 s15 s16 q p m w .non)) S=.nx (env (e5 s0 s2 s3 s4 T) (pa++[.tup l]) [] (e9 s8 s9 (~~~.tup l) s16 q p m w .non)) S1:=by
 simp only[env,e5,e9,zbJ];simp[I,al,e,zeF,zdD,J,U]
def zpL(h1:ρ[i]?=some (some (true,.lst a)))(h2:ρ[j]?=some (some (true,.lst (b++[d]))))(I:i≠j)(J:a.length<=100000):ziK i j ρ S=.nx ((ρ.set j (some (true,.lst b))).set i (some (true,.lst (a++[d])))) S:=by
 have e:zgR i j ρ=some (a,b++[d]):=by unfold zgR ziZ;rw[if_neg I,h1,h2];rfl
 unfold ziK;rw[e];dsimp only;rw[zfO,yax J,if_pos rfl,List.getLast?_concat,yci]
theorem g5d(h6:6<=q)(U:q<8)(I:pb≠[])(J:go.length<=100000):zbJ (env (e5 s0 s2 s3 s4 T) (pb++[x]) go (e9 s8 s9 s15 s16 q p m w .non)) S=.nx (env (e5 s0 s2 s3 s4 T) pb (go++[x]) (e9 s8 s9 s15 s16 q p m w .non)) S:=by
 have a1:¬ q<6:=by omega
 have a:1<(pb.length:Int)+1:=by have:=yde.mpr I;omega
 have b:=zpL (S:=S) (i:=7) (j:=6) (d:=x) (ρ:=[s0,~~~T,s2,s3,s4,~~~.ref 0,some (true,.lst (pb++[x])),some (true,.lst go),s8,s9,~~~.int q,~~~p,~~~m,~~~w,~~~.non,s15,s16]) rfl rfl (by decide) J;simp only[env,e5,e9,zbJ];simp[a1,U,a,b]
theorem g5e(J:6<=q)(I:q<8):zbJ (env (e5 s0 s2 s3 s4 T) [x] go (e9 s8 s9 s15 s16 q p m w .non)) S=.nx (env (e5 s0 s2 s3 s4 T) [x] go (e9 s8 s9 s15 s16 q p m w (.str "nothing"))) S:=by
 have a1:¬ q<6:=by omega
 have a2:¬ 8<=q:=by omega
 simp only[env,e5,e9,zbJ];simp[a1,a2,I]
theorem g5f(U:8<=q)(I:neD (.lst (pb++[x])) (.lst [])=some (.bl true))(J:pa.length<=100000):zbJ (env (e5 s0 s2 s3 s4 T) pa (pb++[x]) (e9 s8 s9 s15 s16 q p m w .non)) S=.nx (env (e5 s0 s2 s3 s4 T) (pa++[x]) pb (e9 s8 s9 s15 s16 q p m w .non)) S:=by
 have a1:¬ q<6:=by omega
 have a2:¬ q<8:=by omega
 have a:=zpL (S:=S) (i:=6) (j:=7) (d:=x) (ρ:=[s0,~~~T,s2,s3,s4,~~~.ref 0,some (true,.lst pa),some (true,.lst (pb++[x])),s8,s9,~~~.int q,~~~p,~~~m,~~~w,~~~.non,s15,s16]) rfl rfl (by decide) J;simp only[env,e5,e9,zbJ];simp[a1,a2,U,I,a]
theorem g5g(I:8<=q):zbJ (env (e5 s0 s2 s3 s4 T) pa [] (e9 s8 s9 s15 s16 q p m w .non)) S=.nx (env (e5 s0 s2 s3 s4 T) pa [] (e9 s8 s9 s15 s16 q p m w (.str "nothing"))) S:=by
 have a1:¬ q<6:=by omega
 have a2:¬ q<8:=by omega
 have a:neD (.lst []) (.lst [])=some (.bl false):=by rfl
 simp only[env,e5,e9,zbJ];simp[a1,a2,I,a]
end
structure Sta(ts:Z2)(r c:Nat)(S:Sto)(bf:List D)(x:D)(af:List D):Prop where
 at_:S[0]?=some (pnt (.tup (ts.map zab)) x bf af)
 fx:Fl ts r c x
 fb:∀d∈bf,Fl ts r c d
 fa:∀d∈af,Fl ts r c d
def zt6(h:D.fits 8 l=true)(I:l≠[]):neD (.lst l) (.lst [])=some (.bl true):=by
 cases l with
 |nil=>exact absurd rfl I|cons a l=>
  unfold neD;rw[zmP,h];rfl
section
variable{ts:Z2}{r c:Nat}{h:Z1}{S:Sto}{x:D}{bf af:List D}{q i j:Int}{o:Option Int}{s0 s2 s3 s4 s8 s9 s15 s16:Sl}
theorem zvB(P:FP ts r c)(Z:Sta ts r c S bf x af)(hl:bf.length+af.length<=1000)(hh:InT ts h)(q0:0<=q)(ho:∀x,o=some x->0<=x/\x<=ts.length):
  ∃I x' J U a3 S',zm7 (env (e5 s0 s2 s3 s4 (.tup (ts.map zab))) (bf++[x]) af (e9 s8 s9 s15 s16 q (.tup [.int i,.int j]) (oD o) (flr r c h) .non)) S=.nx (env (e5 s0 s2 s3 s4 (.tup (ts.map zab))) (I++[x']) J (e9 s8 s9 U s16 q (.tup [.int i,.int j]) (oD o) (flr r c h) a3)) S'/\Sta ts r c S' I x' J/\I.length+J.length<=bf.length+af.length+1:=by
 obtain⟨n,⟨g,B,rfl⟩,fb,fa⟩:=Z;have u:Fl ts r c (flr r c g):=⟨g,B,rfl⟩
 have nn:neD .non .non=some (.bl false):=by rfl
 by_cases C:q<6
 ·obtain⟨R,A⟩:=zAe (i:=i) (j:=j) P B hh q0 C ho;obtain⟨S1,N,L⟩:=A.nw S;obtain⟨S2,y,h2⟩:=A.dd S1 bf af (N.at n) (by omega);have ok:=A.ok
  cases R with
  |no e v=>
   obtain⟨l,b,a⟩:=t7 P B y (Wd2.ne ok) h2;exact⟨bf,_,af,_,_,l,zeP (g5a C zeO L) b,⟨a,u,fb,fa⟩,by omega⟩
  |to f=>
   obtain⟨k,t,rfl⟩:=ok
   have E:neD (flr r c k) (flr r c g)=some (.bl (!zeX (flr r c k) (flr r c g))):=by unfold neD;rw[zem,zem];rfl
   have s:S2[0]?=some (if zeX (flr r c k) (flr r c g)then _ else _):=h2
   cases M:zeX (flr r c k) (flr r c g)with
   |true=>
    rw[M]at E s;obtain⟨l,b,a⟩:=t7 P B y nn s;exact⟨bf,_,af,_,_,l,zeP (g5b C zeO L E) b,⟨a,u,fb,fa⟩,by omega⟩
   |false=>
    rw[M]at E s;obtain⟨l,b,a⟩:=t7 P t y nn s;refine⟨bf++[flr r c g],_,[],_,_,l,zeP (g5c C zeO L E (by simp only[yak,yaH];omega)) b,⟨a,⟨k,t,rfl⟩,fun d hd=>?_,fun d hd=>by cases hd⟩,by simp only[yak,yaH,ybI];omega⟩
    rcases ya8.mp hd with z|z
    ·exact fb d z
    ·rw[yaB.mp z];exact u
 ·by_cases G:q<8
  ·have H:6<=q:=by omega
   rcases ycd bf with rfl|⟨K,d,rfl⟩
   ·obtain⟨l,b,a⟩:=t7 P B (zmT (p:=.tup [.int i,.int j]) (m:=oD o) (w:=flr r c h) n H G (zn3 n) (.no .no)) Wd2.no.ne n;exact⟨[],_,af,_,_,l,zeP (g5e H G) b,⟨a,u,fb,fa⟩,by omega⟩
   ·rw[yce]at*;obtain⟨k,t,rfl⟩:=fb d (yaF _ (.head _));obtain⟨S2,y,h2⟩:=zlX n (by omega);obtain⟨l,b,a⟩:=t7 P t (zmT (p:=.tup [.int i,.int j]) (m:=oD o) (w:=flr r c h) n H G y .ok) nn h2;refine⟨K,_,af++[flr r c g],_,_,l,zeP (g5d H G (by simp) (by omega)) b,⟨a,⟨k,t,rfl⟩,fun d hd=>fb d (ybq _ hd),fun d hd=>?_⟩,by simp;omega⟩
    rcases ya8.mp hd with z|z
    ·exact fa d z
    ·rw[yaB.mp z];exact u
  ·have F:8<=q:=by omega
   rcases ycd af with rfl|⟨K,d,rfl⟩
   ·obtain⟨l,b,a⟩:=t7 P B (zmU (p:=.tup [.int i,.int j]) (m:=oD o) (w:=flr r c h) n F (zn5 n) (.no .no)) Wd2.no.ne n;exact⟨bf,_,[],_,_,l,zeP (g5g F) b,⟨a,u,fb,fa⟩,by omega⟩
   ·rw[yce]at*;obtain⟨k,t,rfl⟩:=fa d (yaF _ (.head _));obtain⟨S2,y,h2⟩:=zqO n (by omega);obtain⟨l,b,a⟩:=t7 P t (zmU (p:=.tup [.int i,.int j]) (m:=oD o) (w:=flr r c h) n F y .ok) nn h2
    have O:D.fits 8 (K++[flr r c k])=true:=D.fits_iff.mpr fun d hd=>by
     obtain⟨_,_,rfl⟩:=fa d hd;exact zem
    refine⟨bf++[flr r c g],_,K,_,_,l,zeP (g5f F (zt6 O (by simp)) (by simp only[yak,yaH]at hl ⊢;omega)) b,⟨a,⟨k,t,rfl⟩,fun d hd=>?_,fun d hd=>fa d (ybq _ hd)⟩,by simp only[yak,yaH]at hl ⊢;omega⟩
    rcases ya8.mp hd with z|z
    ·exact fb d z
    ·rw[yaB.mp z];exact u
end
def eL(l:List Int)(r c:Nat)(x T:D):List Sl:=e5 (~~~.scr l) (~~~.int r) (~~~.int c) (~~~x) T
section
variable{ts:Z2}{r c:Nat}{S:Sto}{x:D}{bf af:List D}{l:List Int}{y:D}
theorem zt2(h1:1<=ts.length)(h0:0<=n)(I:n<5):∃o:Option Int,(∀x,o=some x->0<=x/\x<=ts.length)/\atI [D.non,.int 0,.int ((ts.length:Int)-1),.int ts.length,.int 0] n=some (oD o):=by
 have b:n.toNat < [D.non,.int 0,.int ((ts.length:Int)-1),.int ts.length,.int 0].length:=by show n.toNat<5;omega
 rw[zdN h0,yab b];have hm:=ya1 b;generalize [D.non,.int 0,.int ((ts.length:Int)-1),.int ts.length,.int 0][n.toNat]=d at*
 have z:∀x,(some 0:Option Int)=some x->0<=x/\x<=ts.length:=fun x a=>by cases a;exact⟨ycP _,ycx _⟩
 simp only[yat,ya2,ycQ]at hm
 rcases hm with rfl|rfl|rfl|rfl|rfl
 ·exact⟨none,(fun x a=>by cases a),rfl⟩
 ·exact⟨some 0,z,rfl⟩
 ·exact⟨some ((ts.length:Int)-1),(fun x a=>by cases a;omega),rfl⟩
 ·exact⟨some (ts.length:Int),(fun x a=>by cases a;exact⟨ycx _,ycP _⟩),rfl⟩
 ·exact⟨some 0,z,rfl⟩
def zj2(Z:Sta ts r c S bf x af):∃d,(bf++[x])[0]?=some d/\Fl ts r c d:=by
 cases bf with
 |nil=>exact⟨x,rfl,Z.fx⟩|cons d bf=>exact⟨d,rfl,Z.fb d (.head _)⟩
theorem zvC{k:Nat}{s9 s10 s11 s12 s13 s14 s15 s16:Sl}(P:FP ts r c)(Z:Sta ts r c S bf x af)(hl:bf.length+af.length<=1000):
  ∃I U J t8 t9 a9 a8 a7 a6 a5 a4 a3 S',zhC (env (eL l r c y (.tup (ts.map zab))) (bf++[x]) af [~~~.int k,s9,s10,s11,s12,s13,s14,s15,s16]) S=.nx (env (eL l r c y (.tup (ts.map zab))) (I++[U]) J [t8,t9,a9,a8,a7,a6,a5,a4,a3]) S'/\Sta ts r c S' I U J/\I.length+J.length<=bf.length+af.length+1:=by
 obtain⟨d0,a0,E,d,rfl⟩:=zj2 Z;obtain⟨g,O,z⟩:=Z.fx;have al:=zeO (x:=x) (bf:=bf);obtain⟨B,D⟩:∃B:Int,200+10*(k:Int)=B:=⟨_,rfl⟩
 have G:0<=B:=by omega
 have c1:=P.c1;have k1:=zbq (l:=l) (k:=B) (many:=10) (S:=S) G (by decide);have k2:=zbq (l:=l) (k:=B+1) (many:=(r:Int)+1) (S:=S) (by omega) (by omega);have k3:=zbq (l:=l) (k:=B+2) (many:=(c:Int)) (S:=S) (by omega) (by omega);have w:=zbq (l:=l) (k:=B+3) (many:=5) (S:=S) (by omega) (by decide);have k5:=zbq (l:=l) (k:=B+4) (many:=1000000) (S:=S) (by omega) (by decide);have u:=zb3 l B (many:=10) (by decide);have n:=zb3 l (B+3) (many:=5) (by decide);have t:=zb3 l (B+4) (many:=1000000) (by decide);obtain⟨o,A,p⟩:=zt2 (ts:=ts) P.h1 n.1 n.2;obtain⟨h,C,a⟩:=zlv (g:=g) P d t.1;have a:=a S;rw[<-z]at a;obtain⟨I,U,J,m,q,S',e,F,b⟩:=zvB (s0:= ~~~.scr l) (s2:= ~~~.int r) (s3:= ~~~.int c) (s4:= ~~~y) (s8:= ~~~.int k) (s9:= ~~~.int B) (s15:=s15) (s16:=s16) (i:=zb0 l (B+1) (r+1)) (j:=zb0 l (B+2) c) P Z hl C u.1 A;refine⟨I,U,J,_,_,_,_,_,_,_,_,_,S',Eq.trans ?_ e,F,b⟩;have s:=yad (as:=ts) zab
 have f:zcr 10=true:=by decide
 have v:ztk (.int 10) (.int 6)=some (.int 1000000):=by rfl
 generalize ts.map zab=T at*;rw[<-s]at p;generalize flr r c h=H,flr r c E=F0,bf++[x]=pa,zb0 l (B+4) 1000000=K,zb0 l (B+3) 5=L,zb0 l (B+2) c=M,zb0 l (B+1) (r+1)=p2,zb0 l B 10=N,oD o=od at*;simp only[env,eL,e5,e9,zhC];simp[D,f,v,k1,k2,k3,w,k5,p,al,a0,a]
theorem znj(U:S[0]?=some (pnt T x bf af))(hl:bf.length+af.length<=1000):∃I S' d0 J,zel (.one 16) zhB (zaB 0 (bf.length:Int)) (env (eL l r c y T) pa af2 [s8,s9,s10,s11,s12,s13,s14,s15,s16]) S=.nx (env (eL l r c y T) pa af2 [s8,s9,s10,s11,s12,s13,s14,s15,I]) S'/\(bf++[x])[0]?=some d0/\S'[0]?=some (pnt T d0 [] J):=by
 obtain⟨j,S',e,I,a,b,f,rfl,h',⟨z,h⟩,g,i⟩:=zd1 (tg:=.one 16) (body:=zhB) (ds:=zaB 0 (bf.length:Int)) (fun k ρ S=>∃s16 a b f,ρ=env (eL l r c y T) pa af2 [s8,s9,s10,s11,s12,s13,s14,s15,s16]/\S[0]?=some (pnt T a b f)/\(∃z,b++[a]++z=bf++[x])/\b.length+k=bf.length/\f.length<=1000+k) (by
  rintro k d ρ S hd ⟨s,a,b,f,rfl,h',⟨z,h⟩,g,i⟩;obtain⟨rfl,p⟩:=zcC hd
  rcases ycd b with rfl|⟨o,d2,rfl⟩
  ·rw[ybI]at g;omega
  ·rw[yce]at*;obtain⟨S2,n,h2⟩:=zlX h' (by omega);have k1:=zbe (m:="undo") h' (by decide +kernel);refine⟨_,_,S2,rfl,?_,~~~.int k,d2,o,f++[a],rfl,h2,⟨[a]++z,by rw[<-ybP];exact h⟩,?_,?_⟩
   ·simp only[env,eL,e5,zhB];simp[k1,n]
   ·rw[yak,yaH]at g;omega
   ·rw[yak,yaH];omega) (ρ:=env (eL l r c y T) pa af2 [s8,s9,s10,s11,s12,s13,s14,s15,s16]) (S:=S) ⟨s16,x,bf,af,rfl,U,⟨[],yaS _⟩,rfl,by omega⟩
 rw[show(zaB 0 (bf.length:Int)).length=bf.length by simp[zaB]]at g;obtain rfl:b=[]:=yaV (by omega);exact⟨I,S',a,f,e,by rw[<-h];rfl,h'⟩
theorem zq6(P:FP ts r c)(I:Fl ts r c x):∃S',ziI [~~~.scr l,~~~.tup (ts.map zab),~~~.int r,~~~.int c,~~~x,none,none,none,none,none,none,none,none,none,none,none,none] []=.rt (.bl true) S':=by
 have k1:=zbq (l:=l) (k:=91) (many:=11) (S:=[pnt (.tup (ts.map zab)) x [] []]) (by decide) (by decide);have w:=zb3 l 91 (many:=11) (by decide);obtain⟨n,E⟩:=ybp w.1;rw[E]at k1 w
 obtain⟨C,S1,B,bf,a,af,s8,s9,s10,s11,s12,s13,s14,s15,s16,rfl,Z,z⟩:=zd1 (tg:=.one 8) (body:=zhC) (ds:=zaB 0 (n:Int)) (fun k ρ S=>∃bf a af s8 s9 s10 s11 s12 s13 s14 s15 s16,ρ=env (eL l r c x (.tup (ts.map zab))) (bf++[a]) af [s8,s9,s10,s11,s12,s13,s14,s15,s16]/\Sta ts r c S bf a af/\bf.length+af.length<=k) (by
  rintro k d ρ S hd ⟨bf,a,af,s8,s9,s10,s11,s12,s13,s14,s15,s16,rfl,Z,z⟩;obtain⟨rfl,O⟩:=zcC hd;obtain⟨u,D,b,t8,t9,t,s,p,o,j,i,h,S',e,M,G⟩:=zvC (k:=k) (s9:=s9) (s10:=s10) (s11:=s11) (s12:=s12) (s13:=s13) (s14:=s14) (s15:=s15) (s16:=s16) (l:=l) (y:=x) P Z (by omega)
  exact⟨_,_,S',rfl,e,u,D,b,t8,t9,t,s,p,o,j,i,h,rfl,M,by omega⟩) (ρ:=env (eL l r c x (.tup (ts.map zab))) ([]++[x]) [] [none,none,none,none,none,none,none,none,none]) (S:=[pnt (.tup (ts.map zab)) x [] []]) ⟨[],x,[],_,_,_,_,_,_,_,_,_,rfl,⟨rfl,I,(fun d hd=>by cases hd),(fun d hd=>by cases hd)⟩,yai _⟩
 rw[show(zaB 0 (n:Int)).length=n by simp[zaB]]at z;obtain⟨v,S2,d0,b,A,h0,h2⟩:=znj (l:=l) (r:=r) (c:=c) (y:=x) (pa:=bf++[a]) (af2:=af) (s8:=s8) (s9:=s9) (s10:=s10) (s11:=s11) (s12:=s12) (s13:=s13) (s14:=s14) (s15:=s15) (s16:=s16) Z.at_ (by omega)
 have hf:Fl ts r c d0:=by
  obtain⟨d,e,f⟩:=zj2 Z;rw[h0]at e;cases e;exact f
 obtain⟨g,Q,rfl⟩:=hf;refine⟨S2,?_⟩;have q:eqD (flr r c g) (flr r c g)=some (.bl true):=zrB zmN zem;have k2:=zbe (m:="floor") h2 (by decide +kernel);have J:=zjH h2;have H:=ztt (T:=.tup (ts.map zab)) (x:=x)
 have ae:((bf++[a]).length:Int)-1=bf.length:=by rw[yak,yaH];omega
 have L:-1000000<=(n:Int)/\(n:Int)<=1000000:=by omega
 have K:-1000000<=(bf.length:Int)/\(bf.length:Int)<=1000000:=by omega
 generalize flr r c g=F,bf++[a]=pa,(bf.length:Int)=m,(n:Int)=N,ts.map zab=T at*;simp only[env,eL,e5,ycZ,ybQ,yaS]at B A;simp only[ziI,zlc,zlb,zla,zk9];simp[H,k1,L,B,ae,K,A,k2,J,h0,q]
theorem zox:∀l:List Int,l.length<=63->∃S,zs9 [.scr l] []=.ok (.bl true) S:=by
 intro l _;obtain⟨ts,b,g⟩:=zlw (l:=l) (at':=0) (most:=3) (S:=[]) (by decide) (by decide) (by decide);obtain⟨r,c,h1,n,c1,o,a,es⟩:=zly (l:=l) (at':=90) (S:=[]) (by decide);have k:=b.ne;have h:=b.le;have ht:TOk ts:=⟨b.four,by omega⟩
 have hp2:0<((ts.map zab).length:Int)*5:=by simp;omega
 have f2:=zlB (l:=l) (at':=100) (m:=5) (ts:=ts.map zab) (r:=r) (c:=c) (S:=[]) (by decide) hp2 (by decide) (by omega) (by omega) (by omega) (by omega)
 have g2:InT ts (zkY l 100 (ts.map zab).length 5):=fun i j x e=>by simpa using zt1 hp2 x e
 rw[yaI,yaI]at f2;generalize zkY l 100 (ts.map zab).length 5=d at*;have P:FP ts r c:=⟨ht,by omega,zv0 (by omega) a,h1,c1,a⟩;obtain⟨S',e⟩:=zq6 (l:=l) P ⟨d,g2,rfl⟩;refine⟨S',?_⟩;generalize ts.map zab=f,flr r c d=fl at*;simp only[zs9,zaj,zrA,zlf,zle,zld];simp[g,es,f2,e]
end
end S2.L80
namespace M80
open PySem L2 S2 S2.L80
noncomputable def top(i:Nat):Stmt:=PySem.Challenge.pw_floorfits_k80_whole_painter.main.body.getD i (.Pass ⟨0,0,0,0⟩)
noncomputable def T:Tab:=⟨[("NORTH",.int 0),("EAST",.int 1),("SOUTH",.int 2),("WEST",.int 3)],["isinstance","int","bool","tuple","list","str","len","range","all","sum","enumerate","zip","sorted","ValueError"],["FloorError","NoPlace","NoTile","NoFill","Unlike","Nothing","NoText"],[("NoPlace","FloorError"),("NoTile","FloorError"),("NoFill","FloorError"),("Nothing","FloorError")],["NoPlace","NoTile","NoFill","Nothing"],[("Ways","tiles"),("Ways","ground"),("Ways","size"),("Ways","is_round"),("Ways","known"),("Painter","tiles"),("Painter","now"),("Painter","before"),("Painter","after")],["known"],["found"]⟩
noncomputable def F0:Fn3:=⟨"",[],[],[]⟩
noncomputable def F1:Fn3:=F0.fn "is_whole" ⟨1,false,zaV⟩
def d1:zai (Gn T F0) false ["thing"] (top 14)=some zen:=by kernel_rfl
theorem s1:FnScope ["thing"] ["thing"] (zaa (top 14)):=⟨rfl,rfl,rfl,by decide +kernel,rfl,by decide +kernel,by decide +kernel⟩
noncomputable def F2:Fn3:=F1.fn "is_tuple_of" ⟨3,false,zaA⟩
def d2:zai (Gn T F1) false ["thing","least","most"] (top 15)=some zcx:=by kernel_rfl
theorem s2:FnScope ["thing","least","most"] ["thing","least","most"] (zaa (top 15)):=⟨rfl,rfl,rfl,by decide +kernel,rfl,by decide +kernel,by decide +kernel⟩
noncomputable def F3:Fn3:=F2.fn "has_number" ⟨2,false,zaG⟩
def d3:zai (Gn T F2) false ["tiles","thing"] (top 16)=some zcm:=by kernel_rfl
theorem s3:FnScope ["tiles","thing"] ["tiles","thing"] (zaa (top 16)):=⟨rfl,rfl,rfl,by decide +kernel,rfl,by decide +kernel,by decide +kernel⟩
noncomputable def F4:Fn3:=F3.fn "may_lie" ⟨2,false,zcD⟩
def d4:zai (Gn T F3) false ["tiles","thing"] (top 17)=some zd3:=by kernel_rfl
theorem s4:FnScope ["tiles","thing"] ["tiles","thing"] (zaa (top 17)):=⟨rfl,rfl,rfl,by decide +kernel,rfl,by decide +kernel,by decide +kernel⟩
noncomputable def F5:Fn3:=F4.fn "size_of" ⟨1,false,zcj⟩
def d5:zai (Gn T F4) false ["floor","columns"] (top 18)=some zgp:=by kernel_rfl
theorem s5:FnScope ["floor","columns"] ["floor"] (zaa (top 18)):=⟨rfl,rfl,rfl,by decide +kernel,rfl,by decide +kernel,by decide +kernel⟩
noncomputable def F6:Fn3:=F5.fn "places_of" ⟨1,true,zaQ⟩
def d6:zai (Gn T F5) true ["floor","size","places","row","column"] (top 19)=some zeG:=by kernel_rfl
theorem s6:FnScope ["floor","size","places","row","column"] ["floor"] (zaa (top 19)):=⟨rfl,rfl,rfl,by decide +kernel,rfl,by decide +kernel,by decide +kernel⟩
noncomputable def F7:Fn3:=F6.fn "is_row_like" ⟨2,false,zbO⟩
def d7:zai (Gn T F6) false ["row","thing"] (top 20)=some zdI:=by kernel_rfl
theorem s7:FnScope ["row","thing"] ["row","thing"] (zaa (top 20)):=⟨rfl,rfl,rfl,by decide +kernel,rfl,by decide +kernel,by decide +kernel⟩
noncomputable def F8:Fn3:=F7.fn "is_like" ⟨2,false,zdW⟩
def d8:zai (Gn T F7) false ["floor","thing"] (top 21)=some ze8:=by kernel_rfl
theorem s8:FnScope ["floor","thing"] ["floor","thing"] (zaa (top 21)):=⟨rfl,rfl,rfl,by decide +kernel,rfl,by decide +kernel,by decide +kernel⟩
noncomputable def F9:Fn3:=F8.fn "in_rows" ⟨2,false,zeV⟩
def d9:zai (Gn T F8) false ["numbers","size"] (top 22)=some zgq:=by kernel_rfl
theorem s9:FnScope ["numbers","size"] ["numbers","size"] (zaa (top 22)):=⟨rfl,rfl,rfl,by decide +kernel,rfl,by decide +kernel,by decide +kernel⟩
noncomputable def F10:Fn3:=F9.fn "number_at" ⟨2,false,zak⟩
def d10:zai (Gn T F9) false ["floor","place"] (top 23)=some zeH:=by kernel_rfl
theorem s10:FnScope ["floor","place"] ["floor","place"] (zaa (top 23)):=⟨rfl,rfl,rfl,by decide +kernel,rfl,by decide +kernel,by decide +kernel⟩
noncomputable def F11:Fn3:=F10.fn "laid_places" ⟨1,true,zcu⟩
def d11:zai (Gn T F10) true ["floor"] (top 24)=some zdH:=by kernel_rfl
theorem s11:FnScope ["floor"] ["floor"] (zaa (top 24)):=⟨rfl,rfl,rfl,by decide +kernel,rfl,by decide +kernel,by decide +kernel⟩
noncomputable def F12:Fn3:=F11.fn "has_tiles_of" ⟨2,false,zca⟩
def d12:zai (Gn T F11) false ["whole","floor"] (top 25)=some zdd:=by kernel_rfl
theorem s12:FnScope ["whole","floor"] ["whole","floor"] (zaa (top 25)):=⟨rfl,rfl,rfl,by decide +kernel,rfl,by decide +kernel,by decide +kernel⟩
noncomputable def F13:Fn3:=F12.fn "has_place" ⟨2,false,zaI⟩
def d13:zai (Gn T F12) false ["floor","place","size"] (top 26)=some zeI:=by kernel_rfl
theorem s13:FnScope ["floor","place","size"] ["floor","place"] (zaa (top 26)):=⟨rfl,rfl,rfl,by decide +kernel,rfl,by decide +kernel,by decide +kernel⟩
noncomputable def F14:Fn3:=F13.fn "refuse_outside" ⟨2,false,zaw⟩
def d14:zai (Gn T F13) false ["floor","place"] (top 27)=some zbF:=by kernel_rfl
theorem s14:FnScope ["floor","place"] ["floor","place"] (zaa (top 27)):=⟨rfl,rfl,rfl,by decide +kernel,rfl,by decide +kernel,by decide +kernel⟩
noncomputable def F15:Fn3:=F14.fn "with_number" ⟨3,false,zct⟩
def d15:zai (Gn T F14) false ["floor","place","number","old","row"] (top 28)=some zdF:=by kernel_rfl
theorem s15:FnScope ["floor","place","number","old","row"] ["floor","place","number"] (zaa (top 28)):=⟨rfl,rfl,rfl,by decide +kernel,rfl,by decide +kernel,by decide +kernel⟩
noncomputable def F16:Fn3:=F15.fn "with_tile" ⟨4,false,zat⟩
def d16:zai (Gn T F15) false ["tiles","floor","place","number"] (top 29)=some zcH:=by kernel_rfl
theorem s16:FnScope ["tiles","floor","place","number"] ["tiles","floor","place","number"] (zaa (top 29)):=⟨rfl,rfl,rfl,by decide +kernel,rfl,by decide +kernel,by decide +kernel⟩
noncomputable def F17:Fn3:=F16.fn "edge_at" ⟨4,false,zaW⟩
def d17:zai (Gn T F16) false ["tiles","floor","place","side"] (top 30)=some zd4:=by kernel_rfl
theorem s17:FnScope ["tiles","floor","place","side"] ["tiles","floor","place","side"] (zaa (top 30)):=⟨rfl,rfl,rfl,by decide +kernel,rfl,by decide +kernel,by decide +kernel⟩
noncomputable def F18:Fn3:=F17.fn "colours_east" ⟨3,false,zcb⟩
def d18:zai (Gn T F17) false ["tiles","floor","place","beside"] (top 31)=some zde:=by kernel_rfl
theorem s18:FnScope ["tiles","floor","place","beside"] ["tiles","floor","place"] (zaa (top 31)):=⟨rfl,rfl,rfl,by decide +kernel,rfl,by decide +kernel,by decide +kernel⟩
noncomputable def F19:Fn3:=F18.fn "colours_south" ⟨3,false,zbQ⟩
def d19:zai (Gn T F18) false ["tiles","floor","place","below"] (top 32)=some zcI:=by kernel_rfl
theorem s19:FnScope ["tiles","floor","place","below"] ["tiles","floor","place"] (zaa (top 32)):=⟨rfl,rfl,rfl,by decide +kernel,rfl,by decide +kernel,by decide +kernel⟩
noncomputable def F20:Fn3:=F19.fn "do_clash" ⟨1,false,zdn⟩
def d20:zai (Gn T F19) false ["colours"] (top 33)=some zfr:=by kernel_rfl
theorem s20:FnScope ["colours"] ["colours"] (zaa (top 33)):=⟨rfl,rfl,rfl,by decide +kernel,rfl,by decide +kernel,by decide +kernel⟩
noncomputable def F21:Fn3:=F20.fn "clashes_floors" ⟨2,true,zcE⟩
def d21:zai (Gn T F20) true ["tiles","floor","found","place"] (top 34)=some zgr:=by kernel_rfl
theorem s21:FnScope ["tiles","floor","found","place"] ["tiles","floor"] (zaa (top 34)):=⟨rfl,rfl,rfl,by decide +kernel,rfl,by decide +kernel,by decide +kernel⟩
noncomputable def F22:Fn3:=F21.fn "is_right" ⟨2,false,zdl⟩
def d22:zai (Gn T F21) false ["tiles","floor"] (top 36)=some zeo:=by kernel_rfl
theorem s22:FnScope ["tiles","floor"] ["tiles","floor"] (zaa (top 36)):=⟨rfl,rfl,rfl,by decide +kernel,rfl,by decide +kernel,by decide +kernel⟩
noncomputable def F23:Fn3:=F22.fn "suits" ⟨2,false,zf2⟩
def d23:zai (Gn T F22) false ["wanted","colour"] (top 38)=some zi2:=by kernel_rfl
theorem s23:FnScope ["wanted","colour"] ["wanted","colour"] (zaa (top 38)):=⟨rfl,rfl,rfl,by decide +kernel,rfl,by decide +kernel,by decide +kernel⟩
noncomputable def F24:Fn3:=F23.cls "Ways" [.bl false] ⟨4,false,za0⟩
def d24:zai (Gn T (F23.at "Ways")) false ["self","tiles","floor","is_round"] (inC 0 (top 39))=some zcN:=by kernel_rfl
theorem s24:FnScope ["self","tiles","floor","is_round"] ["self","tiles","floor","is_round"] (zaa (inC 0 (top 39))):=⟨rfl,rfl,rfl,by decide +kernel,rfl,by decide +kernel,by decide +kernel⟩
noncomputable def F25:Fn3:=F24.mt "first_seam" "Ways" ⟨1,false,zaY⟩
def d25:zai (Gn T (F24.at "Ways")) false ["self"] (inC 1 (top 39))=some zb6:=by kernel_rfl
theorem s25:FnScope ["self"] ["self"] (zaa (inC 1 (top 39))):=⟨rfl,rfl,rfl,by decide +kernel,rfl,by decide +kernel,by decide +kernel⟩
noncomputable def F26:Fn3:=F25.mt "ends_row" "Ways" ⟨2,false,zaZ⟩
def d26:zai (Gn T (F25.at "Ways")) false ["self","step"] (inC 2 (top 39))=some zcM:=by kernel_rfl
theorem s26:FnScope ["self","step"] ["self","step"] (zaa (inC 2 (top 39))):=⟨rfl,rfl,rfl,by decide +kernel,rfl,by decide +kernel,by decide +kernel⟩
noncomputable def F27:Fn3:=F26.mt "colour_round" "Ways" ⟨4,false,zax⟩
def d27:zai (Gn T (F26.at "Ways")) false ["self","step","seam","tile"] (inC 3 (top 39))=some za6:=by kernel_rfl
theorem s27:FnScope ["self","step","seam","tile"] ["self","step","seam","tile"] (zaa (inC 3 (top 39))):=⟨rfl,rfl,rfl,by decide +kernel,rfl,by decide +kernel,by decide +kernel⟩
noncomputable def F28:Fn3:=F27.mt "seam_behind" "Ways" ⟨4,false,zbf⟩
def d28:zai (Gn T (F27.at "Ways")) false ["self","step","seam","tile","is_last","in_last_row","east","south","around"] (inC 4 (top 39))=some zbX:=by kernel_rfl
theorem s28:FnScope ["self","step","seam","tile","is_last","in_last_row","east","south","around"] ["self","step","seam","tile"] (zaa (inC 4 (top 39))):=⟨rfl,rfl,rfl,by decide +kernel,rfl,by decide +kernel,by decide +kernel⟩
noncomputable def F29:Fn3:=F28.mt "numbers_for" "Ways" ⟨2,false,zaN⟩
def d29:zai (Gn T (F28.at "Ways")) false ["self","step","laid"] (inC 5 (top 39))=some zbh:=by kernel_rfl
theorem s29:FnScope ["self","step","laid"] ["self","step"] (zaa (inC 5 (top 39))):=⟨rfl,rfl,rfl,by decide +kernel,rfl,by decide +kernel,by decide +kernel⟩
noncomputable def F30:Fn3:=F29.mt "fits_round" "Ways" ⟨4,false,zaX⟩
def d30:zai (Gn T (F29.at "Ways")) false ["self","step","seam","tile"] (inC 6 (top 39))=some zbt:=by kernel_rfl
theorem s30:FnScope ["self","step","seam","tile"] ["self","step","seam","tile"] (zaa (inC 6 (top 39))):=⟨rfl,rfl,rfl,by decide +kernel,rfl,by decide +kernel,by decide +kernel⟩
noncomputable def F31:Fn3:=F30.mt "fits" "Ways" ⟨4,false,zdx⟩
def d31:zai (Gn T (F30.at "Ways")) false ["self","step","seam","tile"] (inC 7 (top 39))=some zeK:=by kernel_rfl
theorem s31:FnScope ["self","step","seam","tile"] ["self","step","seam","tile"] (zaa (inC 7 (top 39))):=⟨rfl,rfl,rfl,by decide +kernel,rfl,by decide +kernel,by decide +kernel⟩
noncomputable def F32:Fn3:=F31.mt "choices" "Ways" ⟨3,true,zbA⟩
def d32:zai (Gn T (F31.at "Ways")) true ["self","step","seam","found","number","tile"] (inC 8 (top 39))=some zdg:=by kernel_rfl
theorem s32:FnScope ["self","step","seam","found","number","tile"] ["self","step","seam"] (zaa (inC 8 (top 39))):=⟨rfl,rfl,rfl,by decide +kernel,rfl,by decide +kernel,by decide +kernel⟩
noncomputable def F33:Fn3:=F32.mt "count_from" "Ways" ⟨3,false,zaz⟩
def d33:∀r,zai (Gn T ((F32.mt "count_from" "Ways" ⟨["self","step","seam"].length,false,r⟩).at "Ways")) false ["self","step","seam","key"] (inC 9 (top 39))=some (zal r):=by intro r;kernel_rfl
theorem s33:FnScope ["self","step","seam","key"] ["self","step","seam"] (zaa (inC 9 (top 39))):=⟨rfl,rfl,rfl,by decide +kernel,rfl,by decide +kernel,by decide +kernel⟩
noncomputable def F34:Fn3:=F33.mt "count_all" "Ways" ⟨1,false,zba⟩
def d34:zai (Gn T (F33.at "Ways")) false ["self"] (inC 10 (top 39))=some zco:=by kernel_rfl
theorem s34:FnScope ["self"] ["self"] (zaa (inC 10 (top 39))):=⟨rfl,rfl,rfl,by decide +kernel,rfl,by decide +kernel,by decide +kernel⟩
noncomputable def F35:Fn3:=F34.mt "numbers_by" "Ways" ⟨2,true,zbr⟩
def d35:zai (Gn T (F34.at "Ways")) true ["self","number","numbers","left","seam","step","choice","many"] (inC 11 (top 39))=some zb5:=by kernel_rfl
theorem s35:FnScope ["self","number","numbers","left","seam","step","choice","many"] ["self","number"] (zaa (inC 11 (top 39))):=⟨rfl,rfl,rfl,by decide +kernel,rfl,by decide +kernel,by decide +kernel⟩
noncomputable def F36:Fn3:=F35.mt "whole_by" "Ways" ⟨2,false,zbk⟩
def d36:zai (Gn T (F35.at "Ways")) false ["self","number"] (inC 12 (top 39))=some zcL:=by kernel_rfl
theorem s36:FnScope ["self","number"] ["self","number"] (zaa (inC 12 (top 39))):=⟨rfl,rfl,rfl,by decide +kernel,rfl,by decide +kernel,by decide +kernel⟩
noncomputable def F37:Fn3:=F36.fn "count_fills" ⟨2,false,zaM⟩
def d37:zai (Gn T F36) false ["tiles","floor"] (top 40)=some zdJ:=by kernel_rfl
theorem s37:FnScope ["tiles","floor"] ["tiles","floor"] (zaa (top 40)):=⟨rfl,rfl,rfl,by decide +kernel,rfl,by decide +kernel,by decide +kernel⟩
noncomputable def F38:Fn3:=F37.fn "is_fill" ⟨3,false,zbP⟩
def d38:zai (Gn T F37) false ["tiles","floor","whole"] (top 41)=some ze9:=by kernel_rfl
theorem s38:FnScope ["tiles","floor","whole"] ["tiles","floor","whole"] (zaa (top 41)):=⟨rfl,rfl,rfl,by decide +kernel,rfl,by decide +kernel,by decide +kernel⟩
noncomputable def F39:Fn3:=F38.fn "fill" ⟨3,false,zjA⟩
def d39:zai (Gn T F38) false ["tiles","floor","number"] (top 42)=some zmS:=by kernel_rfl
theorem s39:FnScope ["tiles","floor","number"] ["tiles","floor","number"] (zaa (top 42)):=⟨rfl,rfl,rfl,by decide +kernel,rfl,by decide +kernel,by decide +kernel⟩
noncomputable def F40:Fn3:=F39.fn "has_fill" ⟨2,false,zdm⟩
def d40:zai (Gn T F39) false ["tiles","floor"] (top 44)=some zfq:=by kernel_rfl
theorem s40:FnScope ["tiles","floor"] ["tiles","floor"] (zaa (top 44)):=⟨rfl,rfl,rfl,by decide +kernel,rfl,by decide +kernel,by decide +kernel⟩
noncomputable def F41:Fn3:=F40.fn "bare_places" ⟨1,true,zcv⟩
def d41:zai (Gn T F40) true ["floor"] (top 45)=some zdK:=by kernel_rfl
theorem s41:FnScope ["floor"] ["floor"] (zaa (top 45)):=⟨rfl,rfl,rfl,by decide +kernel,rfl,by decide +kernel,by decide +kernel⟩
noncomputable def F42:Fn3:=F41.fn "forced" ⟨2,true,zeW⟩
def d42:zai (Gn T F41) true ["tiles","floor","many","first","found","place","number"] (top 46)=some zfK:=by kernel_rfl
theorem s42:FnScope ["tiles","floor","many","first","found","place","number"] ["tiles","floor"] (zaa (top 46)):=⟨rfl,rfl,rfl,by decide +kernel,rfl,by decide +kernel,by decide +kernel⟩
noncomputable def F43:Fn3:=F42.fn "with_forced" ⟨2,false,za3⟩
def d43:zai (Gn T F42) false ["tiles","floor","whole","place","number"] (top 47)=some zdG:=by kernel_rfl
theorem s43:FnScope ["tiles","floor","whole","place","number"] ["tiles","floor"] (zaa (top 47)):=⟨rfl,rfl,rfl,by decide +kernel,rfl,by decide +kernel,by decide +kernel⟩
noncomputable def F44:Fn3:=F43.fn "neighbours" ⟨1,true,zcY⟩
def d44:zai (Gn T F43) true ["place","row","column"] (top 49)=some zd2:=by kernel_rfl
theorem s44:FnScope ["place","row","column"] ["place"] (zaa (top 49)):=⟨rfl,rfl,rfl,by decide +kernel,rfl,by decide +kernel,by decide +kernel⟩
noncomputable def F45:Fn3:=F44.fn "alike_beside" ⟨2,true,zcc⟩
def d45:zai (Gn T F44) true ["floor","place","number"] (top 50)=some zdf:=by kernel_rfl
theorem s45:FnScope ["floor","place","number"] ["floor","place"] (zaa (top 50)):=⟨rfl,rfl,rfl,by decide +kernel,rfl,by decide +kernel,by decide +kernel⟩
noncomputable def F46:Fn3:=F45.fn "area" ⟨2,false,zh6⟩
def d46:zai (Gn T F45) false ["floor","place","found","waiting","here","near"] (top 51)=some zj3:=by kernel_rfl
theorem s46:FnScope ["floor","place","found","waiting","here","near"] ["floor","place"] (zaa (top 51)):=⟨rfl,rfl,rfl,by decide +kernel,rfl,by decide +kernel,by decide +kernel⟩
noncomputable def F47:Fn3:=F46.fn "poured" ⟨4,false,zbE⟩
def d47:zai (Gn T F46) false ["tiles","floor","place","number","whole","each"] (top 52)=some ze7:=by kernel_rfl
theorem s47:FnScope ["tiles","floor","place","number","whole","each"] ["tiles","floor","place","number"] (zaa (top 52)):=⟨rfl,rfl,rfl,by decide +kernel,rfl,by decide +kernel,by decide +kernel⟩
noncomputable def F48:Fn3:=F47.cls "Painter" [] ⟨3,false,zbT⟩
def d48:zai (Gn T (F47.at "Painter")) false ["self","tiles","floor"] (inC 0 (top 54))=some zc5:=by kernel_rfl
theorem s48:FnScope ["self","tiles","floor"] ["self","tiles","floor"] (zaa (inC 0 (top 54))):=⟨rfl,rfl,rfl,by decide +kernel,rfl,by decide +kernel,by decide +kernel⟩
noncomputable def F49:Fn3:=F48.mt "floor" "Painter" ⟨1,false,zbm⟩
def d49:zai (Gn T (F48.at "Painter")) false ["self"] (inC 1 (top 54))=some zcQ:=by kernel_rfl
theorem s49:FnScope ["self"] ["self"] (zaa (inC 1 (top 54))):=⟨rfl,rfl,rfl,by decide +kernel,rfl,by decide +kernel,by decide +kernel⟩
noncomputable def F50:Fn3:=F49.mt "clashes" "Painter" ⟨1,false,zbs⟩
def d50:zai (Gn T (F49.at "Painter")) false ["self"] (inC 2 (top 54))=some zb7:=by kernel_rfl
theorem s50:FnScope ["self"] ["self"] (zaa (inC 2 (top 54))):=⟨rfl,rfl,rfl,by decide +kernel,rfl,by decide +kernel,by decide +kernel⟩
noncomputable def F51:Fn3:=F50.mt "can_be_filled" "Painter" ⟨1,false,zaE⟩
def d51:zai (Gn T (F50.at "Painter")) false ["self"] (inC 3 (top 54))=some za8:=by kernel_rfl
theorem s51:FnScope ["self"] ["self"] (zaa (inC 3 (top 54))):=⟨rfl,rfl,rfl,by decide +kernel,rfl,by decide +kernel,by decide +kernel⟩
noncomputable def F52:Fn3:=F51.mt "steps" "Painter" ⟨1,false,zbS⟩
def d52:zai (Gn T (F51.at "Painter")) false ["self"] (inC 4 (top 54))=some zcO:=by kernel_rfl
theorem s52:FnScope ["self"] ["self"] (zaa (inC 4 (top 54))):=⟨rfl,rfl,rfl,by decide +kernel,rfl,by decide +kernel,by decide +kernel⟩
noncomputable def F53:Fn3:=F52.mt "change_to" "Painter" ⟨2,false,zaq⟩
def d53:zai (Gn T (F52.at "Painter")) false ["self","whole"] (inC 5 (top 54))=some za7:=by kernel_rfl
theorem s53:FnScope ["self","whole"] ["self","whole"] (zaa (inC 5 (top 54))):=⟨rfl,rfl,rfl,by decide +kernel,rfl,by decide +kernel,by decide +kernel⟩
noncomputable def F54:Fn3:=F53.mt "put" "Painter" ⟨3,false,za4⟩
def d54:zai (Gn T (F53.at "Painter")) false ["self","place","number"] (inC 6 (top 54))=some zcy:=by kernel_rfl
theorem s54:FnScope ["self","place","number"] ["self","place","number"] (zaa (inC 6 (top 54))):=⟨rfl,rfl,rfl,by decide +kernel,rfl,by decide +kernel,by decide +kernel⟩
noncomputable def F55:Fn3:=F54.mt "pour" "Painter" ⟨3,false,zaS⟩
def d55:zai (Gn T (F54.at "Painter")) false ["self","place","number"] (inC 7 (top 54))=some zcf:=by kernel_rfl
theorem s55:FnScope ["self","place","number"] ["self","place","number"] (zaa (inC 7 (top 54))):=⟨rfl,rfl,rfl,by decide +kernel,rfl,by decide +kernel,by decide +kernel⟩
noncomputable def F56:Fn3:=F55.mt "force" "Painter" ⟨1,false,zbl⟩
def d56:zai (Gn T (F55.at "Painter")) false ["self"] (inC 8 (top 54))=some zcP:=by kernel_rfl
theorem s56:FnScope ["self"] ["self"] (zaa (inC 8 (top 54))):=⟨rfl,rfl,rfl,by decide +kernel,rfl,by decide +kernel,by decide +kernel⟩
noncomputable def F57:Fn3:=F56.mt "finish" "Painter" ⟨2,false,zaD⟩
def d57:zai (Gn T (F56.at "Painter")) false ["self","whole"] (inC 9 (top 54))=some zbG:=by kernel_rfl
theorem s57:FnScope ["self","whole"] ["self","whole"] (zaa (inC 9 (top 54))):=⟨rfl,rfl,rfl,by decide +kernel,rfl,by decide +kernel,by decide +kernel⟩
noncomputable def F58:Fn3:=F57.mt "undo" "Painter" ⟨1,false,zaH⟩
def d58:zai (Gn T (F57.at "Painter")) false ["self"] (inC 10 (top 54))=some zcd:=by kernel_rfl
theorem s58:FnScope ["self"] ["self"] (zaa (inC 10 (top 54))):=⟨rfl,rfl,rfl,by decide +kernel,rfl,by decide +kernel,by decide +kernel⟩
noncomputable def F59:Fn3:=F58.mt "redo" "Painter" ⟨1,false,zaR⟩
def d59:zai (Gn T (F58.at "Painter")) false ["self"] (inC 11 (top 54))=some zce:=by kernel_rfl
theorem s59:FnScope ["self"] ["self"] (zaa (inC 11 (top 54))):=⟨rfl,rfl,rfl,by decide +kernel,rfl,by decide +kernel,by decide +kernel⟩
noncomputable def F60:Fn3:=F59.fn "_law_cell" ⟨2,false,zb2⟩
def d60:zai (Gn T F59) false ["_law_script","_law_k"] (top 56)=some zcJ:=by kernel_rfl
theorem s60:FnScope ["_law_script","_law_k"] ["_law_script","_law_k"] (zaa (top 56)):=⟨rfl,rfl,rfl,by decide +kernel,rfl,by decide +kernel,by decide +kernel⟩
noncomputable def F61:Fn3:=F60.fn "_law_pick" ⟨3,false,zau⟩
def d61:zai (Gn T F60) false ["_law_script","_law_k","_law_many","_law_drawn"] (top 57)=some zeJ:=by kernel_rfl
theorem s61:FnScope ["_law_script","_law_k","_law_many","_law_drawn"] ["_law_script","_law_k","_law_many"] (zaa (top 57)):=⟨rfl,rfl,rfl,by decide +kernel,rfl,by decide +kernel,by decide +kernel⟩
noncomputable def F62:Fn3:=F61.fn "_law_tiles" ⟨3,false,zcZ⟩
def d62:zai (Gn T F61) false ["_law_script","_law_at","_law_most","_law_colours","_law_made","_law_k","_law_tile"] (top 58)=some zd5:=by kernel_rfl
theorem s62:FnScope ["_law_script","_law_at","_law_most","_law_colours","_law_made","_law_k","_law_tile"] ["_law_script","_law_at","_law_most"] (zaa (top 58)):=⟨rfl,rfl,rfl,by decide +kernel,rfl,by decide +kernel,by decide +kernel⟩
noncomputable def F63:Fn3:=F62.fn "_law_floor" ⟨6,false,zc1⟩
def d63:zai (Gn T F62) false ["_law_script","_law_at","_law_tiles_here","_law_rows","_law_columns","_law_many","_law_made","_law_row","_law_line","_law_column","_law_here"] (top 59)=some zd7:=by kernel_rfl
theorem s63:FnScope ["_law_script","_law_at","_law_tiles_here","_law_rows","_law_columns","_law_many","_law_made","_law_row","_law_line","_law_column","_law_here"] ["_law_script","_law_at","_law_tiles_here","_law_rows","_law_columns","_law_many"] (zaa (top 59)):=⟨rfl,rfl,rfl,by decide +kernel,rfl,by decide +kernel,by decide +kernel⟩
noncomputable def F64:Fn3:=F63.fn "_law_sides" ⟨2,false,zc0⟩
def d64:zai (Gn T F63) false ["_law_script","_law_at"] (top 60)=some zd6:=by kernel_rfl
def s64:FnScope ["_law_script","_law_at"] ["_law_script","_law_at"] (zaa (top 60)):=⟨rfl,rfl,rfl,by decide +kernel,rfl,by decide +kernel,by decide +kernel⟩
noncomputable def F65:Fn3:=F64.fn "_law_fills" ⟨2,false,zcl⟩
def d65:zai (Gn T F64) false ["_law_tiles_here","_law_floor_here","_law_columns","_law_wanted","_law_row","_law_made","_law_at","_law_want","_law_longer","_law_some","_law_number","_law_tile","_law_is_fit"] (top 61)=some zd8:=by kernel_rfl
def s65:FnScope ["_law_tiles_here","_law_floor_here","_law_columns","_law_wanted","_law_row","_law_made","_law_at","_law_want","_law_longer","_law_some","_law_number","_law_tile","_law_is_fit"] ["_law_tiles_here","_law_floor_here"] (zaa (top 61)):=⟨rfl,rfl,rfl,by decide +kernel,rfl,by decide +kernel,by decide +kernel⟩
noncomputable def F66:Fn3:=F65.fn "_law_as_floor" ⟨2,false,zbR⟩
def d66:zai (Gn T F65) false ["_law_numbers","_law_columns"] (top 62)=some zcK:=by kernel_rfl
def s66:FnScope ["_law_numbers","_law_columns"] ["_law_numbers","_law_columns"] (zaa (top 62)):=⟨rfl,rfl,rfl,by decide +kernel,rfl,by decide +kernel,by decide +kernel⟩
noncomputable def F67:Fn3:=F66.fn "_law_word" ⟨1,false,zeC⟩
def d67:zai (Gn T F66) false ["_law_kept","_law_kinds"] (top 63)=some zgs:=by kernel_rfl
def s67:FnScope ["_law_kept","_law_kinds"] ["_law_kept"] (zaa (top 63)):=⟨rfl,rfl,rfl,by decide +kernel,rfl,by decide +kernel,by decide +kernel⟩
noncomputable def F68:Fn3:=F67.fn "_law_do" ⟨5,false,zas⟩
def d68:zai (Gn T F67) false ["_law_painter","_law_way","_law_place","_law_number","_law_whole_here","_law_kept","_law_answer","e"] (top 64)=some zaO:=by kernel_rfl
def s68:FnScope ["_law_painter","_law_way","_law_place","_law_number","_law_whole_here","_law_kept","_law_answer","e"] ["_law_painter","_law_way","_law_place","_law_number","_law_whole_here"] (zaa (top 64)):=⟨rfl,rfl,rfl,by decide +kernel,rfl,by decide +kernel,by decide +kernel⟩
noncomputable def F69:Fn3:=F68.fn "_law_new" ⟨6,false,zav⟩
def d69:zai (Gn T F68) false ["_law_tiles_here","_law_here","_law_way","_law_place","_law_number","_law_whole_here"] (top 65)=some zbM:=by kernel_rfl
def s69:FnScope ["_law_tiles_here","_law_here","_law_way","_law_place","_law_number","_law_whole_here"] ["_law_tiles_here","_law_here","_law_way","_law_place","_law_number","_law_whole_here"] (zaa (top 65)):=⟨rfl,rfl,rfl,by decide +kernel,rfl,by decide +kernel,by decide +kernel⟩
noncomputable def F70:Fn3:=F69.fn "_law_whole" ⟨4,false,zck⟩
def d70:zai (Gn T F69) false ["_law_tiles_here","_law_floor_here","_law_other","_law_cell_here","_law_some"] (top 66)=some zc4:=by kernel_rfl
def s70:FnScope ["_law_tiles_here","_law_floor_here","_law_other","_law_cell_here","_law_some"] ["_law_tiles_here","_law_floor_here","_law_other","_law_cell_here"] (zaa (top 66)):=⟨rfl,rfl,rfl,by decide +kernel,rfl,by decide +kernel,by decide +kernel⟩
def d71:zai (Gn T F70) false ["_law_script","_law_tiles_here","_law_rows","_law_columns","_law_here","_law_painter","_law_past","_law_gone","_law_k","_law_base","_law_way","_law_place","_law_number","_law_whole_here","_law_due","_law_made","_law_again"] (top 67)=some zrA:=by kernel_rfl
def s71:FnScope ["_law_script","_law_tiles_here","_law_rows","_law_columns","_law_here","_law_painter","_law_past","_law_gone","_law_k","_law_base","_law_way","_law_place","_law_number","_law_whole_here","_law_due","_law_made","_law_again"] ["_law_script"] (zaa (top 67)):=⟨rfl,rfl,rfl,by decide +kernel,rfl,by decide +kernel,by decide +kernel⟩
def zpO{L M:List (Str×Addr)}:∀{C:Str},C∈L.map (·.1)->(L++M).lookup C=L.lookup C:=by
 induction L with
 |nil=>intro C h;simp at h|cons p L a=>
  intro C h;rw[ycZ,yaz,yaz]
  cases e:C==p.1 with
  |true=>rfl|false=>
   have:C∈L.map (·.1):=by
    rw[yau,yat]at h
    rcases h with h|h
    ·rw[h]at e;simp at e
    ·exact h
   exact a this
def zea{L M:List (Str×Addr)}(nd:(L.map (·.2)).Nodup){C c:Str}(J:C∈L.map (·.1))(I:c∈L.map (·.1)):((L++M).lookup C).getD 0=((L++M).lookup c).getD 0↔C=c:=by
 rw[zpO J,zpO I];exact zu1 nd J I
def gm{K:PySem.W.Frag}{n x:Str}{st:Stmt}{f:Addr}{I kV J pm cd ct:Value}{od an:Option Addr}{sl:Array (Option Value)}(a:PySem.W.nsIn K mainGlobals n=some (some (.ref f)))(l:K.lookup f=some ⟨I,od,.func (PySem.W.fnOf x x (zbY st) (zby st) (zaa st) .none kV J pm an cd ct),sl⟩)(c:PySem.W.codeIn K cd x=true)(k:PySem.W.keepIn K (.ref f)=true)(i:PySem.W.isFn K (.ref f)=true):GFn K n x st:=⟨f,a,I,od,kV,J,pm,an,cd,ct,sl,l,c,k,i⟩
def mm{K:PySem.W.Frag}{x q:Str}{st:Stmt}{f:Addr}{I kV J pm cd ct:Value}{od an:Option Addr}{sl:Array (Option Value)}{C:Addr}(a:PySem.W.findIn K (.ref C) x=some (some (.ref f)))(l:K.lookup f=some ⟨I,od,.func (PySem.W.fnOf x q (zbY st) (zby st) (zaa st) .none kV J pm an cd ct),sl⟩)(c:PySem.W.codeIn K cd q=true)(k:PySem.W.keepIn K (.ref f)=true)(i:PySem.W.isFn K (.ref f)=true):MFn K C x q st:=⟨f,a,I,od,kV,J,pm,an,cd,ct,sl,l,c,k,i⟩
def all_mk{l:PySem.W.OpenLaw}{w:PySem.World}{K:PySem.W.Frag}{h:Heap}{mg:Z6}{fa ao:Addr}(X:K.In h)(G:h.Ns mainGlobals mg)(bP:mg "law"=some (.ref fa))
  {av ak:Option Addr}{aq:Array (Option Value)}{ax ag ai ae aa aj:Value}
  {J I:Addr}
  (nyWays:PySem.W.nsIn K mainGlobals "Ways"=some (some (.ref J))) (pgWays:PySem.W.plainGet K J Str.empty=true) (hdWays:PySem.W.hasDictIn K J=true) (poWays:PySem.W.plainOver K J=true) (saWays:PySem.W.findIn K (.ref J) "__setattr__"=some (some (.builtin "object.__setattr__"))) (mkWays:PySem.W.makesIn K J=true) (kpWays:PySem.W.keepIn K (.ref J)=true)
  (naWaystiles:PySem.W.findIn K (.ref J) "tiles"=some none)
  (naWaysground:PySem.W.findIn K (.ref J) "ground"=some none)
  (naWayssize:PySem.W.findIn K (.ref J) "size"=some none)
  (naWaysis_round:PySem.W.findIn K (.ref J) "is_round"=some none)
  (naWaysknown:PySem.W.findIn K (.ref J) "known"=some none)
  (nyPainter:PySem.W.nsIn K mainGlobals "Painter"=some (some (.ref I))) (pgPainter:PySem.W.plainGet K I Str.empty=true) (hdPainter:PySem.W.hasDictIn K I=true) (poPainter:PySem.W.plainOver K I=true) (saPainter:PySem.W.findIn K (.ref I) "__setattr__"=some (some (.builtin "object.__setattr__"))) (mkPainter:PySem.W.makesIn K I=true) (kpPainter:PySem.W.keepIn K (.ref I)=true)
  (naPaintertiles:PySem.W.findIn K (.ref I) "tiles"=some none)
  (naPainternow:PySem.W.findIn K (.ref I) "now"=some none)
  (naPainterbefore:PySem.W.findIn K (.ref I) "before"=some none)
  (naPainterafter:PySem.W.findIn K (.ref I) "after"=some none)
  {a7:Addr}{aw ab:Option Addr}{au:Array (Option Value)}{ay a6 a8 a5 a4 a9:Value}
  {a3:Addr}{aF:Value}{aE:Option Addr}{ah:Nat}{aD:Array (Option Value)}
  (a24:PySem.W.findIn K (.ref J) "__init__"=some (some (.ref a7))) (i24:PySem.W.isFn K (.ref a7)=true)
  (l24:K.lookup a7=some ⟨ay,aw,.func (PySem.W.fnOf "__init__" "Ways.__init__" (zbY (inC 0 (top 39))) (zby (inC 0 (top 39))) (zaa (inC 0 (top 39))) (.ref a3) a6 a8 a5 ab a4 a9),au⟩) (c24:PySem.W.codeIn K a4 "Ways.__init__"=true) (k24:PySem.W.keepIn K (.ref a7)=true)
  (dk24:K.lookup a3=some ⟨aF,aE,.seq #[Value.bool false] ah,aD⟩)
  (a71:PySem.W.nsIn K mainGlobals "law"=some (some (.ref ao)))
  (l71:K.lookup ao=some ⟨ax,av,.func (PySem.W.fnOf "law" "law" (zbY (top 67)) (zby (top 67)) (zaa (top 67)) .none ag ai ae ak aa aj),aq⟩) (c71:PySem.W.codeIn K aa "law"=true) (k71:PySem.W.keepIn K (.ref ao)=true)
  (z1:PySem.W.nsIn K mainGlobals "isinstance"=some none)
  (z2:PySem.W.nsIn K mainGlobals "int"=some none)
  (z3:PySem.W.nsIn K mainGlobals "bool"=some none)
  (z4:PySem.W.nsIn K mainGlobals "tuple"=some none)
  (z5:PySem.W.nsIn K mainGlobals "list"=some none)
  (z6:PySem.W.nsIn K mainGlobals "str"=some none)
  (z7:PySem.W.nsIn K mainGlobals "len"=some none)
  (z8:PySem.W.nsIn K mainGlobals "range"=some none)
  (z9:PySem.W.nsIn K mainGlobals "all"=some none)
  (z10:PySem.W.nsIn K mainGlobals "sum"=some none)
  (z11:PySem.W.nsIn K mainGlobals "enumerate"=some none)
  (z12:PySem.W.nsIn K mainGlobals "zip"=some none)
  (z13:PySem.W.nsIn K mainGlobals "sorted"=some none)
  (z14:PySem.W.nsIn K mainGlobals "ValueError"=some none)
  {gt1:Tok} (gl1:PySem.W.nsIn K mainGlobals "NORTH"=some (some (.int 0 gt1)))
  {gt2:Tok} (gl2:PySem.W.nsIn K mainGlobals "EAST"=some (some (.int 1 gt2)))
  {gt3:Tok} (gl3:PySem.W.nsIn K mainGlobals "SOUTH"=some (some (.int 2 gt3)))
  {bQ:Tok} (gl4:PySem.W.nsIn K mainGlobals "WEST"=some (some (.int 3 bQ)))
  {e0 e1 e2 U e4 e5 e6:Addr}
  (n0:PySem.W.nsIn K mainGlobals "FloorError"=some (some (.ref e0))) (x0:PySem.W.excIn K e0 bmV "ValueError.__new__"=true)
  (n1:PySem.W.nsIn K mainGlobals "NoPlace"=some (some (.ref e1))) (x1:PySem.W.excIn K e1 bmV "ValueError.__new__"=true)
  (n2:PySem.W.nsIn K mainGlobals "NoTile"=some (some (.ref e2))) (x2:PySem.W.excIn K e2 bmV "ValueError.__new__"=true)
  (n3:PySem.W.nsIn K mainGlobals "NoFill"=some (some (.ref U))) (x3:PySem.W.excIn K U bmV "ValueError.__new__"=true)
  (n4:PySem.W.nsIn K mainGlobals "Unlike"=some (some (.ref e4))) (x4:PySem.W.excIn K e4 bmV "ValueError.__new__"=true)
  (n5:PySem.W.nsIn K mainGlobals "Nothing"=some (some (.ref e5))) (x5:PySem.W.excIn K e5 bmV "ValueError.__new__"=true)
  (n6:PySem.W.nsIn K mainGlobals "NoText"=some (some (.ref e6))) (x6:PySem.W.excIn K e6 bmV "ValueError.__new__"=true)
  {cL:Value}{cP:Option Addr}{aC:ClassData}{cH:Array (Option Value)} (lk1:K.lookup e1=some ⟨cL,cP,.cls aC,cH⟩) (mr1:aC.mro=.ref e1::.ref e0::bmV)
  (ga1:PySem.W.findIn K (.ref e1) "__getattribute__"=some (some (.builtin "BaseException.__getattribute__"))) (gt1:PySem.W.findIn K (.ref e1) "__getattr__"=some none) (cc1:PySem.W.findIn K (.ref e1) "__class__"=some (some (.builtin "object.__class__")))
  {cK:Value}{cO:Option Addr}{aB:ClassData}{cG:Array (Option Value)} (lk2:K.lookup e2=some ⟨cK,cO,.cls aB,cG⟩) (mr2:aB.mro=.ref e2::.ref e0::bmV)
  (ga2:PySem.W.findIn K (.ref e2) "__getattribute__"=some (some (.builtin "BaseException.__getattribute__"))) (gt2:PySem.W.findIn K (.ref e2) "__getattr__"=some none) (cc2:PySem.W.findIn K (.ref e2) "__class__"=some (some (.builtin "object.__class__")))
  {cJ:Value}{cN:Option Addr}{aA:ClassData}{cF:Array (Option Value)} (lk3:K.lookup U=some ⟨cJ,cN,.cls aA,cF⟩) (mr3:aA.mro=.ref U::.ref e0::bmV)
  (ga3:PySem.W.findIn K (.ref U) "__getattribute__"=some (some (.builtin "BaseException.__getattribute__"))) (gt3:PySem.W.findIn K (.ref U) "__getattr__"=some none) (cc3:PySem.W.findIn K (.ref U) "__class__"=some (some (.builtin "object.__class__")))
  {cI:Value}{cM:Option Addr}{az:ClassData}{cE:Array (Option Value)} (lk5:K.lookup e5=some ⟨cI,cM,.cls az,cE⟩) (mr5:az.mro=.ref e5::.ref e0::bmV)
  (ga5:PySem.W.findIn K (.ref e5) "__getattribute__"=some (some (.builtin "BaseException.__getattribute__"))) (gt5:PySem.W.findIn K (.ref e5) "__getattr__"=some none) (cc5:PySem.W.findIn K (.ref e5) "__class__"=some (some (.builtin "object.__class__")))
  (nd:[e0,e1,e2,U,e4,e5,e6].Nodup)
  (p1:GFn K "is_whole" "is_whole" (top 14)) (p2:GFn K "is_tuple_of" "is_tuple_of" (top 15)) (p3:GFn K "has_number" "has_number" (top 16)) (p4:GFn K "may_lie" "may_lie" (top 17)) (p5:GFn K "size_of" "size_of" (top 18)) (p6:GFn K "places_of" "places_of" (top 19)) (p7:GFn K "is_row_like" "is_row_like" (top 20)) (p8:GFn K "is_like" "is_like" (top 21)) (p9:GFn K "in_rows" "in_rows" (top 22)) (bO:GFn K "number_at" "number_at" (top 23)) (bN:GFn K "laid_places" "laid_places" (top 24)) (bM:GFn K "has_tiles_of" "has_tiles_of" (top 25)) (bL:GFn K "has_place" "has_place" (top 26)) (bK:GFn K "refuse_outside" "refuse_outside" (top 27)) (bJ:GFn K "with_number" "with_number" (top 28)) (bI:GFn K "with_tile" "with_tile" (top 29)) (bH:GFn K "edge_at" "edge_at" (top 30)) (bG:GFn K "colours_east" "colours_east" (top 31)) (bF:GFn K "colours_south" "colours_south" (top 32)) (bE:GFn K "do_clash" "do_clash" (top 33)) (bD:GFn K "clashes_floors" "clashes" (top 34)) (bC:GFn K "is_right" "is_right" (top 36)) (bB:GFn K "suits" "suits" (top 38)) (bA:MFn K J "first_seam" "Ways.first_seam" (inC 1 (top 39))) (bz:MFn K J "ends_row" "Ways.ends_row" (inC 2 (top 39))) (bx:MFn K J "colour_round" "Ways.colour_round" (inC 3 (top 39))) (bw:MFn K J "seam_behind" "Ways.seam_behind" (inC 4 (top 39))) (bu:MFn K J "numbers_for" "Ways.numbers_for" (inC 5 (top 39))) (bt:MFn K J "fits_round" "Ways.fits_round" (inC 6 (top 39))) (br:MFn K J "fits" "Ways.fits" (inC 7 (top 39))) (bq:MFn K J "choices" "Ways.choices" (inC 8 (top 39))) (bp:MFn K J "count_from" "Ways.count_from" (inC 9 (top 39))) (bo:MFn K J "count_all" "Ways.count_all" (inC 10 (top 39))) (bj:MFn K J "numbers_by" "Ways.numbers_by" (inC 11 (top 39))) (bh:MFn K J "whole_by" "Ways.whole_by" (inC 12 (top 39))) (bg:GFn K "count_fills" "count_fills" (top 40)) (bc:GFn K "is_fill" "is_fill" (top 41)) (bb:GFn K "fill" "fill" (top 42)) (ba:GFn K "has_fill" "has_fill" (top 44)) (b9:GFn K "bare_places" "bare_places" (top 45)) (b8:GFn K "forced" "forced" (top 46)) (b7:GFn K "with_forced" "with_forced" (top 47)) (b6:GFn K "neighbours" "neighbours" (top 49)) (b5:GFn K "alike_beside" "alike_beside" (top 50)) (b4:GFn K "area" "area" (top 51)) (b3:GFn K "poured" "poured" (top 52)) (b2:MFn K I "__init__" "Painter.__init__" (inC 0 (top 54))) (b1:MFn K I "floor" "Painter.floor" (inC 1 (top 54))) (b0:MFn K I "clashes" "Painter.clashes" (inC 2 (top 54))) (aZ:MFn K I "can_be_filled" "Painter.can_be_filled" (inC 3 (top 54))) (aY:MFn K I "steps" "Painter.steps" (inC 4 (top 54))) (aX:MFn K I "change_to" "Painter.change_to" (inC 5 (top 54))) (aW:MFn K I "put" "Painter.put" (inC 6 (top 54))) (aV:MFn K I "pour" "Painter.pour" (inC 7 (top 54))) (aU:MFn K I "force" "Painter.force" (inC 8 (top 54))) (aT:MFn K I "finish" "Painter.finish" (inC 9 (top 54))) (aS:MFn K I "undo" "Painter.undo" (inC 10 (top 54))) (aR:MFn K I "redo" "Painter.redo" (inC 11 (top 54))) (aQ:GFn K "_law_cell" "_law_cell" (top 56)) (aP:GFn K "_law_pick" "_law_pick" (top 57)) (aO:GFn K "_law_tiles" "_law_tiles" (top 58)) (aN:GFn K "_law_floor" "_law_floor" (top 59)) (aM:GFn K "_law_sides" "_law_sides" (top 60)) (aL:GFn K "_law_fills" "_law_fills" (top 61)) (aK:GFn K "_law_as_floor" "_law_as_floor" (top 62)) (aJ:GFn K "_law_word" "_law_word" (top 63)) (aI:GFn K "_law_do" "_law_do" (top 64)) (aH:GFn K "_law_new" "_law_new" (top 65)) (aG:GFn K "_law_whole" "_law_whole" (top 66))
  : ∃fd:FuncData,(∀(s:Shared) (v:Value),BindsTo s fd ⟨[v],[]⟩ [("_law_script",v)])/\∀base:Heap,K.In base->base.Ns mainGlobals mg->FnOk l.prog w K mg base (CXE l.prog w) 112 fa fd ["_law_script"] (S2.zns K):=by
 have e:=bP.symm.trans (ybc X G a71);cases e;have b:Cls K J:=⟨pgWays,hdWays,poWays,saWays⟩;have a:Cls K I:=⟨pgPainter,hdPainter,poPainter,saPainter⟩;have cS:FunD K "__init__" "Ways.__init__" (inC 0 (top 39)) a7 _ #[Value.bool false]:=⟨⟨_,_,_,_,ah,_,_,_,_,_,_,_,rfl,l24,c24,dk24,rfl⟩⟩;have cQ:zcW K (PySem.W.fnOf "__init__" "Ways.__init__" (zbY (inC 0 (top 39))) (zby (inC 0 (top 39))) (zaa (inC 0 (top 39))) (.ref a3) a6 a8 a5 ab a4 a9) ["self","tiles","floor","is_round"] []:=fun s us KX i=>bb4 (p:=fun us=>BindsTo s _ ⟨us,[]⟩ ((["self","tiles","floor","is_round"]:List Str).zip (us++[]))) (fun _ _ _ _=>PySem.W.binds_K KX rfl dk24 rfl rfl rfl) us (by simpa using i)
 have g:zcW K (PySem.W.fnOf "__init__" "Ways.__init__" (zbY (inC 0 (top 39))) (zby (inC 0 (top 39))) (zaa (inC 0 (top 39))) (.ref a3) a6 a8 a5 ab a4 a9) ["self","tiles","floor","is_round"] [Value.bool false]:=fun s us KX i=>bb3 (p:=fun us=>BindsTo s _ ⟨us,[]⟩ ((["self","tiles","floor","is_round"]:List Str).zip (us++[Value.bool false]))) (fun _ _ _=>PySem.W.binds_K KX rfl dk24 rfl rfl rfl) us (by simpa using i)
 have cR:=zpz (st:=(top 67)) l71 c71 k71;refine⟨PySem.W.fnOf "law" "law" (zbY (top 67)) (zby (top 67)) (zaa (top 67)) .none ag ai ae ak aa aj,fun s v=>.of_eq rfl,fun base _ _=>?_⟩
 let cl:Cf:=⟨fun x=>(([("FloorError",e0),("NoPlace",e1),("NoTile",e2),("NoFill",U),("Unlike",e4),("Nothing",e5),("NoText",e6),("Ways",J),("Painter",I)]:List (Str×Addr)).lookup x).getD 0,K,l.prog,w⟩
 have g0:GOk cl (Gn T F0) l.prog w K mg base 0:=zz5 (cl:=cl) (zae ⟨.int 0,_,ybc X G gl1,⟨_,rfl⟩,fun _=>.int _⟩ (zae ⟨.int 1,_,ybc X G gl2,⟨_,rfl⟩,fun _=>.int _⟩ (zae ⟨.int 2,_,ybc X G gl3,⟨_,rfl⟩,fun _=>.int _⟩ (zae ⟨.int 3,_,ybc X G gl4,⟨_,rfl⟩,fun _=>.int _⟩ zey)))) (zae (yaN X G z1) (zae (yaN X G z2) (zae (yaN X G z3) (zae (yaN X G z4) (zae (yaN X G z5) (zae (yaN X G z6) (zae (yaN X G z7) (zae (yaN X G z8) (zae (yaN X G z9) (zae (yaN X G z10) (zae (yaN X G z11) (zae (yaN X G z12) (zae (yaN X G z13) (zae (yaN X G z14) zey)))))))))))))) (zae ⟨ybc X G n0,x0⟩ (zae ⟨ybc X G n1,x1⟩ (zae ⟨ybc X G n2,x2⟩ (zae ⟨ybc X G n3,x3⟩ (zae ⟨ybc X G n4,x4⟩ (zae ⟨ybc X G n5,x5⟩ (zae ⟨ybc X G n6,x6⟩ zey))))))) (zae ⟨⟨_,_,x1⟩,_,_,_,_,lk1,zhl mr1⟩ (zae ⟨⟨_,_,x2⟩,_,_,_,_,lk2,zhl mr2⟩ (zae ⟨⟨_,_,x3⟩,_,_,_,_,lk3,zhl mr3⟩ (zae ⟨⟨_,_,x5⟩,_,_,_,_,lk5,zhl mr5⟩ zey)))) (zae (zjU (K:=K) (c:="NoPlace") (cl:=cl) lk1 mr1 rfl ga1 gt1 cc1 (zae x0 (zae x1 (zae x2 (zae x3 (zae x4 (zae x5 (zae x6 zey))))))) (fun C d=>⟨zea (L:=[("FloorError",e0),("NoPlace",e1),("NoTile",e2),("NoFill",U),("Unlike",e4),("Nothing",e5),("NoText",e6)]) (M:=[("Ways",J),("Painter",I)]) (c:="NoPlace") nd d (by simp),zea (L:=[("FloorError",e0),("NoPlace",e1),("NoTile",e2),("NoFill",U),("Unlike",e4),("Nothing",e5),("NoText",e6)]) (M:=[("Ways",J),("Painter",I)]) (c:="FloorError") nd d (by simp)⟩)) (zae (zjU (K:=K) (c:="NoTile") (cl:=cl) lk2 mr2 rfl ga2 gt2 cc2 (zae x0 (zae x1 (zae x2 (zae x3 (zae x4 (zae x5 (zae x6 zey))))))) (fun C d=>⟨zea (L:=[("FloorError",e0),("NoPlace",e1),("NoTile",e2),("NoFill",U),("Unlike",e4),("Nothing",e5),("NoText",e6)]) (M:=[("Ways",J),("Painter",I)]) (c:="NoTile") nd d (by simp),zea (L:=[("FloorError",e0),("NoPlace",e1),("NoTile",e2),("NoFill",U),("Unlike",e4),("Nothing",e5),("NoText",e6)]) (M:=[("Ways",J),("Painter",I)]) (c:="FloorError") nd d (by simp)⟩)) (zae (zjU (K:=K) (c:="NoFill") (cl:=cl) lk3 mr3 rfl ga3 gt3 cc3 (zae x0 (zae x1 (zae x2 (zae x3 (zae x4 (zae x5 (zae x6 zey))))))) (fun C d=>⟨zea (L:=[("FloorError",e0),("NoPlace",e1),("NoTile",e2),("NoFill",U),("Unlike",e4),("Nothing",e5),("NoText",e6)]) (M:=[("Ways",J),("Painter",I)]) (c:="NoFill") nd d (by simp),zea (L:=[("FloorError",e0),("NoPlace",e1),("NoTile",e2),("NoFill",U),("Unlike",e4),("Nothing",e5),("NoText",e6)]) (M:=[("Ways",J),("Painter",I)]) (c:="FloorError") nd d (by simp)⟩)) (zae (zjU (K:=K) (c:="Nothing") (cl:=cl) lk5 mr5 rfl ga5 gt5 cc5 (zae x0 (zae x1 (zae x2 (zae x3 (zae x4 (zae x5 (zae x6 zey))))))) (fun C d=>⟨zea (L:=[("FloorError",e0),("NoPlace",e1),("NoTile",e2),("NoFill",U),("Unlike",e4),("Nothing",e5),("NoText",e6)]) (M:=[("Ways",J),("Painter",I)]) (c:="Nothing") nd d (by simp),zea (L:=[("FloorError",e0),("NoPlace",e1),("NoTile",e2),("NoFill",U),("Unlike",e4),("Nothing",e5),("NoText",e6)]) (M:=[("Ways",J),("Painter",I)]) (c:="FloorError") nd d (by simp)⟩)) zey)))) (zae ⟨b,naWaystiles⟩ (zae ⟨b,naWaysground⟩ (zae ⟨b,naWayssize⟩ (zae ⟨b,naWaysis_round⟩ (zae ⟨b,naWaysknown⟩ (zae ⟨a,naPaintertiles⟩ (zae ⟨a,naPainternow⟩ (zae ⟨a,naPainterbefore⟩ (zae ⟨a,naPainterafter⟩ zey)))))))));have g1:GOk cl (Gn T F1) l.prog w K mg base 1:=g0.addG X G p1 s1 rfl rfl rfl (fun _ _ _ _ _ _=>bb1 fun _=>rfl) d1;have g2:GOk cl (Gn T F2) l.prog w K mg base 2:=g1.addG X G p2 s2 rfl rfl rfl (fun _ _ _ _ _ _=>bb3 fun _ _ _=>rfl) d2;have g3:GOk cl (Gn T F3) l.prog w K mg base 3:=g2.addG X G p3 s3 rfl rfl rfl (fun _ _ _ _ _ _=>bb2 fun _ _=>rfl) d3;have g4:GOk cl (Gn T F4) l.prog w K mg base 4:=g3.addG X G p4 s4 rfl rfl rfl (fun _ _ _ _ _ _=>bb2 fun _ _=>rfl) d4;have g5:GOk cl (Gn T F5) l.prog w K mg base 5:=g4.addG X G p5 s5 rfl rfl rfl (fun _ _ _ _ _ _=>bb1 fun _=>rfl) d5;have g6:GOk cl (Gn T F6) l.prog w K mg base 6:=g5.addG X G p6 s6 rfl rfl rfl (fun _ _ _ _ _ _=>bb1 fun _=>rfl) d6;have g7:GOk cl (Gn T F7) l.prog w K mg base 7:=g6.addG X G p7 s7 rfl rfl rfl (fun _ _ _ _ _ _=>bb2 fun _ _=>rfl) d7;have g8:GOk cl (Gn T F8) l.prog w K mg base 8:=g7.addG X G p8 s8 rfl rfl rfl (fun _ _ _ _ _ _=>bb2 fun _ _=>rfl) d8;have g9:GOk cl (Gn T F9) l.prog w K mg base 9:=g8.addG X G p9 s9 rfl rfl rfl (fun _ _ _ _ _ _=>bb2 fun _ _=>rfl) d9;have cD:GOk cl (Gn T F10) l.prog w K mg base 10:=g9.addG X G bO s10 rfl rfl rfl (fun _ _ _ _ _ _=>bb2 fun _ _=>rfl) d10;have cC:GOk cl (Gn T F11) l.prog w K mg base 11:=cD.addG X G bN s11 rfl rfl rfl (fun _ _ _ _ _ _=>bb1 fun _=>rfl) d11;have cB:GOk cl (Gn T F12) l.prog w K mg base 12:=cC.addG X G bM s12 rfl rfl rfl (fun _ _ _ _ _ _=>bb2 fun _ _=>rfl) d12;have cA:GOk cl (Gn T F13) l.prog w K mg base 13:=cB.addG X G bL s13 rfl rfl rfl (fun _ _ _ _ _ _=>bb2 fun _ _=>rfl) d13;have cz:GOk cl (Gn T F14) l.prog w K mg base 14:=cA.addG X G bK s14 rfl rfl rfl (fun _ _ _ _ _ _=>bb2 fun _ _=>rfl) d14;have cy:GOk cl (Gn T F15) l.prog w K mg base 15:=cz.addG X G bJ s15 rfl rfl rfl (fun _ _ _ _ _ _=>bb3 fun _ _ _=>rfl) d15;have cx:GOk cl (Gn T F16) l.prog w K mg base 16:=cy.addG X G bI s16 rfl rfl rfl (fun _ _ _ _ _ _=>bb4 fun _ _ _ _=>rfl) d16;have cw:GOk cl (Gn T F17) l.prog w K mg base 17:=cx.addG X G bH s17 rfl rfl rfl (fun _ _ _ _ _ _=>bb4 fun _ _ _ _=>rfl) d17;have cv:GOk cl (Gn T F18) l.prog w K mg base 18:=cw.addG X G bG s18 rfl rfl rfl (fun _ _ _ _ _ _=>bb3 fun _ _ _=>rfl) d18;have cu:GOk cl (Gn T F19) l.prog w K mg base 19:=cv.addG X G bF s19 rfl rfl rfl (fun _ _ _ _ _ _=>bb3 fun _ _ _=>rfl) d19;have cq:GOk cl (Gn T F20) l.prog w K mg base 20:=cu.addG X G bE s20 rfl rfl rfl (fun _ _ _ _ _ _=>bb1 fun _=>rfl) d20;have cm:GOk cl (Gn T F21) l.prog w K mg base 21:=cq.addG X G bD s21 rfl rfl rfl (fun _ _ _ _ _ _=>bb2 fun _ _=>rfl) d21;have ck:GOk cl (Gn T F22) l.prog w K mg base 22:=cm.addG X G bC s22 rfl rfl rfl (fun _ _ _ _ _ _=>bb2 fun _ _=>rfl) d22;have f:GOk cl (Gn T F23) l.prog w K mg base 23:=ck.addG X G bB s23 rfl rfl rfl (fun _ _ _ _ _ _=>bb2 fun _ _=>rfl) d23;have cU:=zuE (cl:=cl) (wo:=w) (P:=l.prog) cS s24 (f.at "Ways") rfl rfl rfl d24;have cj:GOk cl (Gn T F24) l.prog w K mg base 25:=GOk.addK (k':=24) (fi:=⟨4,false,za0⟩) (dvs:=[.bl false]) (f.up (by decide)) (by decide) (ybc X G nyWays) ⟨mkWays,a24,i24,kpWays⟩ cQ g (.cons rfl .nil) (fun _=>(.cons (.bl _) .nil)) cU;have cg:GOk cl (Gn T F25) l.prog w K mg base 26:=cj.addMG (c:="Ways") b bA s25 rfl rfl rfl (fun _ _ _ _ _ _=>bb1 fun _=>rfl) d25;have cf:GOk cl (Gn T F26) l.prog w K mg base 27:=cg.addMG (c:="Ways") b bz s26 rfl rfl rfl (fun _ _ _ _ _ _=>bb2 fun _ _=>rfl) d26;have cc:GOk cl (Gn T F27) l.prog w K mg base 28:=cf.addMG (c:="Ways") b bx s27 rfl rfl rfl (fun _ _ _ _ _ _=>bb4 fun _ _ _ _=>rfl) d27;have cb:GOk cl (Gn T F28) l.prog w K mg base 29:=cc.addMG (c:="Ways") b bw s28 rfl rfl rfl (fun _ _ _ _ _ _=>bb4 fun _ _ _ _=>rfl) d28;have c9:GOk cl (Gn T F29) l.prog w K mg base 30:=cb.addMG (c:="Ways") b bu s29 rfl rfl rfl (fun _ _ _ _ _ _=>bb2 fun _ _=>rfl) d29;have c8:GOk cl (Gn T F30) l.prog w K mg base 31:=c9.addMG (c:="Ways") b bt s30 rfl rfl rfl (fun _ _ _ _ _ _=>bb4 fun _ _ _ _=>rfl) d30;have c7:GOk cl (Gn T F31) l.prog w K mg base 32:=c8.addMG (c:="Ways") b br s31 rfl rfl rfl (fun _ _ _ _ _ _=>bb4 fun _ _ _ _=>rfl) d31;have c5:GOk cl (Gn T F32) l.prog w K mg base 33:=c7.addMG (c:="Ways") b bq s32 rfl rfl rfl (fun _ _ _ _ _ _=>bb3 fun _ _ _=>rfl) d32;have c4:GOk cl (Gn T F33) l.prog w K mg base 73:=c5.addRG (c:="Ways") b bp s33 rfl rfl rfl (fun _ _ _ _ _ _=>bb3 fun _ _ _=>rfl) d33 40;have c3:GOk cl (Gn T F34) l.prog w K mg base 74:=c4.addMG (c:="Ways") b bo s34 rfl rfl rfl (fun _ _ _ _ _ _=>bb1 fun _=>rfl) d34;have c2:GOk cl (Gn T F35) l.prog w K mg base 75:=c3.addMG (c:="Ways") b bj s35 rfl rfl rfl (fun _ _ _ _ _ _=>bb2 fun _ _=>rfl) d35;have c0:GOk cl (Gn T F36) l.prog w K mg base 76:=c2.addMG (c:="Ways") b bh s36 rfl rfl rfl (fun _ _ _ _ _ _=>bb2 fun _ _=>rfl) d36;have bZ:GOk cl (Gn T F37) l.prog w K mg base 77:=c0.addG X G bg s37 rfl rfl rfl (fun _ _ _ _ _ _=>bb2 fun _ _=>rfl) d37;have bY:GOk cl (Gn T F38) l.prog w K mg base 78:=bZ.addG X G bc s38 rfl rfl rfl (fun _ _ _ _ _ _=>bb3 fun _ _ _=>rfl) d38;have bX:GOk cl (Gn T F39) l.prog w K mg base 79:=bY.addG X G bb s39 rfl rfl rfl (fun _ _ _ _ _ _=>bb3 fun _ _ _=>rfl) d39;have bW:GOk cl (Gn T F40) l.prog w K mg base 80:=bX.addG X G ba s40 rfl rfl rfl (fun _ _ _ _ _ _=>bb2 fun _ _=>rfl) d40;have bV:GOk cl (Gn T F41) l.prog w K mg base 81:=bW.addG X G b9 s41 rfl rfl rfl (fun _ _ _ _ _ _=>bb1 fun _=>rfl) d41;have bU:GOk cl (Gn T F42) l.prog w K mg base 82:=bV.addG X G b8 s42 rfl rfl rfl (fun _ _ _ _ _ _=>bb2 fun _ _=>rfl) d42;have bT:GOk cl (Gn T F43) l.prog w K mg base 83:=bU.addG X G b7 s43 rfl rfl rfl (fun _ _ _ _ _ _=>bb2 fun _ _=>rfl) d43;have bS:GOk cl (Gn T F44) l.prog w K mg base 84:=bT.addG X G b6 s44 rfl rfl rfl (fun _ _ _ _ _ _=>bb1 fun _=>rfl) d44;have bR:GOk cl (Gn T F45) l.prog w K mg base 85:=bS.addG X G b5 s45 rfl rfl rfl (fun _ _ _ _ _ _=>bb2 fun _ _=>rfl) d45;have Z:GOk cl (Gn T F46) l.prog w K mg base 86:=bR.addG X G b4 s46 rfl rfl rfl (fun _ _ _ _ _ _=>bb2 fun _ _=>rfl) d46;have Y:GOk cl (Gn T F47) l.prog w K mg base 87:=Z.addG X G b3 s47 rfl rfl rfl (fun _ _ _ _ _ _=>bb4 fun _ _ _ _=>rfl) d47;have V:GOk cl (Gn T F48) l.prog w K mg base 89:=Y.addKG (c:="Painter") X G nyPainter mkPainter kpPainter b2 s48 rfl rfl rfl (fun _ _ _ _ _ _=>bb3 fun _ _ _=>rfl) d48;have S:GOk cl (Gn T F49) l.prog w K mg base 90:=V.addMG (c:="Painter") a b1 s49 rfl rfl rfl (fun _ _ _ _ _ _=>bb1 fun _=>rfl) d49;have R:GOk cl (Gn T F50) l.prog w K mg base 91:=S.addMG (c:="Painter") a b0 s50 rfl rfl rfl (fun _ _ _ _ _ _=>bb1 fun _=>rfl) d50;have Q:GOk cl (Gn T F51) l.prog w K mg base 92:=R.addMG (c:="Painter") a aZ s51 rfl rfl rfl (fun _ _ _ _ _ _=>bb1 fun _=>rfl) d51;have O:GOk cl (Gn T F52) l.prog w K mg base 93:=Q.addMG (c:="Painter") a aY s52 rfl rfl rfl (fun _ _ _ _ _ _=>bb1 fun _=>rfl) d52;have N:GOk cl (Gn T F53) l.prog w K mg base 94:=O.addMG (c:="Painter") a aX s53 rfl rfl rfl (fun _ _ _ _ _ _=>bb2 fun _ _=>rfl) d53;have H:GOk cl (Gn T F54) l.prog w K mg base 95:=N.addMG (c:="Painter") a aW s54 rfl rfl rfl (fun _ _ _ _ _ _=>bb3 fun _ _ _=>rfl) d54;have F:GOk cl (Gn T F55) l.prog w K mg base 96:=H.addMG (c:="Painter") a aV s55 rfl rfl rfl (fun _ _ _ _ _ _=>bb3 fun _ _ _=>rfl) d55;have E:GOk cl (Gn T F56) l.prog w K mg base 97:=F.addMG (c:="Painter") a aU s56 rfl rfl rfl (fun _ _ _ _ _ _=>bb1 fun _=>rfl) d56;have D:GOk cl (Gn T F57) l.prog w K mg base 98:=E.addMG (c:="Painter") a aT s57 rfl rfl rfl (fun _ _ _ _ _ _=>bb2 fun _ _=>rfl) d57;have B:GOk cl (Gn T F58) l.prog w K mg base 99:=D.addMG (c:="Painter") a aS s58 rfl rfl rfl (fun _ _ _ _ _ _=>bb1 fun _=>rfl) d58;have A:GOk cl (Gn T F59) l.prog w K mg base 100:=B.addMG (c:="Painter") a aR s59 rfl rfl rfl (fun _ _ _ _ _ _=>bb1 fun _=>rfl) d59;have z:GOk cl (Gn T F60) l.prog w K mg base 101:=A.addG X G aQ s60 rfl rfl rfl (fun _ _ _ _ _ _=>bb2 fun _ _=>rfl) d60;have y:GOk cl (Gn T F61) l.prog w K mg base 102:=z.addG X G aP s61 rfl rfl rfl (fun _ _ _ _ _ _=>bb3 fun _ _ _=>rfl) d61;have u:GOk cl (Gn T F62) l.prog w K mg base 103:=y.addG X G aO s62 rfl rfl rfl (fun _ _ _ _ _ _=>bb3 fun _ _ _=>rfl) d62;have t:GOk cl (Gn T F63) l.prog w K mg base 104:=u.addG X G aN s63 rfl rfl rfl (fun _ _ _ _ _ _=>bb6 fun _ _ _ _ _ _=>rfl) d63;have r:GOk cl (Gn T F64) l.prog w K mg base 105:=t.addG X G aM s64 rfl rfl rfl (fun _ _ _ _ _ _=>bb2 fun _ _=>rfl) d64;have q:GOk cl (Gn T F65) l.prog w K mg base 106:=r.addG X G aL s65 rfl rfl rfl (fun _ _ _ _ _ _=>bb2 fun _ _=>rfl) d65;have o:GOk cl (Gn T F66) l.prog w K mg base 107:=q.addG X G aK s66 rfl rfl rfl (fun _ _ _ _ _ _=>bb2 fun _ _=>rfl) d66;have n:GOk cl (Gn T F67) l.prog w K mg base 108:=o.addG X G aJ s67 rfl rfl rfl (fun _ _ _ _ _ _=>bb1 fun _=>rfl) d67;have m:GOk cl (Gn T F68) l.prog w K mg base 109:=n.addG X G aI s68 rfl rfl rfl (fun _ _ _ _ _ _=>bb5 fun _ _ _ _ _=>rfl) d68;have k:GOk cl (Gn T F69) l.prog w K mg base 110:=m.addG X G aH s69 rfl rfl rfl (fun _ _ _ _ _ _=>bb6 fun _ _ _ _ _ _=>rfl) d69;have j:GOk cl (Gn T F70) l.prog w K mg base 111:=k.addG X G aG s70 rfl rfl rfl (fun _ _ _ _ _ _=>bb4 fun _ _ _ _=>rfl) d70;have cT:=zmL (cl:=cl) (wo:=w) (P:=l.prog) cR s71 j rfl rfl rfl d71;exact cT.imp (zuc (cl:=cl) zox)
def walk{l:PySem.W.OpenLaw}{q:Program}{loose:List Str}{XP:(Str->Option Value)->Heap->Prop}{J:PySem.World->Heap->Prop}{d:DefRec}{K:Params->PySem.W.Frag}(U:l.most=some 63)(I:d.params.defaults=[])
  (hY:∀(w:PySem.World) (h:Heap),J w h->(K w.params).In h)
  (F:∀(w:PySem.World) (mg:Z6) (fa:Addr) (h:Heap),(K w.params).In h->h.Ns mainGlobals mg->mg d.name=some (.ref fa) →
   ∃fd:FuncData,(∀(s:Shared) (u:Value),BindsTo s fd ⟨[u],[]⟩ [("_law_script",u)])/\∀base:Heap,(K w.params).In base->base.Ns mainGlobals mg->FnOk l.prog w (K w.params) mg base (CXE l.prog w) 112 fa fd ["_law_script"] (S2.zns (K w.params))):
  PySem.W.WalkO q loose XP J l.row.toRowW d [] (fun f vs=>PySem.call f vs):=
 L2.zpT (n:=63) (k:=112) (x:="_law_script") (CX:=fun w=>CXE l.prog w) (sp:=fun w=>S2.zns (K w.params)) U (by decide) I ⟨rfl,by decide,by decide⟩ hY F (fun _ _ a ns b e c=>⟨a,ns,rfl,b,e,c,fun _=>rfl⟩) (by rintro _ _ _ _ _ ⟨_,_,_,_,_,_,_,_,_,_,_,_,_,_,z⟩;exact z)
end M80
namespace PySem.W.Fast
noncomputable def tw10795574131786674271:=0
noncomputable def tw10382459919758953573:=0
noncomputable def tw5796187669467905450:=0
noncomputable def tw8439160048010012570:=0
noncomputable def tw13983182591345381686:=0
noncomputable def tw15082932713469440288:=0
noncomputable def tw17341987191100467699:=0
noncomputable def tw17303248547102915562:=0
noncomputable def tw3007258153624313914:=0
noncomputable def tw5346689691880188628:=0
noncomputable def tw7922456833850383580:=0
noncomputable def tw16851450400894703181:=0
noncomputable def tw11646588286201378501:=0
noncomputable def tw7788602175510443886:=0
noncomputable def tw15376744452353445183:=0
noncomputable def tw1041216277354919043:=0
noncomputable def tw7684712372466341508:=0
noncomputable def tw3219597369049595068:=0
noncomputable def tw16661340902772479329:=0
noncomputable def tw1598075541117613351:=0
noncomputable def tw17930911506766257912:=0
noncomputable def tw10764452875943661380:=0
noncomputable def tw7597733458811291394:=0
noncomputable def tw7951316923183195347:=0
noncomputable def tw14571159895696181484:=0
noncomputable def tw10695473940827747856:=0
noncomputable def tw14282149894634473430:=0
noncomputable def tw15953870428643140592:=0
noncomputable def tw15453730492593156370:=0
noncomputable def tw1454661975636162901:=0
noncomputable def tw46465573186449518:=0
noncomputable def tw11314106806271041078:=0
noncomputable def tw6425297580514377020:=0
noncomputable def tw6387461742086240090:=0
noncomputable def tw12369628634657074848:=0
noncomputable def tw8832772113222577616:=0
noncomputable def tw13627279138262365946:=0
noncomputable def tw3752693377747614157:=0
noncomputable def tw8041065928168994291:=0
noncomputable def tw15400806014577166970:=0
noncomputable def tw13644832349912684570:=0
noncomputable def tw8178655415951715474:=0
noncomputable def tw16005834060716965425:=0
noncomputable def tw5194042239270857968:=0
noncomputable def tw495168790630645434:=0
noncomputable def tw17761429214492490951:=0
noncomputable def tw11480459323137097861:=0
noncomputable def tw7954330767846061439:=0
noncomputable def tw9487540576582619691:=0
noncomputable def tw7304832381784699680:=0
noncomputable def tw9722868694938855341:=0
noncomputable def tw18297998866767943822:=0
noncomputable def tw566766431040335853:=0
noncomputable def tw17998136161588922354:=0
noncomputable def tw9041769075768613597:=0
noncomputable def tw1835249592908160581:=0
noncomputable def tw12697262641000110323:=0
noncomputable def tw3097427158001313365:=0
noncomputable def tw15544855143310918243:=0
noncomputable def tw14878306044460658293:=0
noncomputable def tw12331607717958234796:=0
noncomputable def tw12245064801416848213:=0
noncomputable def tw11844283527391404340:=0
noncomputable def tw10280886854926729691:=0
noncomputable def tw367161603383709284:=0
noncomputable def tw16972423075970268667:=0
noncomputable def tw10783207056892339792:=0
noncomputable def tw7274575696148524472:=0
noncomputable def tw15865440349816603336:=0
noncomputable def tw10519516581128551436:=0
noncomputable def tw7747758005849361487:=0
noncomputable def tw14828114943579082890:=0
noncomputable def tw15037507343681143709:=0
noncomputable def tw10852334382713264021:=0
noncomputable def tw5234231242140176345:=0
noncomputable def tw12978990766526069604:=0
noncomputable def tw9767909460587259197:=0
noncomputable def tw8445670789829733934:=0
noncomputable def tw6679406717505169453:=0
noncomputable def tw6456162143586527374:=0
noncomputable def tw713513926792420251:=0
noncomputable def tw15499654044807558577:=0
noncomputable def tw1894855419589229816:=0
noncomputable def tw13527065991921567121:=0
noncomputable def tw6752585818625946498:=0
noncomputable def tw9758733045087806396:=0
noncomputable def tw4787123353059690320:=0
noncomputable def tw3321280300418640697:=0
noncomputable def tw6764169805796089133:=0
noncomputable def tw13289242135511124683:=0
noncomputable def tw13656516266669003698:=0
noncomputable def tw11741991598116936497:=0
noncomputable def tw10400757644721876031:=0
noncomputable def tw10959759019873086657:=0
noncomputable def tw7116822897900658007:=0
noncomputable def tw938999764055153074:=0
noncomputable def tw7634194345431725011:=0
noncomputable def tw17603131722144246553:=0
noncomputable def tw1535166151151546013:=0
noncomputable def tw12053272593646442900:=0
noncomputable def tw14628569594586645584:=0
noncomputable def tw13976881723196341578:=0
noncomputable def tw9960480101855632034:=0
noncomputable def tw10653739500470125407:=0
noncomputable def tw2027770313942967749:=0
noncomputable def tw7305178340592885195:=0
noncomputable def tw9233883689411338468:=0
noncomputable def tw3042615552209822864:=0
noncomputable def tw6631154184061952620:=0
noncomputable def tw1783305917882483793:=0
noncomputable def tw9007890477457175935:=0
noncomputable def tw5027703882510103026:=0
noncomputable def tw15674376378377413971:=0
noncomputable def tw2805809546761232984:=0
noncomputable def tw7125378894042762182:=0
noncomputable def tw3440381114386238508:=0
noncomputable def tw4837628935080020070:=0
noncomputable def tw11979501336985403577:=0
noncomputable def tw15522499333572850065:=0
noncomputable def tw9385089328439779193:=0
noncomputable def tw8863081089463608291:=0
noncomputable def tw12832735579070605463:=0
noncomputable def tw4299791167087844046:=0
noncomputable def tw9390686858256224959:=0
noncomputable def tw15774792215413764756:=0
noncomputable def tw10922590030518041733:=0
noncomputable def tw4885316326697218180:=0
noncomputable def tw12974091886088057573:=0
noncomputable def tw17006267408359876644:=0
noncomputable def tw18358130458364543778:=0
noncomputable def tw3064221430748203489:=0
noncomputable def tw11164292853453097391:=0
noncomputable def tw16607971493124874704:=0
noncomputable def tw940462764597450241:=0
noncomputable def tw6675981781831946871:=0
noncomputable def tw2192235523624356223:=0
noncomputable def tw6612068615744038846:=0
noncomputable def tw18335236352869606246:=0
noncomputable def tw6061469417042921718:=0
noncomputable def tw2237941625067586508:=0
noncomputable def tw15615125383501729470:=0
noncomputable def tw12129596676247478469:=0
noncomputable def tw7166513855704018116:=0
noncomputable def tw1899527276000026089:=0
noncomputable def tw5500827940908707592:=0
noncomputable def tw9248555088057795711:=0
noncomputable def tw8066054247439724138:=0
noncomputable def tw3414806357417877098:=0
noncomputable def tw10630459741508087681:=0
noncomputable def tw8059102895512300326:=0
noncomputable def tw15956785802278940933:=0
noncomputable def tw13832563439399490605:=0
noncomputable def tw6801760792309374041:=0
noncomputable def tw3869387114306596614:=0
noncomputable def tw14575101875133107969:=0
noncomputable def tw14212339344038612009:=0
noncomputable def tw16870534373098070819:=0
noncomputable def tw4613258748085994316:=0
noncomputable def tw16273604750657710743:=0
noncomputable def tw4621612052467332076:=0
noncomputable def tw12408280466978325327:=0
noncomputable def tw6969675903990409411:=0
noncomputable def tw11943989398018882340:=0
noncomputable def tw7135367223418016059:=0
noncomputable def tw17746222483138025867:=0
noncomputable def tw7825600800214184838:=0
noncomputable def tw10932653123379528296:=0
noncomputable def tw1520816089190955860:=0
noncomputable def tw12101407785114442443:=0
noncomputable def tw1904958726267446021:=0
noncomputable def tw6942815980261658422:=0
noncomputable def tw2010972011497443389:=0
noncomputable def tw14650347557412006216:=0
noncomputable def tw7169352396555360583:=0
noncomputable def tw6562768334887763069:=0
noncomputable def tw3059210010331225819:=0
noncomputable def tw7505885749161973246:=0
noncomputable def tw2285255550904559427:=0
noncomputable def tw11978850094416166389:=0
noncomputable def tw125795477126520851:=0
noncomputable def tw10201266350915318426:=0
noncomputable def tw12619589674931842989:=0
noncomputable def tw14452826211429202485:=0
noncomputable def tw11402280014935876609:=0
noncomputable def tw13907308865061842636:=0
noncomputable def tw16672020419613306839:=0
noncomputable def tw10342488933512843972:=0
noncomputable def tw2105996367216385157:=0
noncomputable def tw8753344388543520897:=0
noncomputable def tw6588412408783041769:=0
noncomputable def tw7216316277109447391:=0
noncomputable def tw17061291962393630569:=0
noncomputable def tw10705185712529173020:=0
noncomputable def tw7851608262153031626:=0
noncomputable def tw12859712885017123301:=0
noncomputable def tw2317947417029834483:=0
noncomputable def tw10004611601774048690:=0
noncomputable def tw17895653887146968766:=0
noncomputable def tw5996393828300401412:=0
noncomputable def tw6778886731440012690:=0
noncomputable def tw4253316057528752252:=0
noncomputable def tw7291660843453050691:=0
noncomputable def tw12862814067328059810:=0
noncomputable def tw4569602778228674967:=0
noncomputable def tw10348236592962536783:=0
noncomputable def tw3506861470221959702:=0
noncomputable def tw13660328576843737701:=0
noncomputable def tw4198533407344928569:=0
noncomputable def tw4728082319603200036:=0
noncomputable def tw16289937379920331462:=0
noncomputable def tw12961491182243595432:=0
noncomputable def tw1632325735545690496:=0
noncomputable def tw2698965104217850444:=0
noncomputable def tw12252870799417637031:=0
noncomputable def tw14540163862441662094:=0
noncomputable def tw3616487735898174384:=0
noncomputable def tw189292636814830880:=0
noncomputable def tw104799684018418900:=0
noncomputable def tw992508206592755605:=0
noncomputable def tw6748205271184513057:=0
noncomputable def tw216920507513269104:=0
noncomputable def tw6551132461773013799:=0
noncomputable def tw14513272732505196900:=0
noncomputable def tw11678229386330987608:=0
noncomputable def tw9505941194507422902:=0
noncomputable def tw7835107248321380712:=0
noncomputable def tw6540898965996645304:=0
noncomputable def tw443343640940177390:=0
noncomputable def tw15998900485884549645:=0
noncomputable def tw7007096458571082978:=0
noncomputable def tw16907776956260268236:=0
noncomputable def tw7613771981356174180:=0
noncomputable def tw16757334168520236049:=0
noncomputable def tw5755738597980234534:=0
noncomputable def tw11025834187142143883:=0
noncomputable def tw3706720604411621197:=0
noncomputable def tw17463891716351800742:=0
noncomputable def tw16340336771793410320:=0
noncomputable def tw11140426220044579338:=0
noncomputable def tw11133041537845398259:=0
noncomputable def tw6966572777713066775:=0
noncomputable def tw18337688284515430297:=0
noncomputable def tw14603612638646240375:=0
noncomputable def tw11353131996912755475:=0
noncomputable def tw9652387608211031225:=0
noncomputable def tw16331015828594137881:=0
noncomputable def tw3630278477079490187:=0
noncomputable def tw5465432502125842739:=0
noncomputable def tw12004089841186808484:=0
noncomputable def tw8176791466030104265:=0
noncomputable def tw15981853041729374438:=0
noncomputable def tw3826675804175197671:=0
noncomputable def tw3627991578335750376:=0
noncomputable def tw15426559253450972098:=0
noncomputable def tw9889393394484675515:=0
noncomputable def tw6750566684375158304:=0
noncomputable def tw13800837802125064557:=0
noncomputable def tw6535990647942171824:=0
noncomputable def tw17571611473251811353:=0
noncomputable def tw555270963122781089:=0
noncomputable def tw3051322610832617238:=0
noncomputable def tw7811985370185575446:=0
noncomputable def tw3864933491020741727:=0
noncomputable def tw15866424607589481171:=0
noncomputable def tw1399560120922590321:=0
noncomputable def tw8857443578634049924:=0
noncomputable def tw7341272803352373481:=0
noncomputable def tw13268805605270408684:=0
noncomputable def tw8225395280769984973:=0
noncomputable def tw8859272450853129285:=0
noncomputable def tw6033026129867593571:=0
noncomputable def tw3875455829364538280:=0
noncomputable def tw14110662838304363287:=0
noncomputable def tw8129408527914728962:=0
noncomputable def tw4774265235920673993:=0
noncomputable def tw11431856479475876777:=0
noncomputable def tw8414652765683207024:=0
noncomputable def tw724862552839920572:=0
noncomputable def tw4648783597876419381:=0
noncomputable def tw5093588365963430398:=0
noncomputable def tw17357740999434746792:=0
noncomputable def tw16753916700713626964:=0
noncomputable def tw14829135430332423050:=0
noncomputable def tw9089324283333181:=0
noncomputable def tw10934058003914808848:=0
noncomputable def tw5103938019334607294:=0
noncomputable def tw17428966163665154264:=0
noncomputable def tw17020558820695572000:=0
noncomputable def tw13534431175397374727:=0
noncomputable def tw12920261131058637735:=0
noncomputable def tw6618474361785290834:=0
noncomputable def tw5951713741174157392:=0
noncomputable def tw4151846552898990943:=0
noncomputable def tw2522192669016891835:=0
noncomputable def tw17247305679350770385:=0
noncomputable def tw6099211710037317595:=0
noncomputable def tw15774366809386261041:=0
noncomputable def tw16404874257844098705:=0
noncomputable def tw12287390988367830577:=0
noncomputable def tw11162525714512569176:=0
noncomputable def tw15217917328316252743:=0
noncomputable def tw5713140900213154000:=0
noncomputable def tw7581333150613373544:=0
noncomputable def tw8448214184681190613:=0
noncomputable def tw543883749574742299:=0
noncomputable def tw11421134029154895016:=0
noncomputable def tw15769552757606586041:=0
noncomputable def tw7707545955766898794:=0
noncomputable def tw3281436606124033242:=0
noncomputable def tw15524905191554838792:=0
noncomputable def tw12744852405372670190:=0
noncomputable def tw12430146900197048992:=0
noncomputable def tw16094224742206762720:=0
noncomputable def tw14902195304275156117:=0
noncomputable def tw38935477499358842:=0
noncomputable def tw14738109567750390903:=0
noncomputable def tw13292341448985037268:=0
noncomputable def tw10106408684489513855:=0
noncomputable def tw5514714432234631248:=0
noncomputable def tw10852351656481120985:=0
noncomputable def tw178524480527095513:=0
noncomputable def tw15949433825208178383:=0
noncomputable def tw15554693430791765934:=0
noncomputable def tw13039625176102259622:=0
noncomputable def tw4760889730218314165:=0
noncomputable def tw17874624296237909967:=0
noncomputable def tw17479320445215620475:=0
noncomputable def tw16929664046532699704:=0
noncomputable def tw14533762283614248475:=0
noncomputable def tw9379605182975619245:=0
noncomputable def tw8115937504893455762:=0
noncomputable def tw4330766539022274421:=0
noncomputable def tw14652621874427385833:=0
noncomputable def tw11326970759857780617:=0
noncomputable def tw7147879475202014257:=0
noncomputable def tw5621055450845041536:=0
noncomputable def tw15626929181088399582:=0
noncomputable def tw1246317976067397476:=0
noncomputable def tw11401997298067249370:=0
noncomputable def tw967330245485564969:=0
noncomputable def tw4354454990552822119:=0
noncomputable def tw10120353657873884185:=0
noncomputable def tw9575048124563726556:=0
noncomputable def tw4210837050970793018:=0
noncomputable def tw6481697165359410129:=0
noncomputable def tw11750460989312383152:=0
noncomputable def tw1379175314373726578:=0
noncomputable def tw11681909994160297486:=0
noncomputable def tw12504991990634931806:=0
noncomputable def tw1829425667644738930:=0
end PySem.W.Fast
open PySem PySem.W PyProof.Rows
set_option maxRecDepth 100000 in
set_option maxHeartbeats 0 in
theorem PySem.Challenge.cw_floorfits_k80_whole_painter_holds : PySem.Challenge.rw_floorfits_k80_whole_painter.Holds := by
 w_on;o_law;k_head;(case hw=>w_witness2)
 k_fill
 refine M80.walk (l:=PySem.Challenge.rw_floorfits_k80_whole_painter) rfl rfl (fun w h Y=>PySem.W.kIn_of Y) ?F
 case F=>
  intro w mg fa h d G b;refine' M80.all_mk d G b ?nyWays ?pgWays ?hdWays ?poWays ?saWays ?mkWays ?kpWays ?naWaystiles ?naWaysground ?naWayssize ?naWaysis_round ?naWaysknown ?nyPainter ?pgPainter ?hdPainter ?poPainter ?saPainter ?mkPainter ?kpPainter ?naPaintertiles ?naPainternow ?naPainterbefore ?naPainterafter ?a24 ?i24 ?l24 ?c24 ?k24 ?dk24 ?a71 ?l71 ?c71 ?k71 ?z1 ?z2 ?z3 ?z4 ?z5 ?z6 ?z7 ?z8 ?z9 ?z10 ?z11 ?z12 ?z13 ?z14 ?gl1 ?gl2 ?gl3 ?gl4 ?n0 ?x0 ?n1 ?x1 ?n2 ?x2 ?n3 ?x3 ?n4 ?x4 ?n5 ?x5 ?n6 ?x6 ?lk1 ?mr1 ?ga1 ?gt1 ?cc1 ?lk2 ?mr2 ?ga2 ?gt2 ?cc2 ?lk3 ?mr3 ?ga3 ?gt3 ?cc3 ?lk5 ?mr5 ?ga5 ?gt5 ?cc5 ?nd ?_ ?_ ?_ ?_ ?_ ?_ ?_ ?_ ?_ ?_ ?_ ?_ ?_ ?_ ?_ ?_ ?_ ?_ ?_ ?_ ?_ ?_ ?_ ?_ ?_ ?_ ?_ ?_ ?_ ?_ ?_ ?_ ?_ ?_ ?_ ?_ ?_ ?_ ?_ ?_ ?_ ?_ ?_ ?_ ?_ ?_ ?_ ?_ ?_ ?_ ?_ ?_ ?_ ?_ ?_ ?_ ?_ ?_ ?_ ?_ ?_ ?_ ?_ ?_ ?_ ?_ ?_ ?_ ?_
  (case nyWays=>k_is);(case pgWays=>k_is);(case hdWays=>k_is);(case poWays=>k_is)
  (case saWays=>k_is);(case mkWays=>k_is);(case kpWays=>k_is);(case naWaystiles=>k_is)
  (case naWaysground=>k_is);(case naWayssize=>k_is);(case naWaysis_round=>k_is);(case naWaysknown=>k_is)
  (case nyPainter=>k_is);(case pgPainter=>k_is);(case hdPainter=>k_is);(case poPainter=>k_is)
  (case saPainter=>k_is);(case mkPainter=>k_is);(case kpPainter=>k_is);(case naPaintertiles=>k_is)
  (case naPainternow=>k_is);(case naPainterbefore=>k_is);(case naPainterafter=>k_is);(case a24=>k_is)
  (case i24=>k_is);(case l24=>k_is);(case c24=>k_is);(case k24=>k_is)
  (case dk24=>k_is);(case a71=>k_is);(case l71=>k_is);(case c71=>k_is)
  (case k71=>k_is);(case z1=>k_is);(case z2=>k_is);(case z3=>k_is)
  (case z4=>k_is);(case z5=>k_is);(case z6=>k_is);(case z7=>k_is)
  (case z8=>k_is);(case z9=>k_is);(case z10=>k_is);(case z11=>k_is)
  (case z12=>k_is);(case z13=>k_is);(case z14=>k_is);(case gl1=>k_is)
  (case gl2=>k_is);(case gl3=>k_is);(case gl4=>k_is);(case n0=>k_is)
  (case x0=>k_exc);(case n1=>k_is);(case x1=>k_exc);(case n2=>k_is)
  (case x2=>k_exc);(case n3=>k_is);(case x3=>k_exc);(case n4=>k_is)
  (case x4=>k_exc);(case n5=>k_is);(case x5=>k_exc);(case n6=>k_is)
  (case x6=>k_exc);(case lk1=>k_is);(case mr1=>with_unfolding_all rfl);(case ga1=>k_is)
  (case gt1=>k_is);(case cc1=>k_is);(case lk2=>k_is);(case mr2=>with_unfolding_all rfl)
  (case ga2=>k_is);(case gt2=>k_is);(case cc2=>k_is);(case lk3=>k_is)
  (case mr3=>with_unfolding_all rfl);(case ga3=>k_is);(case gt3=>k_is);(case cc3=>k_is)
  (case lk5=>k_is);(case mr5=>with_unfolding_all rfl);(case ga5=>k_is);(case gt5=>k_is)
  (case cc5=>k_is);(case nd=>decide)
  all_goals ((first|refine' M80.gm ?a ?l ?c ?k ?i|refine' M80.mm ?a ?l ?c ?k ?i);(case a=>k_is);(case l=>k_is);(case c=>k_is);(case k=>k_is);(case i=>k_is))
#print axioms PySem.Challenge.cw_floorfits_k80_whole_painter_holds
end
